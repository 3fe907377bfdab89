import PyProof.Rows.All
import Wide.All
import OpenK.AllK
import Wide.FinOn
import Lean
import PyProof.EqAt
import PyProof.EqKinds
import PyProof.TupleCall
import PyProof.ExcArgsOwn
import KE.KTryMore
import PyProof.NsDelKeeps
import PyProof.ConsumeWalk
import PyProof.ZipIter
import PyProof.WalksEnum
import PyProof.EnumMake
import PyProof.NeKinds
import KE.KRevIter
import PyProof.ListRange
import PySem.Challenge.RW_oneleash_k06_whole_roots_parted
section
set_option Elab.async false
set_option linter.all false
set_option maxRecDepth 100000
namespace L2
open PySem PySem.Spec PyProof.Rows
abbrev Key := Sum Int Str
def keyIs : Key → Value → Bool
  | .inl k,v => Value.isInt k v
  | .inr x,v => Value.isStrOf x v
def keyH (w : World) : Key → Int
  | .inl k => hashInt k
  | .inr x => hashStr w x
theorem keyIs_shape : ∀ {k : Key} {v : Value},keyIs k v = true → (∃ i t,k = Sum.inl i ∧ v = Value.int i t) ∨ (∃ x t,k = Sum.inr x ∧ v = Value.str x t)
  | .inl i,v,h => by
    obtain ⟨t,e⟩ := Value.isInt_shape (k := i) (v := v) h
    exact .inl ⟨i,t,rfl,e⟩
  | .inr x,v,h => by
    obtain ⟨t,e⟩ := Value.isStrOf_shape (x := x) (v := v) h
    exact .inr ⟨x,t,rfl,e⟩
theorem key_ll (a b : Int) : decide ((Sum.inl a : Key) = Sum.inl b) = (a == b) := by
  by_cases e : a = b
  · subst e; simp
  · have h : ¬ (Sum.inl a : Key) = Sum.inl b := fun q => e (Sum.inl.inj q)
    rw [decide_eq_false h]
    exact (beq_eq_false_iff_ne.mpr e).symm
theorem key_rr (a b : Str) : decide ((Sum.inr a : Key) = Sum.inr b) = decide (a = b) := by
  by_cases e : a = b
  · subst e; simp
  · have h : ¬ (Sum.inr a : Key) = Sum.inr b := fun q => e (Sum.inr.inj q)
    rw [decide_eq_false h,decide_eq_false e]
theorem key_lr (a : Int) (b : Str) : decide ((Sum.inl a : Key) = Sum.inr b) = false := decide_eq_false (fun q => nomatch q)
theorem key_rl (a : Str) (b : Int) : decide ((Sum.inr a : Key) = Sum.inl b) = false := decide_eq_false (fun q => nomatch q)
def mixKind (prog : Program) (w : World) : PySem.KeyKind prog w Key where
  is := keyIs
  hash := keyH w
  inj := fun v a b ha hb => by
    rcases keyIs_shape ha with ⟨i,t,rfl,rfl⟩ | ⟨x,t,rfl,rfl⟩
    · rcases keyIs_shape hb with ⟨j,u,rfl,e⟩ | ⟨y,u,rfl,e⟩
      · injection e with e1 _; rw [e1]
      · exact nomatch e
    · rcases keyIs_shape hb with ⟨j,u,rfl,e⟩ | ⟨y,u,rfl,e⟩
      · exact nomatch e
      · injection e with e1 _; rw [e1]
  byValue := fun k v h => by
    rcases keyIs_shape h with ⟨i,t,rfl,rfl⟩ | ⟨x,t,rfl,rfl⟩ <;> rfl
  pyHash := fun hv h => by
    rcases keyIs_shape hv with ⟨i,t,rfl,rfl⟩ | ⟨x,t,rfl,rfl⟩
    · exact wpAny_pyHash_int h
    · exact wpAny_pyHash_str h
  eqBool := fun hu hv h => by
    rcases keyIs_shape hu with ⟨i,t,rfl,rfl⟩ | ⟨x,t,rfl,rfl⟩
    · rcases keyIs_shape hv with ⟨j,u,rfl,rfl⟩ | ⟨y,u,rfl,rfl⟩
      · rw [key_ll] at h; exact wpAny_eqBool_int h
      · rw [key_lr] at h; exact SeqAt.EqAt.int_str i t y u _ _ _ _ h
    · rcases keyIs_shape hv with ⟨j,u,rfl,rfl⟩ | ⟨y,u,rfl,rfl⟩
      · rw [key_rl] at h; exact SeqAt.EqAt.str_int x t j u _ _ _ _ h
      · rw [key_rr] at h; exact wpAny_eqBool_str h
  «strs» := fun k x t v h => by
    rcases keyIs_shape h with ⟨i,u,rfl,e⟩ | ⟨y,u,rfl,e⟩
    · exact nomatch e
    · injection e with e1 _
      subst e1
      cases v <;> rfl
end L2
namespace L2
open PySem PySem.Spec PyProof.Rows
inductive V where
  | non | bl (b : Bool) | int (i : Int) | str (x : Str) | byt (b : Array UInt8) | flt (b : UInt64) | ref (a : Addr) | ty (n : String)
  deriving DecidableEq
def RelV : V → Value → Prop
  | .non,u => u = Value.none
  | .bl b,u => u = Value.bool b
  | .int i,u => ∃ t,u = Value.int i t
  | .str x,u => ∃ t,u = Value.str x t
  | .byt b,u => ∃ t,u = Value.bytes b t
  | .flt b,u => ∃ t,u = Value.float b t
  | .ref a,u => u = Value.ref a
  | .ty n,u => u = Value.type n
abbrev Vals : List V → List Value → Prop := Paired RelV
theorem Vals.length {xs : List V} {us : List Value} (r : Vals xs us) : xs.length = us.length := Paired.length r
theorem Vals.get : ∀ {xs : List V} {us : List Value} {i : Nat} {x : V},Vals xs us → xs[i]? = some x → ∃ u,us[i]? = some u ∧ RelV x u
  | _,_,_,_,.nil,e => by simp at e
  | _,_,0,_,.cons r _,e => by simp at e; subst e; exact ⟨_,rfl,r⟩
  | _,_,i + 1,x,.cons _ t,e => by
    obtain ⟨u,h1,h2⟩ := Vals.get (i := i) (x := x) t (by simpa using e)
    exact ⟨u,by simpa using h1,h2⟩
theorem Vals.append : ∀ {xs ys : List V} {us ws : List Value},Vals xs us → Vals ys ws → Vals (xs ++ ys) (us ++ ws)
  | _,_,_,_,.nil,s => s
  | _,_,_,_,.cons r t,s => .cons r (Vals.append t s)
theorem Vals.take : ∀ {xs : List V} {us : List Value} (n : Nat),Vals xs us → Vals (xs.take n) (us.take n)
  | _,_,0,_ => .nil
  | _,_,_ + 1,.nil => .nil
  | _,_,n + 1,.cons r t => .cons r (Vals.take n t)
theorem Vals.drop : ∀ {xs : List V} {us : List Value} (n : Nat),Vals xs us → Vals (xs.drop n) (us.drop n)
  | _,_,0,r => r
  | _,_,_ + 1,.nil => .nil
  | _,_,n + 1,.cons _ t => Vals.drop n t
def RelO : Option V → Option Value → Prop
  | some v,some u => RelV v u
  | none,none => True
  | _,_ => False
def KV {κ : Type} : List (κ × V) → List (κ × Value) → Prop := Paired fun (p : κ × V) (q : κ × Value) => p.1 = q.1 ∧ RelV p.2 q.2
def kV : Key → V
  | .inl i => .int i
  | .inr x => .str x
inductive HO where
  /-- a list -/
  | lst (xs : List V)
  /-- a tuple (never changes) -/
  | tup (xs : List V)
  /-- a dict whose keys are ints and texts; one whose keys are tuples of ints and texts (the empty one is both) -/
  | dK (kvs : List (Key × V)) | dT (kvs : List (List Key × V))
  /-- a set of ints: its members,its size -/
  | set (S : Int → Bool) (n : Nat)
  /-- an instance of the class at C,its dict at dx,its attributes -/
  | ins (C dx : Addr) (fs : List (Str × V))
  /-- the dict of the instance at x -/
  | own (x : Addr)
  /-- the dict of an exception -/
  | xd (fs : List (Str × V))
  /-- a bound method,f of x -/
  | met (f x : Addr)
  /-- a range object lo,lo + 1,.. below hi -/
  | rng (lo hi : Int)
  /-- a thing that is known to the object (the script; a dict while a loop walks it): read,never written while it is so -/
  | frz (o : Obj) (u : HO)
  /-- a code object's table -/
  | tbl (ps : Array Value)
  /-- any other thing,by what is true of its one object (a def of one's own: SetO a S n := HO.ext fun h => ..) -/
  | ext (φ : Heap → Prop)
abbrev Hp := Addr → Option HO
def upd (H : Hp) (a : Addr) (o : HO) : Hp := fun b => if b = a then some o else H b
theorem upd_same {H : Hp} {a : Addr} {o : HO} : upd H a o a = some o := by unfold upd; rw [if_pos rfl]
theorem upd_ne {H : Hp} {a b : Addr} {o : HO} (h : b ≠ a) : upd H a o b = H b := by unfold upd; rw [if_neg h]
theorem ne_of_none {H : Hp} {a b : Addr} {o : HO} (h : H a = some o) (h' : H b = none) : a ≠ b := by
  intro e; subst e; rw [h] at h'; cases h'
section
variable (P : Program) (w : World)
def ObjOk (H : Hp) (h : Heap) (a : Addr) : HO → Prop
  | .lst xs => xs.length ≤ sizeLine ∧ ∃ (its : List Value) (n : Nat),Vals xs its ∧ h.get? a = some { cls := .type "list",data := .seq its.toArray n }
  | .tup xs => xs.length ≤ sizeLine ∧ ∃ its : List Value,Vals xs its ∧ IsTup h a its.toArray
  | .dK kvs => kvs.length ≤ sizeLine ∧ (a == sysModules) = false ∧ ∃ vs,KV kvs vs ∧ h.DictOf (mixKind P w) a vs
  | .dT kvs => kvs.length ≤ sizeLine ∧ (a == sysModules) = false ∧ ∃ xs : List (List Key × Addr × Value),
      Paired (fun (p : List Key × V) (q : List Key × Addr × Value) => p.1 = q.1 ∧ H q.2.1 = some (.tup (p.1.map kV)) ∧ RelV p.2 q.2.2) kvs xs ∧
      ∃ o es ep,h.get? a = some o ∧ o.ExactDict ∧ o.data = .dict es ep ∧ es.toList = xs.map (entryOfKey (tupleKind (mixKind P w))) ∧ (xs.map (·.1)).Nodup
  | .set S n => h.SetOf (intKind P w) a S n
  | .ins C dx fs => H dx = some (.own a) ∧ fs.length ≤ 1000 ∧ dx ≠ a ∧ h.get? a = some (PySem.W.instObj C dx) ∧
      ∃ mA,h.Ns1 dx mA ∧ (∀ f,RelO (fs.lookup f) (mA f)) ∧ PySem.Within mA (fs.map (·.1))
  | .own _ => ∃ o,h.get? a = some o
  | .xd fs => ∃ mA,h.Ns1 a mA ∧ ∀ f,RelO (fs.lookup f) (mA f)
  | .rng lo hi => ∃ t u v,h.get? a = some { cls := .type "range",data := .fields #[.int lo t,.int hi u,.int 1 v] }
  | .frz o u => h.get? a = some o ∧ ObjOk H h a u
  | .tbl ps => h.get? a = some { cls := .none,data := .fields ps }
  | .met f x => h.get? a = some (PySem.W.methodObj (.ref f) (.ref x))
  | .ext φ => φ h ∧ (∃ o,h.get? a = some o) ∧ ∀ h1 h2 : Heap,φ h1 → (∀ o,h1.get? a = some o → h2.get? a = some o) → φ h2
def HOk (H : Hp) (h : Heap) : Prop := ∀ a o,H a = some o → ObjOk P w H h a o
end
section
variable {P : Program} {w : World} {H H' : Hp} {h h' : Heap} {a : Addr} {o : HO}
theorem ObjOk.lt (x : ObjOk P w H h a o) : a < h.objs.size := by
  cases o with
  | lst xs => obtain ⟨_,_,_,_,e⟩ := x; exact Heap.lt_size e
  | tup xs => obtain ⟨_,_,_,p⟩ := x; exact p.lt
  | dK kvs => obtain ⟨_,_,_,_,o,_,_,e,_⟩ := x; exact Heap.lt_size e
  | dT kvs => obtain ⟨_,_,_,_,o,_,_,e,_⟩ := x; exact Heap.lt_size e
  | set S n => obtain ⟨o,_,_,_,e,_⟩ := x; exact Heap.lt_size e
  | ins C dx fs => obtain ⟨_,_,_,e,_⟩ := x; exact Heap.lt_size e
  | own y => obtain ⟨_,e⟩ := x; exact Heap.lt_size e
  | xd fs => obtain ⟨_,⟨_,_,_,e,_⟩,_⟩ := x; exact Heap.lt_size e
  | rng lo hi => obtain ⟨_,_,_,e⟩ := x; exact Heap.lt_size e
  | frz ob u => obtain ⟨e,_⟩ := x; exact Heap.lt_size e
  | tbl ps => exact Heap.lt_size (show h.get? a = some _ from x)
  | met f y => exact Heap.lt_size (show h.get? a = some _ from x)
  | ext φ => obtain ⟨_,⟨_,e⟩,_⟩ := x; exact Heap.lt_size e
theorem Paired.mapP {α β : Type} {F G : α → β → Prop} : ∀ {l₁ : List α} {l₂ : List β},Paired F l₁ l₂ → (∀ a b,F a b → G a b) → Paired G l₁ l₂
  | _,_,.nil,_ => .nil
  | _,_,.cons r t,f => .cons (f _ _ r) (Paired.mapP t f)
theorem ObjOk.stay (x : ObjOk P w H h a o) (k : ∀ b u,(b = a ∨ H b = some (.own a)) → h.get? b = some u → h'.get? b = some u)
    (ho : ∀ b,H b = some (.own a) → H' b = some (.own a)) (ht : ∀ b xs,H b = some (.tup xs) → H' b = some (.tup xs)) : ObjOk P w H' h' a o := by
  induction o with
  | lst xs => obtain ⟨z,its,n,r,e⟩ := x; exact ⟨z,its,n,r,k _ _ (.inl rfl) e⟩
  | tup xs => obtain ⟨z,its,r,ob,e,c⟩ := x; exact ⟨z,its,r,ob,k _ _ (.inl rfl) e,c⟩
  | dK kvs => obtain ⟨z,y,vs,r,ob,es,ep,e,c⟩ := x; exact ⟨z,y,vs,r,ob,es,ep,k _ _ (.inl rfl) e,c⟩
  | dT kvs =>
    obtain ⟨z,y,xs,r,ob,es,ep,e,c⟩ := x
    exact ⟨z,y,xs,Paired.mapP r fun p q z => ⟨z.1,ht _ _ z.2.1,z.2.2⟩,ob,es,ep,k _ _ (.inl rfl) e,c⟩
  | set S n => obtain ⟨ob,es,ep,t,e,c⟩ := x; exact ⟨ob,es,ep,t,k _ _ (.inl rfl) e,c⟩
  | ins C dx fs =>
    obtain ⟨d,z,ne,e,mA,⟨od,es,ep,e2,c⟩,r⟩ := x
    exact ⟨ho _ d,z,ne,k _ _ (.inl rfl) e,mA,⟨od,es,ep,k _ _ (.inr d) e2,c⟩,r⟩
  | own y => obtain ⟨ob,e⟩ := x; exact ⟨ob,k _ _ (.inl rfl) e⟩
  | xd fs => obtain ⟨mA,⟨od,es,ep,e,c⟩,r⟩ := x; exact ⟨mA,⟨od,es,ep,k _ _ (.inl rfl) e,c⟩,r⟩
  | rng lo hi => obtain ⟨t,u,v,e⟩ := x; exact ⟨t,u,v,k _ _ (.inl rfl) e⟩
  | frz ob u ih => obtain ⟨e,q⟩ := x; exact ⟨k _ _ (.inl rfl) e,ih q⟩
  | tbl ps =>
    have e : h.get? a = some { cls := .none,data := .fields ps } := x
    show h'.get? a = some { cls := .none,data := .fields ps }
    exact k a _ (.inl rfl) e
  | met f y =>
    have e : h.get? a = some (PySem.W.methodObj (.ref f) (.ref y)) := x
    show h'.get? a = some (PySem.W.methodObj (.ref f) (.ref y))
    exact k a _ (.inl rfl) e
  | ext φ => obtain ⟨p,⟨o,e⟩,st⟩ := x; exact ⟨st _ _ p fun o q => k _ _ (.inl rfl) q,⟨o,k _ _ (.inl rfl) e⟩,st⟩
theorem HOk.lt (x : HOk P w H h) (e : H a = some o) : a < h.objs.size := (x a o e).lt
theorem HOk.fresh (x : HOk P w H h) (e : h.objs.size ≤ a) : H a = none := by
  cases q : H a with
  | none => rfl
  | some u => exact absurd (Nat.lt_of_lt_of_le (x.lt q) e) (Nat.lt_irrefl _)
theorem HOk.kept (x : HOk P w H h) (k : ∀ b u,h.get? b = some u → h'.get? b = some u) : HOk P w H h' := fun a o e =>
  (x a o e).stay (fun b u _ q => k b u q) (fun _ q => q) fun _ _ q => q
theorem HOk.laid (x : HOk P w H h) (k : ∀ b u,h.get? b = some u → h'.get? b = some u) (hp : h.objs.size ≤ a) (new : ObjOk P w (upd H a o) h' a o) : HOk P w (upd H a o) h' := fun b u e => by
  have hn := x.fresh hp
  by_cases hb : b = a
  · subst hb; rw [upd_same] at e; cases e; exact new
  · rw [upd_ne hb] at e
    exact (x b u e).stay (fun c v _ q => k c v q) (fun c q => by rw [upd_ne (ne_of_none q hn)]; exact q) fun c xs q => by rw [upd_ne (ne_of_none q hn)]; exact q
end
def Rd (H : Hp) (a : Addr) (u : HO) : Prop := H a = some u ∨ ∃ o,H a = some (.frz o u)
theorem Rd.ok {P : Program} {w : World} {H : Hp} {h : Heap} {a : Addr} {u : HO} (r : Rd H a u) (x : HOk P w H h) : ObjOk P w H h a u := by
  rcases r with r | ⟨o,r⟩
  · exact x a u r
  · obtain ⟨_,q⟩ := x a _ r
    exact q
def Mut : Option HO → Prop
  | some (.lst _) => True
  | some (.dK _) => True
  | some (.dT _) => True
  | some (.set _ _) => True
  | some (.ins _ _ _) => True
  | some (.ext _) => True
  | _ => False
section
variable {P : Program} {w : World} {H : Hp} {h h' : Heap} {x e : Addr} {o' : HO}
theorem HOk.write (ok : HOk P w H h) (mu : Mut (H x)) (he : e = x ∨ H e = some (.own x)) (k : ∀ b u,b ≠ e → h.get? b = some u → h'.get? b = some u) (heo : ∃ u,h'.get? e = some u)
    (new : ObjOk P w (upd H x o') h' x o') : HOk P w (upd H x o') h' := fun b u q => by
  have nown : ∀ c y,H c = some (.own y) → c ≠ x := fun c y r z => by subst z; rw [r] at mu; exact mu
  have ntup : ∀ c xs,H c = some (.tup xs) → c ≠ x := fun c xs r z => by subst z; rw [r] at mu; exact mu
  by_cases hb : b = x
  · subst hb; rw [upd_same] at q; cases q; exact new
  · rw [upd_ne hb] at q
    by_cases hbe : b = e
    · have q' : H b = some (.own x) := by
        rcases he with z | z
        · exact absurd (hbe.trans z) hb
        · rw [hbe]; exact z
      rw [q] at q'; cases q'
      obtain ⟨v,hv⟩ := heo
      exact ⟨v,by rw [hbe]; exact hv⟩
    · refine (ok b u q).stay (fun c v hc r => k c v ?_ r) (fun c r => by rw [upd_ne (nown c b r)]; exact r) fun c xs r => by rw [upd_ne (ntup c xs r)]; exact r
      rcases hc with rfl | hc
      · exact hbe
      · rintro rfl
        rcases he with z | z
        · exact nown c b hc z
        · rw [hc] at z; cases z; exact hb rfl
end
structure Un (fs ex : List Addr) (H H' : Hp) (h h' : Heap) : Prop where
  keep : ∀ b o,h.get? b = some o → H b = none → b ∉ fs → b ∉ ex → h'.get? b = some o
  slot : ∀ b o,h.get? b = some o → H b = none → b ∈ fs → b ∉ ex → ∃ sl,h'.get? b = some { o with slots := sl }
  free : ∀ b o,h.get? b = some o → H b = none → b ∉ ex → H' b = none
  there : ∀ b o,h.get? b = some o → b ∉ ex → ∃ o',h'.get? b = some o'
  tups : ∀ b xs,H b = some (.tup xs) → H' b = some (.tup xs)
  frzs : ∀ b o u,H b = some (.frz o u) → H' b = some (.frz o u)
  tbls : ∀ b ps,H b = some (.tbl ps) → ∃ more,H' b = some (.tbl (ps ++ more))
section
variable {fs fs' ex ex' : List Addr} {H H1 H2 : Hp} {h h1 h2 h' : Heap} {a x e : Addr} {o : HO}
theorem Un.any (u : Un fs ex H H1 h h1) {b : Addr} {ob : Obj} (q : h.get? b = some ob) (n : H b = none) (hx : b ∉ ex) : ∃ sl,h1.get? b = some { ob with slots := sl } := by
  by_cases hb : b ∈ fs
  · exact u.slot b ob q n hb hx
  · exact ⟨ob.slots,u.keep b ob q n hb hx⟩
theorem Un.kept (k : ∀ b u,h.get? b = some u → h'.get? b = some u) : Un fs ex H H h h' :=
  ⟨fun b ob q _ _ _ => k b ob q,fun b ob q _ _ _ => ⟨ob.slots,k b ob q⟩,fun _ _ _ n _ => n,fun b ob q _ => ⟨ob,k b ob q⟩,fun _ _ q => q,fun _ _ _ q => q,fun _ ps q => ⟨#[],by rw [q]; simp⟩⟩
theorem Un.refl : Un fs ex H H h h := Un.kept fun _ _ q => q
theorem Un.laid (k : ∀ b u,h.get? b = some u → h'.get? b = some u) (hp : h.objs.size ≤ a) (hn : H a = none) : Un fs ex H (upd H a o) h h' where
  keep := fun b u q _ _ _ => k b u q
  slot := fun b u q _ _ _ => ⟨u.slots,k b u q⟩
  free := fun b u q n _ => by rw [upd_ne (Nat.ne_of_lt (Nat.lt_of_lt_of_le (Heap.lt_size q) hp))]; exact n
  there := fun b u q _ => ⟨u,k b u q⟩
  tups := fun b xs q => by rw [upd_ne (ne_of_none q hn)]; exact q
  frzs := fun b u xs q => by rw [upd_ne (ne_of_none q hn)]; exact q
  tbls := fun b ps q => ⟨#[],by rw [upd_ne (ne_of_none q hn),q]; simp⟩
theorem Un.write (mu : Mut (H x)) (he : e = x ∨ H e = some (.own x)) (k : ∀ b u,b ≠ e → h.get? b = some u → h'.get? b = some u) (heo : ∃ u,h'.get? e = some u) : Un fs ex H (upd H x o) h h' := by
  have hx : ∀ b,H b = none → b ≠ x := fun b n z => by subst z; rw [n] at mu; exact mu
  have hb : ∀ b,H b = none → b ≠ e := fun b n z => by
    subst z
    rcases he with r | r
    · exact hx b n r
    · rw [n] at r; cases r
  have hm : ∀ b u,H b = some u → ¬ Mut (some u) → b ≠ x := fun b u q nm z => by subst z; rw [q] at mu; exact nm mu
  refine ⟨fun b u q n _ _ => k b u (hb b n) q,fun b u q n _ _ => ⟨u.slots,k b u (hb b n) q⟩,fun b u q n _ => by rw [upd_ne (hx b n)]; exact n,fun b u q _ => ?_,
    fun b xs q => by rw [upd_ne (hm b _ q fun z => z)]; exact q,fun b u xs q => by rw [upd_ne (hm b _ q fun z => z)]; exact q,fun b ps q => ⟨#[],by rw [upd_ne (hm b _ q fun z => z),q]; simp⟩⟩
  by_cases hbe : b = e
  · subst hbe; exact heo
  · exact ⟨u,k b u hbe q⟩
end
def trk (h : Heap) (H : Hp) : List Addr := (List.range h.objs.size).filter fun a => (H a).isSome
def hidT (h : Heap) (H : Hp) : Heap := PySem.W.hideAll h (trk h H)
theorem hidT_size (h : Heap) (H : Hp) : (hidT h H).objs.size = h.objs.size := PySem.W.hideAll_size _ _
theorem hidT_get {h : Heap} {H : Hp} {b : Addr} {o : Obj} (e : h.get? b = some o) (n : H b = none) : (hidT h H).get? b = some o :=
  PySem.W.hideAll_get _ e fun hm => by
    have q : (H b).isSome = true := (List.mem_filter.mp hm).2
    rw [n] at q; simp at q
theorem of_hidT {h : Heap} {H : Hp} {b : Addr} {o : Obj} (e : (hidT h H).get? b = some o) : h.get? b = some o ∧ H b = none := by
  have e' : h.get? b = some o := PySem.W.of_hideAll (trk h H) e
  refine ⟨e',?_⟩
  cases q : H b with
  | none => rfl
  | some x =>
    have hm : b ∈ trk h H := List.mem_filter.mpr ⟨List.mem_range.mpr (Heap.lt_size e'),by simp [q]⟩
    have z : (hidT h H).get? b = none := PySem.W.hideAll_none (trk h H) hm
    rw [z] at e; cases e
end L2
namespace L2
open PySem PySem.Spec PyProof.Rows
structure Mod (K : PySem.W.Frag) (mg : Str → Option Value) (base : Heap) : Prop where
  kin : K.In base
  glob : base.Ns mainGlobals mg
  blt : ∃ mb,base.Ns builtinsNs mb ∧ ∀ x : Str,x ≠ "__name__" → mb x = bootBuiltins x
  nolimit : base.NoLimit
structure Cx where
  prog : Program
  w : World
  K : PySem.W.Frag
  mg : Str → Option Value
  base : Heap
  A : Around
  N : List Str
  s₀ : Shared
  H₀ : Hp
  env : Env
  outer : List Env
  stack : List Env
  ex : List Addr
  fn : Str → Bool
  calm : Bool
  pn : List (Addr × Obj)
  xe : Value → Shared → Prop
def frs (l : List Env) : List Addr := l.filterMap (·.frame)
abbrev Cx.fs (X : Cx) : List Addr := frs X.outer
def Vis (sc : Scope) (x : Str) : Prop := sc.names.lookup x = some .local ∨ sc.names.lookup x = some .cell ∨ sc.names.lookup x = some .free
def Loc (sc : Scope) (x : Str) : Prop := sc.names.lookup x = some .local ∨ sc.names.lookup x = some .cell
def Look (env : Env) (h : Heap) (m : Str → Option Value) (x : Str) (u : Value) : Prop :=
  (env.kindOf x = some .local ∧ m x = some u) ∨ ((env.kindOf x = some .cell ∨ env.kindOf x = some .free) ∧ ∃ c,env.cells.lookup x = some c ∧ h.IsCell c (some u))
structure Cx.Ok (X : Cx) : Prop where
  mod : Mod X.K X.mg X.base
  kind : X.env.scope.kind = .function
  glob : X.env.globals = mainGlobals
  blt : X.env.builtins = builtinsNs
  above : X.s₀.heap.objs.size ≤ X.env.locals
  inj : ∀ x y c,X.env.cells.lookup x = some c → X.env.cells.lookup y = some c → x = y
  has : ∀ x,(X.env.kindOf x = some .cell ∨ X.env.kindOf x = some .free) → ∃ c,X.env.cells.lookup x = some c
  cab : ∀ x c,X.fn x = true → X.env.cells.lookup x = some c → X.s₀.heap.objs.size ≤ c
  hd : X.calm = true → X.A.handled = none
  frames : X.A.frames = some X.stack
  stk : X.stack = X.outer ∨ (X.stack = X.env :: X.outer ∧ X.env.frame = some X.env.locals)
  exf : ∀ b ∈ X.ex,b ≠ X.env.locals ∧ ∀ x c,X.env.cells.lookup x = some c → c ≠ b
  bs : ∀ b o,X.base.get? b = some o → X.s₀.heap.get? b = some o ∧ X.H₀ b = none
  bsz : X.base.objs.size ≤ X.s₀.heap.objs.size
  noex : ∀ b o,X.base.get? b = some o → b ∉ X.ex
  exfs : ∀ b ∈ X.ex,b ∉ X.fs
  funs : X.s₀.heap.FunFrames X.base X.outer
  frf : ∀ b ∈ X.fs,X.H₀ b = none
structure Inv (X : Cx) (pins : List (Addr × Obj)) (σ : List (Option V)) (H : Hp) (s : Shared) : Prop where
  ok : X.Ok
  os : s.os = X.s₀.os
  bare : AllBare s.gens
  base : Un X.fs X.ex X.H₀ H X.s₀.heap s.heap
  loc : ∃ m,s.heap.Ns X.env.locals m ∧ ∀ (i : Nat) (x : Str) (v : V),X.N[i]? = some x → σ[i]? = some (some v) → Vis X.env.scope x → ∃ u,RelV v u ∧ Look X.env s.heap m x u
  cell : ∀ x c,X.env.cells.lookup x = some c → ∃ v,s.heap.IsCell c v
  free : H X.env.locals = none
  freeC : ∀ x c,X.env.cells.lookup x = some c → H c = none
  pin : ∀ p ∈ X.pn ++ pins,s.heap.get? p.1 = some p.2 ∧ H p.1 = none ∧ p.1 ≠ X.env.locals ∧ p.1 ∉ X.fs ∧ ∀ v,p.2.data ≠ .cell v
  hok : HOk X.prog X.w H s.heap
  len : σ.length = X.N.length
section
variable {X : Cx} {pins : List (Addr × Obj)} {σ : List (Option V)} {H H' : Hp} {s : Shared} {h' : Heap}
theorem Cx.Ok.nofr (ok : X.Ok) {b : Addr} {o : Obj} (e : X.base.get? b = some o) : b ∉ X.fs := fun hb => by
  have := (ok.funs.mem hb).1
  rw [e] at this; cases this
theorem Inv.bs (I : Inv X pins σ H s) : ∀ b o,X.base.get? b = some o → s.heap.get? b = some o ∧ H b = none := fun b o e =>
  ⟨I.base.keep b o (I.ok.bs b o e).1 (I.ok.bs b o e).2 (I.ok.nofr e) (I.ok.noex b o e),I.base.free b o (I.ok.bs b o e).1 (I.ok.bs b o e).2 (I.ok.noex b o e)⟩
theorem Inv.bk (I : Inv X pins σ H s) : ∀ b o,X.base.get? b = some o → s.heap.get? b = some o := fun b o e => (I.bs b o e).1
theorem Inv.mod (I : Inv X pins σ H s) : Mod X.K X.mg X.base := I.ok.mod
theorem Inv.kIn (I : Inv X pins σ H s) : X.K.In s.heap := I.ok.mod.kin.keeps I.bk
theorem Inv.lt (I : Inv X pins σ H s) : X.env.locals < s.heap.objs.size := let ⟨_,hn,_⟩ := I.loc; hn.lt
theorem Inv.sz (I : Inv X pins σ H s) : X.s₀.heap.objs.size ≤ s.heap.objs.size := Nat.le_trans I.ok.above (Nat.le_of_lt I.lt)
theorem Inv.nofs (I : Inv X pins σ H s) {a : Addr} (h : s.heap.objs.size ≤ a) : a ∉ X.fs := fun hb => by
  obtain ⟨_,o,ho,_⟩ := I.ok.funs.mem hb
  exact absurd (Nat.lt_of_lt_of_le (Heap.lt_size ho) (Nat.le_trans I.sz h)) (Nat.lt_irrefl _)
theorem Inv.cne (I : Inv X pins σ H s) : ∀ x c,X.env.cells.lookup x = some c → c ≠ X.env.locals := fun x c e z => by
  obtain ⟨v,o,ho,hd⟩ := I.cell x c e
  obtain ⟨m,⟨o',es,ep,ho',hd',_⟩,_⟩ := I.loc
  rw [z,ho'] at ho; cases ho; rw [hd'] at hd; cases hd
theorem Inv.funs (I : Inv X pins σ H s) : s.heap.FunFrames X.base X.outer := by
  have all : ∀ (l : List Env),(∀ b ∈ frs l,b ∈ X.fs) → X.s₀.heap.FunFrames X.base l → s.heap.FunFrames X.base l := by
    intro l
    induction l with
    | nil => intro _ _; trivial
    | cons env r ih =>
      intro hs hl
      obtain ⟨hk,⟨L,o,hf,hn,ho,hd⟩,hr⟩ := hl
      have hL : L ∈ X.fs := hs L (by unfold frs; rw [List.filterMap_cons,hf]; exact List.mem_cons_self)
      obtain ⟨sl,e⟩ := I.base.slot L o ho (I.ok.frf L hL) hL fun z => I.ok.exfs L z hL
      exact ⟨hk,⟨L,_,hf,hn,e,hd⟩,ih (fun b hb => hs b (by unfold frs; rw [List.filterMap_cons,hf]; exact List.mem_cons_of_mem _ hb)) hr⟩
  exact all X.outer (fun _ hb => hb) I.ok.funs
theorem Inv.stack (I : Inv X pins σ H s) : s.heap.FunFrames X.base X.stack := by
  rcases I.ok.stk with e | ⟨e,hf⟩
  · rw [e]; exact I.funs
  · rw [e]
    obtain ⟨m,hn,_⟩ := I.loc
    refine .cons (by rw [I.ok.kind]; decide) hf hn ?_ I.funs
    exact Heap.get?_none_of_le (Nat.le_trans I.ok.bsz I.ok.above)
theorem Inv.stkSub (I : Inv X pins σ H s) : ∀ b ∈ frs X.stack,b ∈ X.env.locals :: X.fs := fun b hb => by
  rcases I.ok.stk with e | ⟨e,hf⟩
  · rw [e] at hb; exact List.mem_cons_of_mem _ hb
  · rw [e] at hb
    unfold frs at hb
    rw [List.filterMap_cons,hf] at hb
    exact hb
theorem Inv.stkFree (I : Inv X pins σ H s) : ∀ b ∈ frs X.stack,H b = none := fun b hb => by
  rcases List.mem_cons.mp (I.stkSub b hb) with e | hb
  · rw [e]; exact I.free
  · obtain ⟨_,o,ho,_⟩ := I.ok.funs.mem hb
    exact I.base.free b o ho (I.ok.frf b hb) fun z => I.ok.exfs b z hb
theorem Inv.step {g' : Array GenState} {t' : Nat} {d' : Drawn} {ch : List Addr} (I : Inv X pins σ H s)
    (hch : ∀ b ∈ ch,(b ∈ X.ex ∨ X.s₀.heap.objs.size ≤ b) ∧ b ≠ X.env.locals ∧ (∀ x c,X.env.cells.lookup x = some c → c ≠ b) ∧ ∀ p ∈ X.pn ++ pins,p.1 ≠ b)
    (keep : ∀ b o,b ≠ X.env.locals → b ∉ X.fs → b ∉ ch → s.heap.get? b = some o → H b = none → h'.get? b = some o)
    (slot : ∀ b o,b ≠ X.env.locals → b ∈ X.fs → b ∉ ch → s.heap.get? b = some o → H b = none → ∃ sl,h'.get? b = some { o with slots := sl }) (free : ∀ b o,b ∉ ch → s.heap.get? b = some o → H b = none → H' b = none)
    (there : ∀ b o,b ∉ ch → s.heap.get? b = some o → ∃ o',h'.get? b = some o')
    (tups : ∀ b xs,H b = some (.tup xs) → H' b = some (.tup xs)) (frzs : ∀ b o u,H b = some (.frz o u) → H' b = some (.frz o u)) (tbls : ∀ b ps,H b = some (.tbl ps) → ∃ more,H' b = some (.tbl (ps ++ more)))
    (ns : ∀ m,s.heap.Ns X.env.locals m → h'.Ns X.env.locals m) (hok : HOk X.prog X.w H' h') (hg : AllBare g') :
    Inv X pins σ H' { s with heap := h',gens := g',drawn := d',toks := t' } := by
  have neL : ∀ b o,X.s₀.heap.get? b = some o → b ≠ X.env.locals := fun b o e => Nat.ne_of_lt (Nat.lt_of_lt_of_le (Heap.lt_size e) I.ok.above)
  have neC : ∀ b o,X.s₀.heap.get? b = some o → b ∉ X.ex → b ∉ ch := fun b o e hx hb => by
    rcases (hch b hb).1 with z | z
    · exact hx z
    · exact absurd (Nat.lt_of_lt_of_le (Heap.lt_size e) z) (Nat.lt_irrefl _)
  have cellK : ∀ x c,X.env.cells.lookup x = some c → ∀ v,s.heap.IsCell c v → h'.IsCell c v := fun x c e v ⟨o,ho,hd⟩ => by
    have nch : c ∉ ch := fun z => (hch c z).2.2.1 x c e rfl
    by_cases hc : c ∈ X.fs
    · obtain ⟨sl,q⟩ := slot c o (I.cne x c e) hc nch ho (I.freeC x c e)
      exact ⟨_,q,hd⟩
    · exact ⟨o,keep c o (I.cne x c e) hc nch ho (I.freeC x c e),hd⟩
  refine ⟨I.ok,I.os,hg,⟨fun b o e n hb hx => ?_,fun b o e n hb hx => ?_,fun b o e n hx => ?_,fun b o e hx => ?_,fun b xs e => tups b xs (I.base.tups b xs e),fun b o xs e => frzs b o xs (I.base.frzs b o xs e),fun b ps e => ?_⟩,?_,fun x c e => ?_,?_,fun x c e => ?_,fun p hp => ?_,hok,I.len⟩
  · exact keep b o (neL b o e) hb (neC b o e hx) (I.base.keep b o e n hb hx) (I.base.free b o e n hx)
  · obtain ⟨sl,e1⟩ := I.base.slot b o e n hb hx
    obtain ⟨sl',e2⟩ := slot b _ (neL b o e) hb (neC b o e hx) e1 (I.base.free b o e n hx)
    exact ⟨sl',e2⟩
  · obtain ⟨o',e1⟩ := I.base.there b o e hx
    exact free b o' (neC b o e hx) e1 (I.base.free b o e n hx)
  · obtain ⟨o',e1⟩ := I.base.there b o e hx
    exact there b o' (neC b o e hx) e1
  · obtain ⟨m1,e1⟩ := I.base.tbls b ps e
    obtain ⟨m2,e2⟩ := tbls b _ e1
    exact ⟨m1 ++ m2,by rw [e2,Array.append_assoc]⟩
  · obtain ⟨m,hn,hl⟩ := I.loc
    refine ⟨m,ns m hn,fun i x v e1 e2 e3 => ?_⟩
    obtain ⟨u,r,l⟩ := hl i x v e1 e2 e3
    refine ⟨u,r,?_⟩
    rcases l with l | ⟨k,c,e,z⟩
    · exact .inl l
    · exact .inr ⟨k,c,e,cellK x c e _ z⟩
  · obtain ⟨v,z⟩ := I.cell x c e
    exact ⟨v,cellK x c e v z⟩
  · obtain ⟨m,⟨o,_,_,ho,_⟩,_⟩ := I.loc
    exact free _ o (fun z => (hch _ z).2.1 rfl) ho I.free
  · obtain ⟨v,o,ho,hd⟩ := I.cell x c e
    exact free c o (fun z => (hch c z).2.2.1 x c e rfl) ho (I.freeC x c e)
  · obtain ⟨e,n,ne,nf,d⟩ := I.pin p hp
    have nch : p.1 ∉ ch := fun z => (hch p.1 z).2.2.2 p hp rfl
    exact ⟨keep p.1 p.2 ne nf nch e n,free p.1 p.2 nch e n,ne,nf,d⟩
theorem Inv.un {t' : Nat} (I : Inv X pins σ H s) (u : Un X.fs [] H H' s.heap h') (hok : HOk X.prog X.w H' h') : Inv X pins σ H' { s with heap := h',toks := t' } := by
  obtain ⟨m,⟨o,es,ep,ho,r⟩,_⟩ := id I.loc
  obtain ⟨sl,hL⟩ := u.any ho I.free (by simp)
  exact I.step (g' := s.gens) (d' := s.drawn) (ch := []) (fun _ z => nomatch z) (fun b o _ hb _ e n => u.keep b o e n hb (by simp)) (fun b o _ hb _ e n => u.slot b o e n hb (by simp)) (fun b o _ e n => u.free b o e n (by simp)) (fun b o _ e => u.there b o e (by simp)) u.tups u.frzs u.tbls (fun m' hm => by
    obtain ⟨o',es',ep',ho',r'⟩ := hm
    rw [ho] at ho'; cases ho'
    exact ⟨_,es',ep',hL,r'⟩) hok I.bare
theorem Inv.call {g' : Array GenState} {t' : Nat} {d' : Drawn} {ch : List Addr} (I : Inv X pins σ H s) (u : Un (frs X.stack) ch H H' s.heap h') (hok : HOk X.prog X.w H' h') (hg : AllBare g')
    (hch : ∀ b ∈ ch,(b ∈ X.ex ∨ X.s₀.heap.objs.size ≤ b) ∧ b ≠ X.env.locals ∧ (∀ x c,X.env.cells.lookup x = some c → c ≠ b) ∧ ∀ p ∈ X.pn ++ pins,p.1 ≠ b) :
    Inv X pins σ H' { s with heap := h',gens := g',drawn := d',toks := t' } := by
  obtain ⟨m,⟨o,es,ep,ho,r⟩,_⟩ := id I.loc
  obtain ⟨sl,hL⟩ := u.any ho I.free fun z => (hch _ z).2.1 rfl
  exact I.step (ch := ch) hch (fun b o hL hb hc e n => u.keep b o e n (fun z => (List.mem_cons.mp (I.stkSub b z)).elim hL hb) hc) (fun b o _ _ hc e n => u.any e n hc) (fun b o hc e n => u.free b o e n hc) (fun b o hc e => u.there b o e hc) u.tups u.frzs u.tbls (fun m' hm => by
    obtain ⟨o',es',ep',ho',r'⟩ := hm
    rw [ho] at ho'; cases ho'
    exact ⟨_,es',ep',hL,r'⟩) hok hg
theorem Inv.turned {t' : Nat} {it : Addr} (I : Inv X pins σ H s) (k : ∀ b o,b ≠ it → s.heap.get? b = some o → h'.get? b = some o) (hn : H it = none) (hL : it ≠ X.env.locals)
    (h1 : it ∈ X.ex ∨ X.s₀.heap.objs.size ≤ it) (h2 : ∀ x c,X.env.cells.lookup x = some c → c ≠ it) (h3 : ∀ p ∈ X.pn ++ pins,p.1 ≠ it) : Inv X pins σ H { s with heap := h',toks := t' } := by
  have nit : ∀ b u,H b = some u → b ≠ it := fun b u e z => by rw [z,hn] at e; cases e
  refine I.step (g' := s.gens) (d' := s.drawn) (ch := [it]) (fun b hb => ?_) (fun b o _ _ hc e _ => k b o (fun z => hc (by simp [z])) e) (fun b o _ _ hc e _ => ⟨o.slots,k b o (fun z => hc (by simp [z])) e⟩) (fun _ _ _ _ n => n)
    (fun b o hc e => ⟨o,k b o (fun z => hc (by simp [z])) e⟩) (fun _ _ e => e) (fun _ _ _ e => e) (fun b ps e => ⟨#[],by rw [e]; simp⟩) (fun m hm => ?_) (fun b u e => ?_) I.bare
  · have e : b = it := by simpa using hb
    subst e
    exact ⟨h1,hL,h2,h3⟩
  · obtain ⟨o,es,ep,ho,r⟩ := hm
    exact ⟨o,es,ep,k _ o (Ne.symm hL) ho,r⟩
  · refine (I.hok b u e).stay (fun c v hc q => k c v ?_ q) (fun _ q => q) fun _ _ q => q
    rcases hc with z | z
    · rw [z]; exact nit b u e
    · exact nit c _ z
theorem Inv.tok (I : Inv X pins σ H s) (t : Nat) : Inv X pins σ H { s with toks := t } := I.un (h' := s.heap) (t' := t) Un.refl I.hok
theorem Inv.kept {t' : Nat} (I : Inv X pins σ H s) (k : ∀ b u,s.heap.get? b = some u → h'.get? b = some u) : Inv X pins σ H { s with heap := h',toks := t' } := I.un (Un.kept k) (I.hok.kept k)
theorem Inv.laid {a : Addr} {o : HO} {t' : Nat} (I : Inv X pins σ H s) (k : ∀ b u,s.heap.get? b = some u → h'.get? b = some u) (hp : s.heap.objs.size ≤ a) (new : ObjOk X.prog X.w (upd H a o) h' a o) :
    Inv X pins σ (upd H a o) { s with heap := h',toks := t' } := I.un (Un.laid k hp (I.hok.fresh hp)) (I.hok.laid k hp new)
theorem Inv.write {x e : Addr} {o : HO} {t' : Nat} (I : Inv X pins σ H s) (mu : Mut (H x)) (he : e = x ∨ H e = some (.own x)) (k : ∀ b u,b ≠ e → s.heap.get? b = some u → h'.get? b = some u) (heo : ∃ u,h'.get? e = some u)
    (new : ObjOk X.prog X.w (upd H x o) h' x o) : Inv X pins σ (upd H x o) { s with heap := h',toks := t' } := I.un (Un.write mu he k heo) (I.hok.write mu he k heo new)
theorem Inv.pins_of {pins' : List (Addr × Obj)} (I : Inv X pins σ H s) (h : ∀ p ∈ pins',s.heap.get? p.1 = some p.2 ∧ H p.1 = none ∧ p.1 ≠ X.env.locals ∧ p.1 ∉ X.fs ∧ ∀ v,p.2.data ≠ .cell v) : Inv X pins' σ H s :=
  ⟨I.ok,I.os,I.bare,I.base,I.loc,I.cell,I.free,I.freeC,fun p hp => (List.mem_append.mp hp).elim (fun z => I.pin p (List.mem_append_left _ z)) (h p),I.hok,I.len⟩
theorem nodup_ix {N : List Str} (hN : N.Nodup) {i j : Nat} {x : Str} (a : N[i]? = some x) (b : N[j]? = some x) : i = j := by
  obtain ⟨h1,e1⟩ := List.getElem?_eq_some_iff.mp a
  obtain ⟨h2,e2⟩ := List.getElem?_eq_some_iff.mp b
  exact (List.getElem_inj hN).mp (e1.trans e2.symm)
theorem store_ok2 {M : Model} {A : Around} {E : Value → Shared → Prop} {i : Nat} {x : Str} {v : V} {u : Value} {Q : Unit → Shared → Prop} (I : Inv X pins σ H s) (hN : X.N.Nodup) (hi : X.N[i]? = some x) (hx : Loc X.env.scope x) (r : RelV v u)
    (h : ∀ s',Inv X pins (σ.set i (some v)) H s' → (∃ a,Heap.SameBut a s.heap s'.heap ∧ (a = X.env.locals ∨ X.env.cells.lookup x = some a)) → Q () s') (hf : X.fn x = true ∨ X.env.scope.names.lookup x = some .local := by first | exact .inl rfl | exact .inr rfl | assumption) : wpAny M A (storeName X.env x u) Q E s := by
  obtain ⟨m,hn,hl⟩ := id I.loc
  have hcls : (X.env.scope.kind == .class || (X.env.scope.kind == .module && X.env.locals != X.env.globals)) = false := by rw [I.ok.kind]; rfl
  have hiσ : i < σ.length := by rw [I.len]; exact (List.getElem?_eq_some_iff.mp hi).1
  have cne := I.cne
  have tracked : ∀ {a : Addr} {h' : Heap},(∃ o,s.heap.get? a = some o ∧ H a = none) → Heap.SameBut a s.heap h' → HOk X.prog X.w H h' := fun {a h'} ha hs b ob e => by
    obtain ⟨_,_,hfree⟩ := ha
    refine (I.hok b ob e).stay (fun c w' hc q => (hs.2 c ?_).trans q) (fun _ q => q) fun _ _ q => q
    rintro rfl
    rcases hc with rfl | hc
    · rw [hfree] at e; cases e
    · rw [hfree] at hc; cases hc
  rcases hx with hk | hk
  · refine wpAny_storeName_local hk hn (fun h' hn' hs => ?_) hcls
    obtain ⟨oL,_,_,hoL,_⟩ := id hn
    refine h _ ⟨I.ok,I.os,I.bare,⟨fun b o e n hb hx => ?_,fun b o e n hb hx => ?_,I.base.free,fun b o e hx => ?_,I.base.tups,I.base.frzs,I.base.tbls⟩,⟨_,hn',fun j y v' e1 e2 e3 => ?_⟩,fun y c e => ?_,I.free,I.freeC,fun p hp => ?_,tracked ⟨oL,hoL,I.free⟩ hs,by simpa using I.len⟩ ⟨_,hs,.inl rfl⟩
    · exact (hs.2 b (Nat.ne_of_lt (Nat.lt_of_lt_of_le (Heap.lt_size e) I.ok.above))).trans (I.base.keep b o e n hb hx)
    · obtain ⟨sl,e1⟩ := I.base.slot b o e n hb hx
      exact ⟨sl,(hs.2 b (Nat.ne_of_lt (Nat.lt_of_lt_of_le (Heap.lt_size e) I.ok.above))).trans e1⟩
    · obtain ⟨o',e1⟩ := I.base.there b o e hx
      exact ⟨o',(hs.2 b (Nat.ne_of_lt (Nat.lt_of_lt_of_le (Heap.lt_size e) I.ok.above))).trans e1⟩
    · by_cases hj : j = i
      · subst hj
        rw [hi] at e1; cases e1
        rw [List.getElem?_set_self hiσ] at e2
        cases e2
        exact ⟨u,r,.inl ⟨hk,by simp⟩⟩
      · rw [List.getElem?_set_ne (Ne.symm hj)] at e2
        obtain ⟨u',r',q⟩ := hl j y v' e1 e2 e3
        refine ⟨u',r',?_⟩
        rcases q with ⟨k,e⟩ | ⟨k,c,e,z⟩
        · refine .inl ⟨k,?_⟩
          have : y ≠ x := fun e => hj (nodup_ix hN e1 (e ▸ hi))
          simp [this,e]
        · exact .inr ⟨k,c,e,z.sameBut hs (cne y c e)⟩
    · obtain ⟨w',z⟩ := I.cell y c e
      exact ⟨w',z.sameBut hs (cne y c e)⟩
    · obtain ⟨e,n,ne,nf,d⟩ := I.pin p hp
      exact ⟨(hs.2 p.1 ne).trans e,n,ne,nf,d⟩
  · have hfn : X.fn x = true := by
      rcases hf with z | z
      · exact z
      · rw [z] at hk; cases hk
    obtain ⟨c,hc⟩ := I.ok.has x (.inl hk)
    obtain ⟨w',z⟩ := I.cell x c hc
    refine wpAny_storeName_cell I.ok.kind hk hc z (fun h' hc' hs => ?_)
    obtain ⟨oc,hoc,hocd⟩ := id z
    refine h { s with heap := h' } ⟨I.ok,I.os,I.bare,⟨fun b o e n hb hx => ?_,fun b o e n hb hx => ?_,I.base.free,fun b o e hx => ?_,I.base.tups,I.base.frzs,I.base.tbls⟩,⟨m,hn.sameBut hs (Ne.symm (cne x c hc)),fun j y v' e1 e2 e3 => ?_⟩,fun y c' e => ?_,I.free,I.freeC,fun p hp => ?_,tracked ⟨oc,hoc,I.freeC x c hc⟩ hs,by simpa using I.len⟩ ⟨c,hs,.inr hc⟩
    · exact (hs.2 b (Nat.ne_of_lt (Nat.lt_of_lt_of_le (Heap.lt_size e) (I.ok.cab x c hfn hc)))).trans (I.base.keep b o e n hb hx)
    · obtain ⟨sl,e1⟩ := I.base.slot b o e n hb hx
      exact ⟨sl,(hs.2 b (Nat.ne_of_lt (Nat.lt_of_lt_of_le (Heap.lt_size e) (I.ok.cab x c hfn hc)))).trans e1⟩
    · obtain ⟨o',e1⟩ := I.base.there b o e hx
      exact ⟨o',(hs.2 b (Nat.ne_of_lt (Nat.lt_of_lt_of_le (Heap.lt_size e) (I.ok.cab x c hfn hc)))).trans e1⟩
    · by_cases hj : j = i
      · subst hj
        rw [hi] at e1; cases e1
        rw [List.getElem?_set_self hiσ] at e2
        cases e2
        exact ⟨u,r,.inr ⟨.inl hk,c,hc,hc'⟩⟩
      · rw [List.getElem?_set_ne (Ne.symm hj)] at e2
        obtain ⟨u',r',q⟩ := hl j y v' e1 e2 e3
        refine ⟨u',r',?_⟩
        rcases q with q | ⟨k,c',e,z'⟩
        · exact .inl q
        · refine .inr ⟨k,c',e,z'.sameBut hs ?_⟩
          rintro rfl
          exact hj (nodup_ix hN e1 (I.ok.inj _ _ _ e hc ▸ hi))
    · by_cases hcc : c' = c
      · subst hcc; exact ⟨_,hc'⟩
      · obtain ⟨w2,z2⟩ := I.cell y c' e
        exact ⟨w2,z2.sameBut hs hcc⟩
    · obtain ⟨e,n,ne,nf,d⟩ := I.pin p hp
      refine ⟨(hs.2 p.1 ?_).trans e,n,ne,nf,d⟩
      intro q
      rw [q,hoc] at e
      have q' : oc = p.2 := Option.some.inj e
      exact d w' (by rw [← q']; exact hocd)
theorem store_ok {M : Model} {A : Around} {E : Value → Shared → Prop} {i : Nat} {x : Str} {v : V} {u : Value} {Q : Unit → Shared → Prop} (I : Inv X pins σ H s) (hN : X.N.Nodup) (hi : X.N[i]? = some x) (hx : Loc X.env.scope x) (r : RelV v u)
    (h : ∀ s',Inv X pins (σ.set i (some v)) H s' → Q () s') (hf : X.fn x = true ∨ X.env.scope.names.lookup x = some .local := by first | exact .inl rfl | exact .inr rfl | assumption) : wpAny M A (storeName X.env x u) Q E s :=
  store_ok2 I hN hi hx r (fun s' I' _ => h s' I') hf
end
abbrev XK := Value → Option Addr → Hp → Prop
abbrev St := List (Option V)
abbrev VK := V → Hp → Prop
abbrev TE := St → Hp → VK → Prop
abbrev TT := St → Hp → (Bool → Hp → Prop) → Prop
abbrev TA := St → Hp → (List V → Hp → Prop) → Prop
structure Ends where
  nx : St → Hp → Prop
  rt : VK
  bk : St → Hp → Prop := fun _ _ => False
  ct : St → Hp → Prop := fun _ _ => False
abbrev TS := Ends → St → Hp → Prop
def EP (X : Cx) (pins : List (Addr × Obj)) (σ : St) (Q : VK) (u : Value) (s' : Shared) : Prop := ∃ v H',Inv X pins σ H' s' ∧ RelV v u ∧ Q v H'
def TP (X : Cx) (pins : List (Addr × Obj)) (σ : St) (Q : Bool → Hp → Prop) (b : Bool) (s' : Shared) : Prop := ∃ H',Inv X pins σ H' s' ∧ Q b H'
def AP (X : Cx) (pins : List (Addr × Obj)) (σ : St) (Q : List V → Hp → Prop) (us : List Value) (s' : Shared) : Prop := ∃ vs H',Inv X pins σ H' s' ∧ Vals vs us ∧ Q vs H'
def SP (X : Cx) (pins : List (Addr × Obj)) (D : Ends) (f : Flow) (s' : Shared) : Prop :=
  match f with
  | .next => ∃ σ' H',Inv X pins σ' H' s' ∧ D.nx σ' H'
  | .brk => ∃ σ' H',Inv X pins σ' H' s' ∧ D.bk σ' H'
  | .cont => ∃ σ' H',Inv X pins σ' H' s' ∧ D.ct σ' H'
  | .ret u => ∃ v σ' H',Inv X pins σ' H' s' ∧ RelV v u ∧ D.rt v H'
def PE (X : Cx) (e : Expr) (t : TE) : Prop :=
  ∀ (pins : List (Addr × Obj)) (s : Shared) (σ : St) (H : Hp) (Q : VK),Inv X pins σ H s → t σ H Q → wpAny (model X.prog X.w) X.A (eval e X.env) (EP X pins σ Q) X.xe s
def PT (X : Cx) (e : Expr) (t : TT) : Prop :=
  ∀ (pins : List (Addr × Obj)) (s : Shared) (σ : St) (H : Hp) (Q : Bool → Hp → Prop),Inv X pins σ H s → t σ H Q → wpAny (model X.prog X.w) X.A (isTrue e X.env (eval e X.env)) (TP X pins σ Q) X.xe s
def PW (X : Cx) (e : Expr) (t : TT) : Prop :=
  ∀ (whole : Sem Value) (pins : List (Addr × Obj)) (s : Shared) (σ : St) (H : Hp) (Q : Bool → Hp → Prop),Inv X pins σ H s → t σ H Q → wpAny (model X.prog X.w) X.A (isTrue e X.env whole) (TP X pins σ Q) X.xe s
theorem PW.pt {X : Cx} {e : Expr} {t : TT} (h : PW X e t) : PT X e t := h _
def PA (X : Cx) (es : List Expr) (t : TA) : Prop :=
  ∀ (pos : Pos) (pins : List (Addr × Obj)) (s : Shared) (σ : St) (H : Hp) (Q : List V → Hp → Prop),Inv X pins σ H s → t σ H Q → wpAny (model X.prog X.w) X.A (spliced (backTo pos (starEach es X.env))) (AP X pins σ Q) X.xe s
def PS (X : Cx) (st : Stmt) (t : TS) : Prop :=
  ∀ (pins : List (Addr × Obj)) (s : Shared) (σ : St) (H : Hp) (D : Ends),Inv X pins σ H s → t D σ H → wpAny (model X.prog X.w) X.A (exec st X.env) (SP X pins D) X.xe s
def PSs (X : Cx) (st : List Stmt) (t : TS) : Prop :=
  ∀ (pins : List (Addr × Obj)) (s : Shared) (σ : St) (H : Hp) (D : Ends),Inv X pins σ H s → t D σ H → wpAny (model X.prog X.w) X.A (execs st X.env) (SP X pins D) X.xe s
theorem thn {α : Type} {t : Sem α} {Q Q' : α → Shared → Prop} {M : Model} {A : Around} {E : Value → Shared → Prop} {s : Shared} (h : wpAny M A t Q E s) (hQ : ∀ a s,Q a s → Q' a s) : wpAny M A t Q' E s := wpAny_mono h hQ fun _ _ x => x
end L2
namespace L2
open PySem PySem.Spec PyProof.Rows
section
variable {X : Cx}
inductive tVar (i : Nat) (σ : St) (H : Hp) (Q : VK) : Prop
  | mk (v : V) (e : σ[i]? = some (some v)) (q : Q v H) : tVar i σ H Q
def tC (v : V) : TE := fun _ H Q => Q v H
theorem pe_var {i : Nat} {x : Str} {pos : Pos} (hN : X.N[i]? = some x) (hv : Vis X.env.scope x) (hd : (x == ("__debug__" : Str)) = false := by decide) (hcd : (x == ("__classdict__" : Str)) = false := by decide) : PE X (.Name x pos) (tVar i) := by
  intro pins s σ H Q I h
  obtain ⟨v,e,h⟩ := h
  obtain ⟨m,hn,hl⟩ := I.loc
  obtain ⟨u,r,l⟩ := hl i x v hN e hv
  have fin : EP X pins σ Q u s := ⟨v,H,I,r,h⟩
  rcases l with ⟨hk,hm⟩ | ⟨hk,c,hc,hcell⟩
  · exact wpAny_Name (wpAny_loadName_local I.ok.kind hk hn hm fin) hd
  · rcases hk with hk | hk
    · exact wpAny_Name (wpAny_loadName_cell I.ok.kind hk hc hcell fin) hd
    · exact wpAny_Name (wpAny_loadName_free I.ok.kind hk hc hcell fin hcd) hd
theorem pe_int {i j pos} : PE X (.Constant (.int i) j pos) (tC (.int i)) := fun _ _ _ H _ I h => wpAny_Constant_int ⟨.int i,H,I.tok _,⟨_,rfl⟩,h⟩
theorem pe_bl {b j pos} : PE X (.Constant (.bool b) j pos) (tC (.bl b)) := fun _ _ _ H _ I h => Constant_bool ⟨.bl b,H,I,rfl,h⟩
def Gl (X : Cx) (x : Str) : Prop := X.env.kindOf x = some .globalImplicit
theorem ld_glob {E : Value → Shared → Prop} {pins : List (Addr × Obj)} {s : Shared} {σ : St} {H : Hp} {x : Str} {u : Value} {pos : Pos} {Q : Value → Shared → Prop} (I : Inv X pins σ H s) (hg : Gl X x) (hm : X.mg x = some u) (h : Q u s)
    (hd : (x == ("__debug__" : Str)) = false := by decide) : wpAny (model X.prog X.w) X.A (eval (.Name x pos) X.env) Q E s :=
  Calls.Name_function_global I.ok.kind hg (Calls.loadGlobal_global (by rw [I.ok.glob]; exact I.mod.glob.keeps I.bk) hm h) hd
theorem ld_blt {E : Value → Shared → Prop} {pins : List (Addr × Obj)} {s : Shared} {σ : St} {H : Hp} {x : Str} {u : Value} {pos : Pos} {Q : Value → Shared → Prop} (I : Inv X pins σ H s) (hg : Gl X x) (hm : X.mg x = none) (hv : bootBuiltins x = some u) (h : Q u s)
    (hn : x ≠ "__name__" := by decide) (hd : (x == ("__debug__" : Str)) = false := by decide) : wpAny (model X.prog X.w) X.A (eval (.Name x pos) X.env) Q E s := by
  obtain ⟨mb,h1,h2⟩ := I.mod.blt
  exact Calls.Name_function_global I.ok.kind hg (Calls.loadGlobal_builtin (by rw [I.ok.glob]; exact I.mod.glob.keeps I.bk) hm (by rw [I.ok.blt]; exact h1.keeps I.bk) ((h2 x hn).trans hv) h) hd
theorem pe_bltn {x : Str} {v : V} {u : Value} {pos : Pos} (hg : Gl X x) (hm : X.mg x = none) (hv : bootBuiltins x = some u) (r : RelV v u) (hn : x ≠ "__name__" := by decide) (hd : (x == ("__debug__" : Str)) = false := by decide) : PE X (.Name x pos) (tC v) :=
  fun _ _ _ H _ I h => ld_blt I hg hm hv ⟨v,H,I,r,h⟩ hn hd
variable {a b : Expr} {ta tb : TE} {pos : Pos}
def tB (t : TE) : TT := fun σ H Q => t σ H fun x H1 => ∃ c,x = .bl c ∧ Q c H1
theorem pt_val {e : Expr} {t : TE} (h : PE X e t) (he : ∀ whole,isTrue e X.env whole = (do let v ← whole; standAt e.pos; holding [v] (truthy v)) := by intro _; rfl) : PT X e (tB t) := by
  intro pins s σ H Q I hw
  refine isTrue_plain (thn (h pins s σ H _ I hw) fun v s1 ⟨x,H1,I1,r1,q1⟩ => ?_) (he _)
  obtain ⟨d,rfl,q⟩ := q1
  cases r1
  exact wpAny_truthy_bool ⟨H1,I1,q⟩
variable {tA tB' : TT} {rest : List Expr}
def tAnd (t u : TT) : TT := fun σ H Q => t σ H fun c H1 => if c = true then u σ H1 Q else Q false H1
def tOr (t u : TT) : TT := fun σ H Q => t σ H fun c H1 => if c = true then Q true H1 else u σ H1 Q
def tNot (t : TT) : TT := fun σ H Q => t σ H fun c H1 => Q (!c) H1
theorem pw_and1 (ha : PT X a tA) : PW X (.BoolOp .And [a] pos) tA := by
  intro wh pins s σ H Q I h
  refine isTrue_and (thn (ha pins s σ H Q I h) fun c s1 e => ?_)
  cases c with
  | true => exact isTrue_and_nil e
  | false => exact e
theorem pw_or1 (ha : PT X a tA) : PW X (.BoolOp .Or [a] pos) tA := by
  intro wh pins s σ H Q I h
  refine isTrue_or (thn (ha pins s σ H Q I h) fun c s1 e => ?_)
  cases c with
  | false => exact isTrue_or_nil e
  | true => exact e
theorem pw_and (ha : PT X a tA) (hb : PW X (.BoolOp .And (b :: rest) pos) tB') : PW X (.BoolOp .And (a :: b :: rest) pos) (tAnd tA tB') := by
  intro wh pins s σ H Q I h
  refine isTrue_and (thn (ha pins s σ H _ I h) fun c s1 ⟨H1,I1,q1⟩ => ?_)
  cases c with
  | true => exact hb wh pins s1 σ H1 Q I1 q1
  | false => exact ⟨H1,I1,q1⟩
theorem pw_or (ha : PT X a tA) (hb : PW X (.BoolOp .Or (b :: rest) pos) tB') : PW X (.BoolOp .Or (a :: b :: rest) pos) (tOr tA tB') := by
  intro wh pins s σ H Q I h
  refine isTrue_or (thn (ha pins s σ H _ I h) fun c s1 ⟨H1,I1,q1⟩ => ?_)
  cases c with
  | true => exact ⟨H1,I1,q1⟩
  | false => exact hb wh pins s1 σ H1 Q I1 q1
theorem pt_not (ha : PT X a tA) : PT X (.UnaryOp .Not a pos) (tNot tA) := by
  intro pins s σ H Q I h
  exact isTrue_not (ha pins s σ H (fun c H1 => Q (!c) H1) I h)
def tAndV (ta tb : TE) : TE := fun σ H Q => ta σ H fun x H1 => ∃ c,x = .bl c ∧ if c = true then tb σ H1 Q else Q (.bl false) H1
def tNotV (ta : TE) : TE := fun σ H Q => ta σ H fun x H1 => ∃ c,x = .bl c ∧ Q (.bl (!c)) H1
theorem pe_one {op} {t : TE} (h : PE X a t) : PE X (.BoolOp op [a] pos) t := fun pins s σ H Q I hw => BoolOp_one (h pins s σ H Q I hw)
theorem pe_and (ha : PE X a ta) (hb : PE X (.BoolOp .And (b :: rest) pos) tb) : PE X (.BoolOp .And (a :: b :: rest) pos) (tAndV ta tb) := by
  intro pins s σ H Q I h
  refine BoolOp_and (thn (ha pins s σ H _ I h) fun v s1 ⟨x,H1,I1,r1,q1⟩ => ?_)
  obtain ⟨c,rfl,q1⟩ := q1
  cases r1
  refine wpAny_truthy_bool ?_
  cases c with
  | true => exact hb pins s1 σ H1 Q I1 q1
  | false => exact ⟨.bl false,H1,I1,rfl,q1⟩
theorem pe_not (ha : PE X a ta) : PE X (.UnaryOp .Not a pos) (tNotV ta) := by
  intro pins s σ H Q I h
  refine UnaryOp_ (thn (ha pins s σ H _ I h) fun v s1 ⟨x,H1,I1,r1,q1⟩ => ?_)
  obtain ⟨c,rfl,q1⟩ := q1
  cases r1
  exact not_of (wpAny_truthy_bool ⟨.bl (!c),H1,I1,rfl,q1⟩)
def tIf (t : TT) (ta tb : TE) : TE := fun σ H Q => t σ H fun c H1 => if c = true then ta σ H1 Q else tb σ H1 Q
theorem pe_ifExp {c : Expr} (hc : PT X c tA) (ha : PE X a ta) (hb : PE X b tb) : PE X (.IfExp c a b pos) (tIf tA ta tb) := by
  intro pins s σ H Q I h
  refine wpAny_IfExp (thn (hc pins s σ H _ I h) fun d s1 ⟨H1,I1,q1⟩ => ?_)
  cases d with
  | true => exact ha pins s1 σ H1 Q I1 q1
  | false => exact hb pins s1 σ H1 Q I1 q1
end
end L2
namespace L2
open PySem PySem.Spec PyProof.Rows
def SqL (K : PySem.W.Frag) (H : Hp) (a : Addr) (xs : List V) : Prop :=
  Rd H a (.lst xs) ∨
    ∃ (o : Obj) (its : Array Value) (n : Nat),K.lookup a = some o ∧ o.cls = .type "list" ∧ o.dict = none ∧ o.data = .seq its n ∧ its.size ≤ sizeLine ∧ Vals xs its.toList
def SqT (K : PySem.W.Frag) (H : Hp) (a : Addr) (xs : List V) : Prop :=
  Rd H a (.tup xs) ∨
    ∃ (o : Obj) (its : Array Value) (n : Nat),K.lookup a = some o ∧ o.cls = .type "tuple" ∧ o.data = .seq its n ∧ its.size ≤ sizeLine ∧ Vals xs its.toList
def absV : Value → Option V
  | .none => some .non
  | .bool b => some (.bl b)
  | .int i _ => some (.int i)
  | .str x _ => some (.str x)
  | .bytes b _ => some (.byt b)
  | .float b _ => some (.flt b)
  | .ref a => some (.ref a)
  | .type n => some (.ty n)
  | _ => none
theorem RelV.abs {x : V} {u : Value} (r : RelV x u) : absV u = some x := by
  cases x with
  | non => cases r; rfl
  | bl _ => cases r; rfl
  | int _ => obtain ⟨t,rfl⟩ := r; rfl
  | str _ => obtain ⟨t,rfl⟩ := r; rfl
  | byt _ => obtain ⟨t,rfl⟩ := r; rfl
  | flt _ => obtain ⟨t,rfl⟩ := r; rfl
  | ref _ => cases r; rfl
  | ty _ => cases r; rfl
theorem RelV.inj {x y : V} {u : Value} (r : RelV x u) (q : RelV y u) : x = y := Option.some.inj (r.abs.symm.trans q.abs)
theorem Vals.inj : ∀ {xs ys : List V} {us : List Value},Vals xs us → Vals ys us → xs = ys
  | _,_,_,.nil,.nil => rfl
  | _,_,_,.cons r t,.cons r' t' => by rw [r.inj r',Vals.inj t t']
section
variable {X : Cx} {pins : List (Addr × Obj)} {σ : St} {H : Hp} {s : Shared} {a : Addr} {xs ys : List V}
theorem SqL.of {K : PySem.W.Frag} (h : H a = some (.lst xs)) : SqL K H a xs := .inl (.inl h)
theorem SqT.of {K : PySem.W.Frag} (h : H a = some (.tup xs)) : SqT K H a xs := .inl (.inl h)
theorem Inv.list (I : Inv X pins σ H s) (h : SqL X.K H a xs) : ∃ its : List Value,Vals xs its ∧ PlainL s.heap a its.toArray ∧ xs.length ≤ sizeLine := by
  rcases h with h | ⟨o,its,n,hk,hc,hd,hs,hz,r⟩
  · obtain ⟨z,its,n,r,e⟩ := h.ok I.hok
    exact ⟨its,r,⟨_,n,e,rfl,rfl,rfl⟩,z⟩
  · refine ⟨its.toList,r,⟨o,n,I.kIn a o hk,hc,hd,by simpa using hs⟩,?_⟩
    have e := r.length
    simp only [Array.length_toList] at e
    omega
theorem Inv.tuple (I : Inv X pins σ H s) (h : SqT X.K H a xs) : ∃ its : List Value,Vals xs its ∧ IsTup s.heap a its.toArray ∧ xs.length ≤ sizeLine := by
  rcases h with h | ⟨o,its,n,hk,hc,hs,hz,r⟩
  · obtain ⟨z,its,r,p⟩ := h.ok I.hok
    exact ⟨its,r,p,z⟩
  · refine ⟨its.toList,r,⟨o,I.kIn a o hk,hc,n,by simpa using hs⟩,?_⟩
    have e := r.length
    simp only [Array.length_toList] at e
    omega
theorem Inv.list_inj (I : Inv X pins σ H s) (h : SqL X.K H a xs) (h' : SqL X.K H a ys) : xs = ys := by
  obtain ⟨its,r,⟨o,n,e,_,_,d⟩,_⟩ := I.list h
  obtain ⟨its',r',⟨o',n',e',_,_,d'⟩,_⟩ := I.list h'
  rw [e] at e'; cases e'
  rw [d] at d'
  injection d' with d1 _
  have : its = its' := by simpa using congrArg Array.toList d1
  subst this
  exact r.inj r'
end
abbrev Cx.wish (X : Cx) (E : Value → Shared → Prop) : Cx := { X with xe := E }
abbrev Cx.nox (X : Cx) : Cx := X.wish fun _ _ => False
theorem Cx.Ok.wish {X : Cx} (ok : X.Ok) (E : Value → Shared → Prop) : (X.wish E).Ok :=
  ⟨ok.mod,ok.kind,ok.glob,ok.blt,ok.above,ok.inj,ok.has,ok.cab,ok.hd,ok.frames,ok.stk,ok.exf,ok.bs,ok.bsz,ok.noex,ok.exfs,ok.funs,ok.frf⟩
theorem Cx.Ok.unwish {X : Cx} {E : Value → Shared → Prop} (ok : (X.wish E).Ok) : X.Ok :=
  ⟨ok.mod,ok.kind,ok.glob,ok.blt,ok.above,ok.inj,ok.has,ok.cab,ok.hd,ok.frames,ok.stk,ok.exf,ok.bs,ok.bsz,ok.noex,ok.exfs,ok.funs,ok.frf⟩
section
variable {X : Cx} {pins : List (Addr × Obj)} {σ : St} {H : Hp} {s : Shared} {E : Value → Shared → Prop}
theorem Inv.wish (I : Inv X pins σ H s) (E : Value → Shared → Prop) : Inv (X.wish E) pins σ H s := ⟨I.ok.wish E,I.os,I.bare,I.base,I.loc,I.cell,I.free,I.freeC,I.pin,I.hok,I.len⟩
theorem Inv.unwish (I : Inv (X.wish E) pins σ H s) : Inv X pins σ H s := ⟨I.ok.unwish,I.os,I.bare,I.base,I.loc,I.cell,I.free,I.freeC,I.pin,I.hok,I.len⟩
theorem SP.unwish {D : Ends} {f : Flow} {s' : Shared} (h : SP (X.wish E) pins D f s') : SP X pins D f s' := by
  cases f with
  | next => obtain ⟨σ',H',I,q⟩ := h; exact ⟨σ',H',I.unwish,q⟩
  | brk => obtain ⟨σ',H',I,q⟩ := h; exact ⟨σ',H',I.unwish,q⟩
  | cont => obtain ⟨σ',H',I,q⟩ := h; exact ⟨σ',H',I.unwish,q⟩
  | ret u => obtain ⟨v,σ',H',I,r,q⟩ := h; exact ⟨v,σ',H',I.unwish,r,q⟩
theorem PSs.nox {st : List Stmt} {t : TS} (h : PSs X.nox st t) : PSs X st t := fun pins s σ H D I hw =>
  wpAny_mono (h pins s σ H D (I.wish _) hw) (fun _ _ q => q.unwish) fun _ _ z => False.elim z
end
section
variable {X : Cx} {st : Stmt} {rest : List Stmt} {t u : TS} {e : Expr} {te : TE} {pos : Pos}
def tNext : TS := fun D σ H => D.nx σ H
def tSeq (t u : TS) : TS := fun D σ H => t { D with nx := u D } σ H
theorem pss_nil : PSs X [] tNext := fun _ _ σ H _ I h => wpAny_execs_nil ⟨σ,H,I,h⟩
theorem pss_cons (h1 : PS X st t) (h2 : PSs X rest u) : PSs X (st :: rest) (tSeq t u) := by
  intro pins s σ H D I h
  refine wpAny_execs_cons (thn (h1 pins s σ H { D with nx := u D } I h) fun f s1 q => ?_)
  cases f with
  | next =>
    obtain ⟨σ',H',I',q⟩ := q
    exact h2 pins s1 σ' H' D I' q
  | ret v => exact q
  | brk => exact q
  | cont => exact q
theorem pss_one (h1 : PS X st t) : PSs X [st] t := by
  intro pins s σ H D I h
  refine wpAny_execs_cons (thn (h1 pins s σ H D I h) fun f s1 q => ?_)
  cases f with
  | next => exact wpAny_execs_nil q
  | ret v => exact q
  | brk => exact q
  | cont => exact q
theorem Inv.quiet {pins : List (Addr × Obj)} {σ : St} {H : Hp} {s : Shared} (I : Inv X pins σ H s) : interactive X.env = false := by simp [interactive,I.ok.kind]
def tDrop (te : TE) : TS := fun D σ H => te σ H fun _ H1 => D.nx σ H1
theorem ps_expr (he : PE X e te) (hs : swapsWith e none pos.line X.env = pure false := by rfl) : PS X (.Expr e pos) (tDrop te) := by
  intro pins s σ H D I h
  exact wpAny_Expr_any (thn (he pins s σ H _ I h) fun v s1 ⟨x,H1,I1,r1,q1⟩ => ⟨σ,H1,I1,q1⟩) I.quiet hs
def tRet (te : TE) : TS := fun D σ H => te σ H D.rt
theorem ps_ret (he : PE X e te) : PS X (.Return (some e) pos) (tRet te) := by
  intro pins s σ H D I h
  exact wpAny_Return_some (thn (he pins s σ H _ I h) fun v s1 ⟨x,H1,I1,r1,q1⟩ => ⟨x,σ,H1,I1,r1,q1⟩)
def tIfS (c : TT) (t u : TS) : TS := fun D σ H => c σ H fun b H1 => if b = true then t D σ H1 else u D σ H1
theorem ps_if {c : Expr} {a b : List Stmt} {tc : TT} (hc : PT X c tc) (ha : PSs X a t) (hb : PSs X b u) : PS X (.If c a b pos) (tIfS tc t u) := by
  intro pins s σ H D I h
  refine wpAny_If (thn (hc pins s σ H _ I h) fun d s1 ⟨H1,I1,q1⟩ => ?_)
  cases d with
  | true => exact ha pins s1 σ H1 D I1 q1
  | false => exact hb pins s1 σ H1 D I1 q1
end
abbrev TG := V → St → Hp → (St → Hp → Prop) → Prop
abbrev TGs := List V → St → Hp → (St → Hp → Prop) → Prop
def PG (X : Cx) (target : Expr) (t : TG) : Prop :=
  ∀ (pins : List (Addr × Obj)) (s : Shared) (σ : St) (H : Hp) (v : V) (u : Value) (Q : St → Hp → Prop),Inv X pins σ H s → RelV v u → t v σ H Q →
    wpAny (model X.prog X.w) X.A (assign target X.env u) (fun _ s' => ∃ σ' H',Inv X pins σ' H' s' ∧ Q σ' H') X.xe s
def PGs (X : Cx) (ts : List Expr) (t : TGs) : Prop :=
  ∀ (pins : List (Addr × Obj)) (s : Shared) (σ : St) (H : Hp) (vs : List V) (us : List Value) (Q : St → Hp → Prop),Inv X pins σ H s → Vals vs us → t vs σ H Q →
    wpAny (model X.prog X.w) X.A (assignInOrder ((assignEach ts X.env).map (·.2)) us) (fun _ s' => ∃ σ' H',Inv X pins σ' H' s' ∧ Q σ' H') X.xe s
section
variable {X : Cx} {pos : Pos}
def gName (i : Nat) : TG := fun v σ H Q => Q (σ.set i (some v)) H
theorem pg_name {i : Nat} {x : Str} (hN : X.N.Nodup) (hi : X.N[i]? = some x) (hx : Loc X.env.scope x) (hf : X.fn x = true ∨ X.env.scope.names.lookup x = some .local := by first | exact .inl rfl | exact .inr rfl | assumption) : PG X (.Name x pos) (gName i) := by
  intro pins s σ H v u Q I r h
  exact wpAny_assign_Name (store_ok I hN hi hx r (fun s' I' => ⟨_,H,I',h⟩) hf)
inductive gNil (vs : List V) (σ : St) (H : Hp) (Q : St → Hp → Prop) : Prop
  | mk (e : vs = []) (q : Q σ H) : gNil vs σ H Q
inductive gCons (t : TG) (u : TGs) (vs : List V) (σ : St) (H : Hp) (Q : St → Hp → Prop) : Prop
  | mk (v : V) (r : List V) (e : vs = v :: r) (q : t v σ H fun σ' H' => u r σ' H' Q) : gCons t u vs σ H Q
theorem pgs_nil : PGs X [] gNil := by
  intro pins s σ H vs us Q I r h
  obtain ⟨e,h⟩ := h
  subst e
  cases r
  exact assignInOrder_nil ⟨σ,H,I,h⟩
theorem pgs_cons {e : Expr} {es : List Expr} {t : TG} {u : TGs} (h1 : PG X e t) (h2 : PGs X es u)
    (hs : (assignEach (e :: es) X.env).map (·.2) = assign e X.env :: (assignEach es X.env).map (·.2) := by rfl) : PGs X (e :: es) (gCons t u) := by
  intro pins s σ H vs us Q I r h
  obtain ⟨v,vr,e1,h⟩ := h
  subst e1
  cases r with
  | cons r rr =>
    rw [hs]
    refine assignInOrder_cons (thn (h1 pins s σ H _ _ _ I r h) fun _ s1 ⟨σ1,H1,I1,q1⟩ => ?_)
    exact h2 pins s1 σ1 H1 _ _ Q I1 rr q1
inductive gTup (K : PySem.W.Frag) (n : Nat) (t : TGs) (v : V) (σ : St) (H : Hp) (Q : St → Hp → Prop) : Prop
  | mk (a : Addr) (xs : List V) (e : v = .ref a) (s : SqT K H a xs) (l : xs.length = n) (q : t xs σ H Q) : gTup K n t v σ H Q
theorem pg_tup {es : List Expr} {k : Nat} {t : TGs} {n : Nat} (hc : X.calm = true) (h : PGs X es t)
    (hn : (assignEach es X.env).length = n := by rfl) (hst : (assignEach es X.env).findIdx? (·.1) = none := by rfl) : PG X (.Tuple es k pos) (gTup X.K n t) := by
  intro pins s σ H v u Q I r hw
  obtain ⟨a,xs,e1,hq,hl,hw⟩ := hw
  subst e1
  cases r
  obtain ⟨its,rv,ht,hz⟩ := I.tuple hq
  refine assign_Tuple_tuple (I.ok.hd hc) ht (by simp [hn,← hl,rv.length]) hst fun h' hx => ?_
  have I1 : Inv X pins σ H { s with heap := h' } := I.kept (t' := s.toks) fun b o e => hx b o (Nat.ne_of_lt (Heap.lt_size e)) e
  exact h pins _ σ H xs _ Q I1 (by simpa using rv) hw
def tAsg (te : TE) (g : TG) : TS := fun D σ H => te σ H fun x H1 => g x σ H1 D.nx
theorem ps_asg {tg e : Expr} {te : TE} {g : TG} (he : PE X e te) (hg : PG X tg g) (hs : swapsWithSole [tg] e pos.line X.env = pure false := by rfl) (hw : swappedStores [tg] e X.env = pure none := by rfl)
    (h1 : (assignEach [tg] X.env).map (·.2) = [assign tg X.env] := by rfl) : PS X (.Assign [tg] e pos) (tAsg te g) := by
  intro pins s σ H D I h
  refine wpAny_Assign_stores (thn (he pins s σ H _ I h) fun v s1 ⟨x,H1,I1,r1,q1⟩ => ?_) hs hw
  rw [h1]
  exact thn (hg pins s1 σ H1 x v _ I1 r1 q1) fun _ s2 q => q
theorem ps_set {i : Nat} {x : Str} {e : Expr} {te : TE} {pos' : Pos} (hN : X.N.Nodup) (hi : X.N[i]? = some x) (hx : Loc X.env.scope x) (he : PE X e te) (hs : swapsWith e (some (.Name x pos')) pos.line X.env = pure false := by rfl) (hf : X.fn x = true ∨ X.env.scope.names.lookup x = some .local := by first | exact .inl rfl | exact .inr rfl | assumption) :
    PS X (.Assign [.Name x pos'] e pos) (tAsg te (gName i)) := by
  intro pins s σ H D I h
  refine wpAny_Assign_Name (thn (he pins s σ H _ I h) fun v s1 ⟨y,H1,I1,r1,q1⟩ => ?_) hs
  exact store_ok I1 hN hi hx r1 (fun s2 I2 => ⟨_,H1,I2,q1⟩) hf
def tPar (i j : Nat) (ta : TA) : TS := fun D σ H => ta σ H fun vs H1 => ∃ v w,vs = [v,w] ∧ D.nx ((σ.set i (some v)).set j (some w)) H1
theorem ps_par {i j : Nat} {x y : Str} {a b : Expr} {ta : TA} {px py pt : Pos} {kt k2 pt2} (hc : X.calm = true) (hN : X.N.Nodup) (hi : X.N[i]? = some x) (hj : X.N[j]? = some y) (hij : i ≠ j)
    (hx : X.env.scope.names.lookup x = some .local) (hy : X.env.scope.names.lookup y = some .local) (ha : PA X [a,b] ta)
    (hw : swappedStores [.Tuple [.Name x px,.Name y py] kt pt] (.Tuple [a,b] k2 pt2) X.env = pure (some [x,y]))
    (hs : swapsWithSole [.Tuple [.Name x px,.Name y py] kt pt] (.Tuple [a,b] k2 pt2) pos.line X.env = pure false := by rfl) :
    PS X (.Assign [.Tuple [.Name x px,.Name y py] kt pt] (.Tuple [a,b] k2 pt2) pos) (tPar i j ta) := by
  intro pins s σ H D I h
  rw [exec_Assign_arm]
  refine wpAny_bind (wpAny_standAt ?_)
  rw [hs]
  refine wpAny_bind (wpAny_pure ?_)
  rw [if_neg (by decide)]
  refine wpAny_bind (Tuple_ (thn (ha _ pins s σ H _ I h) fun us s1 ⟨vs,H1,I1,r1,q1⟩ => ?_))
  obtain ⟨v,w,e1,q1⟩ := q1
  subst e1
  obtain ⟨u1,u2,rfl,rv,rw'⟩ : ∃ u1 u2,us = [u1,u2] ∧ RelV v u1 ∧ RelV w u2 := by
    cases r1 with
    | cons p q =>
      cases q with
      | cons p' q' =>
        cases q'
        exact ⟨_,_,rfl,p,p'⟩
  refine wpAny_newObj_type ?_ (by show 2 ≤ sizeLine; decide)
  have I2 : Inv X pins σ H1 { s1 with heap := s1.heap.push { cls := .type "tuple",data := .seq [u1,u2].toArray } } := I1.kept (t' := s1.toks) fun b o e => Heap.get?_push_of_some _ e
  rw [hw]
  refine wpAny_bind (wpAny_pure ?_)
  show wpAny (model X.prog X.w) X.A (do rule "assign.swapped-stores"; let items ← unpackItems (.ref s1.heap.objs.size) 2 none; assignInOrder [fun v => bindName X.env y v,fun v => bindName X.env x v] items.reverse; pure Flow.next) _ _ _
  refine wpAny_bind (wpAny_rule (wpAny_bind (unpackItems_tuple (items := #[u1,u2]) (I.ok.hd hc) (IsTup.new s1.heap _) fun h' hx' => ?_)))
  have I3 := I2.kept (h' := h') (t' := s1.toks) fun b o e => hx' b o (Nat.ne_of_lt (Heap.lt_size e)) e
  show wpAny _ _ (assignInOrder [fun v => bindName X.env y v,fun v => bindName X.env x v] [u2,u1] >>= fun _ => pure Flow.next) _ _ _
  refine wpAny_bind (assignInOrder_cons (wpAny_bindName (store_ok I3 hN hj (.inl hy) rw' (fun s2 I4 => ?_) (.inr hy))))
  refine assignInOrder_cons (wpAny_bindName (store_ok I4 hN hi (.inl hx) rv (fun s3 I5 => assignInOrder_nil (wpAny_pure ?_)) (.inr hx)))
  rw [List.set_comm _ _ (Ne.symm hij)] at I5
  exact ⟨_,H1,I5,q1⟩
end
section
variable {X : Cx} {pos : Pos}
def tWhile (c : TT) (tb : TS) : TS := fun D σ H => ∃ W : Nat → St → Hp → Prop,(∃ m,W m σ H) ∧ ∀ m σ H,W m σ H →
  c σ H fun b H1 => if b = true then ∃ N : St → Hp → Prop,(∀ σ' H',N σ' H' → ∃ m',m' < m ∧ W m' σ' H') ∧ tb { D with nx := N,ct := N,bk := D.nx } σ H1 else D.nx σ H1
theorem ps_while {c : Expr} {body : List Stmt} {tc : TT} {tb : TS} (hp : PassesOwn (model X.prog X.w) X.A X.env X.xe) (hc : PT X c tc) (hb : PSs X body tb) : PS X (.While c body [] pos) (tWhile tc tb) := by
  intro pins s σ H D I h
  obtain ⟨W,⟨m0,w0⟩,turn⟩ := h
  refine wpAny_While (codeAny_whileLoop (fun n s' => ∃ σ' H',Inv X pins σ' H' s' ∧ W n σ' H') ?_ m0 ⟨σ,H,I,w0⟩)
  rintro n s1 ⟨σ1,H1,I1,w1⟩
  refine wpAny_passesOwn hp (thn (hc pins s1 σ1 H1 _ I1 (turn n σ1 H1 w1)) fun b s2 ⟨H2,I2,q2⟩ => ?_)
  cases b with
  | true =>
    obtain ⟨N,hN,q2⟩ := q2
    rw [if_pos rfl]
    refine wpAny_passesOwn hp (thn (hb pins s2 σ1 H2 _ I2 q2) fun f s3 q3 => ?_)
    cases f with
    | next =>
      obtain ⟨σ3,H3,I3,n3⟩ := q3
      obtain ⟨m',hm,w3⟩ := hN σ3 H3 n3
      exact ⟨m',hm,σ3,H3,I3,w3⟩
    | cont =>
      obtain ⟨σ3,H3,I3,n3⟩ := q3
      obtain ⟨m',hm,w3⟩ := hN σ3 H3 n3
      exact ⟨m',hm,σ3,H3,I3,w3⟩
    | brk => exact q3
    | ret v => exact q3
  | false =>
    rw [if_neg Bool.false_ne_true]
    exact wpAny_execs_nil ⟨σ1,H2,I2,q2⟩
end
structure It where
  go : Nat → Hp → Prop
  yld : Nat → Hp → V → Hp → Prop
  stop : Nat → Hp → Prop
def FpOk (X : Cx) (pins : List (Addr × Obj)) (H : Hp) (b : Addr) : Prop :=
  H b = none ∧ b ≠ X.env.locals ∧ b ∉ X.fs ∧ (b ∈ X.ex ∨ X.s₀.heap.objs.size ≤ b) ∧ (∀ x c,X.env.cells.lookup x = some c → c ≠ b) ∧ ∀ p ∈ X.pn ++ pins,p.1 ≠ b
theorem Inv.fpOk {X : Cx} {pins : List (Addr × Obj)} {σ : St} {H H' : Hp} {s : Shared} {b : Addr} (I : Inv X pins σ H s) (hb : s.heap.objs.size ≤ b) (hn : H' b = none) : FpOk X pins H' b := by
  refine ⟨hn,Nat.ne_of_gt (Nat.lt_of_lt_of_le I.lt hb),I.nofs hb,.inr (Nat.le_trans I.sz hb),fun x c e z => ?_,fun p hp z => ?_⟩
  · obtain ⟨v,q⟩ := I.cell x c e
    exact absurd (Nat.lt_of_lt_of_le q.lt (by rw [z]; exact hb)) (Nat.lt_irrefl _)
  · exact absurd (Nat.lt_of_lt_of_le (Heap.lt_size (I.pin p hp).1) (by rw [z]; exact hb)) (Nat.lt_irrefl _)
structure Turn (P : Program) (w : World) (K : PySem.W.Frag) (tg : Expr) (J : It) (fp : List Addr) (it : Addr) (tn : Nat → Heap → Prop) : Prop where
  mem : it ∈ fp
  obj : ∀ i h,tn i h → ∀ b ∈ fp,∃ o,h.get? b = some o ∧ ∀ v,o.data ≠ .cell v
  keep : ∀ i h h',tn i h → (∀ b ∈ fp,∀ o,h.get? b = some o → h'.get? b = some o) → tn i h'
  item : ∀ (X : Cx),X.prog = P → X.w = w → X.K = K → X.calm = true → ∀ (i : Nat) (pins : List (Addr × Obj)) (s : Shared) (σ : St) (H : Hp) (E : Value → Shared → Prop),Inv X pins σ H s → (∀ b ∈ fp,FpOk X pins H b) → tn i s.heap → J.go i H →
    wpAny (model P w) X.A (pyNext (.ref it)) (fun r s1 => ∃ u,r = some u ∧
      wpAny (model P w) X.A (letOwnedTupleGo tg (.ref it) u) (fun _ s2 => ∃ x H',Inv X pins σ H' s2 ∧ RelV x u ∧ J.yld i H x H' ∧ tn (i + 1) s2.heap ∧ ∀ b ∈ fp,H' b = none) E s1) E s
  done : ∀ (X : Cx),X.prog = P → X.w = w → X.K = K → X.calm = true → ∀ (i : Nat) (pins : List (Addr × Obj)) (s : Shared) (σ : St) (H : Hp) (E : Value → Shared → Prop),Inv X pins σ H s → (∀ b ∈ fp,FpOk X pins H b) → tn i s.heap → J.stop i H →
    wpAny (model P w) X.A (pyNext (.ref it)) (fun r s1 => r = none ∧ Inv X pins σ H s1) E s
  self : ∀ (A : Around) (i : Nat) (s : Shared) (Q : Value → Shared → Prop) (E : Value → Shared → Prop),tn i s.heap → Q (.ref it) s → wpAny (model P w) A (pyIter (.ref it)) Q E s
abbrev TI := St → Hp → (It → Hp → Prop) → Prop
def PIE (X : Cx) (pins : List (Addr × Obj)) (σ : St) (tg : Expr) (R : It → Hp → Prop) (itv : Value) (s2 : Shared) : Prop :=
  ∃ (it : Addr) (fp : List Addr) (tn : Nat → Heap → Prop) (J : It) (H' : Hp),itv = .ref it ∧ Inv X pins σ H' s2 ∧ Turn X.prog X.w X.K tg J fp it tn ∧ tn 0 s2.heap ∧ (∀ b ∈ fp,FpOk X pins H' b) ∧ R J H'
def PI (X : Cx) (tg iter : Expr) (wi : TI) : Prop :=
  ∀ (pins : List (Addr × Obj)) (s : Shared) (σ : St) (H : Hp) (R : It → Hp → Prop),Inv X pins σ H s → wi σ H R →
    wpAny (model X.prog X.w) X.A (eval iter X.env) (fun v s1 => wpAny (model X.prog X.w) X.A (pyIter v) (PIE X pins σ tg R) X.xe s1) X.xe s
theorem go_of {M : Model} {A : Around} {E : Value → Shared → Prop} {s : Shared} {tg : Expr} {it : Addr} {u : Value} {o : Obj} {n : String} {vs : Array Value} {Q : Unit → Shared → Prop} (ho : s.heap.get? it = some o) (hc : o.cls = .type n) (hd : o.data = .fields vs)
    (hn : ["enumerate","zip","dict_itemiterator","dict_reverseitemiterator","odict_iterator","itertools.zip_longest","itertools.pairwise"].contains n = false) (hQ : Q () s) : wpAny M A (letOwnedTupleGo tg (.ref it) u) Q E s := by
  unfold letOwnedTupleGo
  cases tg <;> first
    | exact wpAny_pure hQ
    | (cases u <;> first
        | exact wpAny_pure hQ
        | (refine wpAny_bind (wpAny_load ho ?_)
           rw [hc,hd]
           show wpAny M A (if (["enumerate","zip","dict_itemiterator","dict_reverseitemiterator","odict_iterator","itertools.zip_longest","itertools.pairwise"].contains n && vs[0]? == some (rawInt _)) = true then _ else _) Q E s
           rw [if_neg (by intro h; rw [hn,Bool.false_and] at h; cases h)]
           exact wpAny_pure hQ))
def Itl (K : PySem.W.Frag) (a : Addr) : It :=
  ⟨fun i H => ∃ xs x,SqL K H a xs ∧ xs[i]? = some x,fun i H x H' => H' = H ∧ ∀ xs,SqL K H a xs → xs[i]? = some x,fun i H => ∃ xs,SqL K H a xs ∧ xs.length ≤ i⟩
def Itr (lo : Int) (n : Nat) : It := ⟨fun i _ => i < n,fun i H x H' => H' = H ∧ x = .int (lo + i),fun i _ => n ≤ i⟩
theorem turn_list {P : Program} {w : World} {K : PySem.W.Frag} {tg : Expr} (a it : Addr) : Turn P w K tg (Itl K a) [it] it (fun i h => h.IsListIter it a i) where
  mem := by simp
  obj := fun i h st b hb => by
    have e : b = it := by simpa using hb
    subst e
    obtain ⟨o,e,c,d⟩ := st
    exact ⟨o,e,fun v z => by rw [d] at z; cases z⟩
  keep := fun i h h' st k => st.at fun o e => k it (by simp) o e
  item := by
    intro X hP hw hK hc i pins s σ H E I hf st hg
    subst hP hw hK
    obtain ⟨xs,x,hq,hx⟩ := hg
    obtain ⟨its,rv,p,hz⟩ := I.list hq
    obtain ⟨u,hu,ru⟩ := rv.get hx
    obtain ⟨f0,f1,f2,f3,f4,f5⟩ := hf it (by simp)
    refine wpAny_pyNext_list_item st p.isList (x := u) (by simpa using hu) fun h' st' sb => ?_
    have I1 : Inv X pins σ H { s with heap := h' } := I.turned (t' := s.toks) (fun b o hb e => (sb.2 b hb).trans e) f0 f1 f3 f4 f5
    obtain ⟨o,e,c,d⟩ := id st'
    exact ⟨u,rfl,go_of (s := { s with heap := h' }) e c d (by decide) ⟨x,H,I1,ru,⟨rfl,fun ys hy => by rw [I.list_inj hy hq]; exact hx⟩,st',fun b hb => (hf b hb).1⟩⟩
  done := by
    intro X hP hw hK hc i pins s σ H E I hf st hg
    subst hP hw hK
    obtain ⟨xs,hq,hx⟩ := hg
    obtain ⟨its,rv,p,hz⟩ := I.list hq
    obtain ⟨f0,f1,f2,f3,f4,f5⟩ := hf it (by simp)
    have hl := rv.length
    exact wpAny_pyNext_list_end (I.ok.hd hc) st p.isList (by simp; omega) fun h' eb => ⟨rfl,I.turned (t' := s.toks) (fun b o hb e => eb b o hb e) f0 f1 f3 f4 f5⟩
  self := fun _ _ _ _ _ st h => wpAny_pyIter_listiter st h
theorem turn_range {P : Program} {w : World} {K : PySem.W.Frag} {tg : Expr} (it : Addr) (lo : Int) (n : Nat) : Turn P w K tg (Itr lo n) [it] it (fun i h => IsRangeIter h it (lo + (i : Nat) * 1) ((n : Int) - (i : Nat)) 1) where
  mem := by simp
  obj := fun i h st b hb => by
    have e : b = it := by simpa using hb
    subst e
    exact ⟨_,st,fun v z => by
      have z' : Data.fields _ = Data.cell v := z
      cases z'⟩
  keep := fun i h h' st k => k it (by simp) _ st
  item := by
    intro X hP hw hK hc i pins s σ H E I hf st hg
    subst hP hw hK
    obtain ⟨f0,f1,f2,f3,f4,f5⟩ := hf it (by simp)
    have W := Walks.range (prog := X.prog) (w := X.w) (I.ok.hd hc) it lo 1 n
    refine W.item i s _ _ hg st fun v h' tk hv st' kk => ?_
    obtain ⟨t,rfl⟩ := hv
    have I1 : Inv X pins σ H { s with heap := h',toks := tk } := I.turned (fun b o hb e => kk b o (by simpa using hb) e) f0 f1 f3 f4 f5
    refine ⟨_,rfl,go_of (s := { s with heap := h',toks := tk }) (n := "range_iterator") st' rfl rfl (by decide) ⟨.int (lo + i),H,I1,⟨t,?_⟩,⟨rfl,rfl⟩,st',fun b hb => (hf b hb).1⟩⟩
    rw [Int.mul_one]
  done := by
    intro X hP hw hK hc i pins s σ H E I hf st hg
    subst hP hw hK
    obtain ⟨f0,f1,f2,f3,f4,f5⟩ := hf it (by simp)
    exact wpAny_pyNext_range_end (I.ok.hd hc) st (by have : n ≤ i := hg; omega) fun h' eb => ⟨rfl,I.turned (t' := s.toks) (fun b o hb e => eb b o hb e) f0 f1 f3 f4 f5⟩
  self := fun _ _ _ _ _ st h => wpAny_pyIter_rangeiter st h
end L2
namespace L2
open PySem PySem.Spec PyProof.Rows
section
variable {X : Cx} {tg : Expr}
def iList (K : PySem.W.Frag) (tl : TE) : TI := fun σ H R => tl σ H fun x H1 => ∃ a,x = .ref a ∧ (∃ xs,SqL K H1 a xs) ∧ R (Itl K a) H1
theorem pi_list {l : Expr} {tl : TE} (hl : PE X l tl) : PI X tg l (iList X.K tl) := by
  intro pins s σ H R I h
  refine thn (hl pins s σ H _ I h) fun v s1 ⟨x,H1,I1,r1,q1⟩ => ?_
  obtain ⟨a,e,⟨xs,hq⟩,q⟩ := q1
  subst e
  cases r1
  obtain ⟨its,rv,p,hz⟩ := I1.list hq
  refine wpAny_pyIter_list p.isList ?_
  refine ⟨s1.heap.objs.size,[s1.heap.objs.size],_,_,H1,rfl,I1.kept (t' := s1.toks) fun b o e => Heap.get?_push_of_some _ e,turn_list a _,⟨_,Heap.get?_push_size _ rfl,rfl,rfl⟩,fun b hb => ?_,q⟩
  have e : b = s1.heap.objs.size := by simpa using hb
  subst e
  exact I1.fpOk (Nat.le_refl _) (I1.hok.fresh (Nat.le_refl _))
theorem range_it {pins : List (Addr × Obj)} {σ : St} {H : Hp} {s : Shared} {R : It → Hp → Prop} {E : Value → Shared → Prop} {lo hi : Int} {t u v : Tok} {tk : Nat} (I : Inv X pins σ H s) (h1 : -(2 ^ 62) ≤ lo) (h2 : lo < 2 ^ 62) (h3 : -(2 ^ 62) ≤ hi) (h4 : hi < 2 ^ 62)
    (q : R (Itr lo (hi - lo).toNat) H) : wpAny (model X.prog X.w) X.A (pyIter (.ref s.heap.objs.size)) (PIE X pins σ tg R) E { s with heap := s.heap.push { cls := .type "range",data := .fields #[.int lo t,.int hi u,.int 1 v] },toks := tk } := by
  refine wpAny_pyIter_range (IsRange.new ..) (small_one h1 h2 h3 h4) ?_
  have I1 : Inv X pins σ H { s with heap := s.heap.push { cls := .type "range",data := .fields #[.int lo t,.int hi u,.int 1 v] },toks := tk } := I.kept fun b o e => Heap.get?_push_of_some _ e
  refine ⟨(s.heap.push { cls := .type "range",data := .fields #[.int lo t,.int hi u,.int 1 v] }).objs.size,[(s.heap.push { cls := .type "range",data := .fields #[.int lo t,.int hi u,.int 1 v] }).objs.size],_,_,H,rfl,
    I1.kept (t' := tk) fun b o e => Heap.get?_push_of_some _ e,turn_range _ lo (hi - lo).toNat,?_,fun b hb => ?_,q⟩
  · have e1 : lo + ((0 : Nat) : Int) * 1 = lo := by simp
    have e2 : (((hi - lo).toNat : Nat) : Int) - ((0 : Nat) : Int) = Builtin.Range.rangeSize lo hi 1 := by rw [rangeSize_one]; split <;> omega
    show IsRangeIter _ _ (lo + ((0 : Nat) : Int) * 1) ((((hi - lo).toNat : Nat) : Int) - ((0 : Nat) : Int)) 1
    rw [e1,e2]
    exact Heap.get?_push_size _ rfl
  · have e : b = (s.heap.push { cls := .type "range",data := .fields #[.int lo t,.int hi u,.int 1 v] }).objs.size := by simpa using hb
    subst e
    exact I1.fpOk (Nat.le_refl _) (I1.hok.fresh (Nat.le_refl _))
def iRng1 (ta : TA) : TI := fun σ H R => ta σ H fun vs H1 => ∃ j : Int,vs = [.int j] ∧ -(2 ^ 62) ≤ j ∧ j < 2 ^ 62 ∧ R (Itr 0 j.toNat) H1
theorem pi_range1 {a : Expr} {ta : TA} {p pos : Pos} (hg : Gl X "range") (hm : X.mg "range" = none) (ha : PA X [a] ta) (hs : starEach [a] X.env = [(false,eval a X.env)] := by rfl) : PI X tg (.Call (.Name "range" p) [a] [] pos) (iRng1 ta) := by
  intro pins s σ H R I h
  refine Call_ (ld_blt I hg hm boot_range (PyProof.Rows.callWith_type1 (thn (ha pos pins s σ H _ I h) fun us s1 ⟨vs,H1,I1,r1,q1⟩ => ?_) hs rfl))
  obtain ⟨j,e,q1,q2,q⟩ := q1
  subst e
  cases r1 with
  | cons r rr =>
    cases rr
    obtain ⟨t,rfl⟩ := r
    exact call_range_1 (range_it I1 (by omega) (by omega) q1 q2 (by simpa using q))
def tFor (wi : TI) (g : TG) (tb : TS) : TS := fun D σ H => wi σ H fun J H1 => ∃ W : Nat → Nat → St → Hp → Prop,(∃ m,W 0 m σ H1) ∧ ∀ i m σ H,W i m σ H →
  (J.stop i H ∧ D.nx σ H) ∨ (J.go i H ∧ ∃ N : St → Hp → Prop,(∀ σ' H',N σ' H' → ∃ m',m' < m ∧ W (i + 1) m' σ' H') ∧ ∀ x H',J.yld i H x H' → g x σ H' fun σ2 H2 => tb { D with nx := N,ct := N,bk := D.nx } σ2 H2)
def pinsAt (fp : List Addr) (h : Heap) : List (Addr × Obj) := fp.filterMap fun b => (h.get? b).map fun o => (b,o)
theorem mem_pinsAt {fp : List Addr} {h : Heap} {b : Addr} {o : Obj} (hb : b ∈ fp) (e : h.get? b = some o) : (b,o) ∈ pinsAt fp h := List.mem_filterMap.mpr ⟨b,hb,by rw [e]; rfl⟩
theorem of_pinsAt {fp : List Addr} {h : Heap} {p : Addr × Obj} (hp : p ∈ pinsAt fp h) : p.1 ∈ fp ∧ h.get? p.1 = some p.2 := by
  obtain ⟨b,hb,e⟩ := List.mem_filterMap.mp hp
  cases q : h.get? b with
  | none => rw [q] at e; cases e
  | some o =>
    rw [q] at e
    have e' : (b,o) = p := Option.some.inj e
    subst e'
    exact ⟨hb,q⟩
theorem Inv.pinned {pins : List (Addr × Obj)} {σ : St} {H : Hp} {s : Shared} {fp : List Addr} (I : Inv X pins σ H s) (hf : ∀ b ∈ fp,FpOk X pins H b) (ho : ∀ b ∈ fp,∃ o,s.heap.get? b = some o ∧ ∀ v,o.data ≠ .cell v) : Inv X (pins ++ pinsAt fp s.heap) σ H s :=
  I.pins_of fun p hp => (List.mem_append.mp hp).elim (fun z => I.pin p (List.mem_append_right _ z)) fun z => by
    obtain ⟨hb,e⟩ := of_pinsAt z
    obtain ⟨f0,f1,f2,_⟩ := hf p.1 hb
    obtain ⟨o,e',d⟩ := ho p.1 hb
    rw [e] at e'; cases e'
    exact ⟨e,f0,f1,f2,d⟩
theorem Inv.unpinned {pins pl : List (Addr × Obj)} {σ : St} {H : Hp} {s : Shared} (I : Inv X (pins ++ pl) σ H s) : Inv X pins σ H s := I.pins_of fun p hp => I.pin p (List.mem_append_right _ (List.mem_append_left _ hp))
theorem ps_for {iter : Expr} {body : List Stmt} {wi : TI} {g : TG} {tb : TS} {pos : Pos} (hp : PassesOwn (model X.prog X.w) X.A X.env X.xe) (hc : X.calm = true) (hi : PI X tg iter wi) (hg : PG X tg g) (hb : PSs X body tb)
    (hs : ∀ x,foldedSetIterable iter X.env x = pure x := by intro _; rfl) : PS X (.For tg iter body [] pos) (tFor wi g tb) := by
  intro pins s σ H D I h
  refine wpAny_For (thn (hi pins s σ H _ I h) fun v s1 h1 => thn h1 fun itv s2 h2 => ?_) hs
  obtain ⟨it,fp,tn,J,H2,e,I2,T,st2,f2,W,⟨m0,w0⟩,turn⟩ := h2
  subst e
  have stat : ∀ {H' : Hp},(∀ b ∈ fp,H' b = none) → ∀ b ∈ fp,FpOk X pins H' b := fun hn b hb => ⟨hn b hb,(f2 b hb).2⟩
  refine codeAny_forLoop_any (fun n s' => ∃ i σ' H',Inv X pins σ' H' s' ∧ tn i s'.heap ∧ (∀ b ∈ fp,H' b = none) ∧ W i n σ' H') ?_ m0 ⟨0,σ,H2,I2,st2,fun b hb => (f2 b hb).1,w0⟩
  rintro n s3 ⟨i,σ3,H3,I3,st3,fr3,w3⟩
  rcases turn i n σ3 H3 w3 with ⟨stop,qn⟩ | ⟨go,N,hN,step⟩
  · refine wpAny_passesOwn hp (thn (T.done X rfl rfl rfl hc i pins s3 σ3 H3 X.xe I3 (stat fr3) st3 stop) fun r s4 ⟨hr,I4⟩ => ?_)
    subst hr
    exact wpAny_execs_nil ⟨σ3,H3,I4,qn⟩
  · refine wpAny_passesOwn hp (thn (T.item X rfl rfl rfl hc i pins s3 σ3 H3 X.xe I3 (stat fr3) st3 go) fun r s4 ⟨u,hr,h4⟩ => ?_)
    subst hr
    refine wpAny_passesOwn hp (thn h4 fun _ s5 ⟨x,H5,I5,r5,y5,st5,fr5⟩ => ?_)
    have I5' := I5.pinned (stat fr5) (T.obj _ _ st5)
    refine wpAny_passesOwn hp (thn (hg _ s5 σ3 H5 x u _ I5' r5 (step x H5 y5)) fun _ s6 ⟨σ6,H6,I6,q6⟩ => ?_)
    refine wpAny_passesOwn hp (thn (hb _ s6 σ6 H6 _ I6 q6) fun f s7 q7 => ?_)
    have again : ∀ {σ7 : St} {H7 : Hp},Inv X (pins ++ pinsAt fp s5.heap) σ7 H7 s7 → N σ7 H7 → ∃ m,m < n ∧ ∃ i σ' H',Inv X pins σ' H' s7 ∧ tn i s7.heap ∧ (∀ b ∈ fp,H' b = none) ∧ W i m σ' H' := fun {σ7 H7} I7 n7 => by
      obtain ⟨m',hm,w7⟩ := hN σ7 H7 n7
      refine ⟨m',hm,i + 1,σ7,H7,I7.unpinned,T.keep _ _ _ st5 fun b hb o e => (I7.pin (b,o) (List.mem_append_right _ (List.mem_append_right _ (mem_pinsAt hb e)))).1,fun b hb => ?_,w7⟩
      obtain ⟨o,e,d⟩ := T.obj _ _ st5 b hb
      exact (I7.pin (b,o) (List.mem_append_right _ (List.mem_append_right _ (mem_pinsAt hb e)))).2.1
    cases f with
    | next => obtain ⟨σ7,H7,I7,n7⟩ := q7; exact again I7 n7
    | cont => obtain ⟨σ7,H7,I7,n7⟩ := q7; exact again I7 n7
    | brk => obtain ⟨σ7,H7,I7,q7⟩ := q7; exact ⟨σ7,H7,I7.unpinned,q7⟩
    | ret v => obtain ⟨x7,σ7,H7,I7,r7,q7⟩ := q7; exact ⟨x7,σ7,H7,I7.unpinned,r7,q7⟩
end
theorem for_list {K : PySem.W.Frag} {a : Addr} {xs : List V} {g : TG} {tb : TS} {D : Ends} {σ : St} {H : Hp} (Pv : Nat → St → Hp → Prop) (h0 : Pv 0 σ H) (hl : ∀ i σ H,i ≤ xs.length → Pv i σ H → SqL K H a xs)
    (hs : ∀ i x σ H,xs[i]? = some x → Pv i σ H → g x σ H fun σ2 H2 => tb { D with nx := Pv (i + 1),ct := Pv (i + 1),bk := D.nx } σ2 H2) (hd : ∀ σ H,Pv xs.length σ H → D.nx σ H) :
    ∃ W : Nat → Nat → St → Hp → Prop,(∃ m,W 0 m σ H) ∧ ∀ i m σ H,W i m σ H →
      ((Itl K a).stop i H ∧ D.nx σ H) ∨ ((Itl K a).go i H ∧ ∃ N : St → Hp → Prop,(∀ σ' H',N σ' H' → ∃ m',m' < m ∧ W (i + 1) m' σ' H') ∧ ∀ x H',(Itl K a).yld i H x H' → g x σ H' fun σ2 H2 => tb { D with nx := N,ct := N,bk := D.nx } σ2 H2) := by
  refine ⟨fun i m σ H => m = xs.length - i ∧ i ≤ xs.length ∧ Pv i σ H,⟨xs.length,by simp,Nat.zero_le _,h0⟩,?_⟩
  rintro i m σ H ⟨rfl,hi,p⟩
  have q := hl i σ H hi p
  by_cases hlt : i < xs.length
  · refine .inr ⟨⟨xs,xs[i],q,by simp [hlt]⟩,Pv (i + 1),fun σ' H' p' => ⟨xs.length - (i + 1),by omega,rfl,hlt,p'⟩,fun x H' y => ?_⟩
    obtain ⟨e,y⟩ := y
    subst e
    exact hs i x σ _ (y xs q) p
  · have e : i = xs.length := by omega
    subst e
    exact .inl ⟨⟨xs,q,Nat.le_refl _⟩,hd σ H p⟩
theorem for_range {lo : Int} {n : Nat} {g : TG} {tb : TS} {D : Ends} {σ : St} {H : Hp} (Pv : Nat → St → Hp → Prop) (h0 : Pv 0 σ H)
    (hs : ∀ i σ H,i < n → Pv i σ H → g (.int (lo + i)) σ H fun σ2 H2 => tb { D with nx := Pv (i + 1),ct := Pv (i + 1),bk := D.nx } σ2 H2) (hd : ∀ σ H,Pv n σ H → D.nx σ H) :
    ∃ W : Nat → Nat → St → Hp → Prop,(∃ m,W 0 m σ H) ∧ ∀ i m σ H,W i m σ H →
      ((Itr lo n).stop i H ∧ D.nx σ H) ∨ ((Itr lo n).go i H ∧ ∃ N : St → Hp → Prop,(∀ σ' H',N σ' H' → ∃ m',m' < m ∧ W (i + 1) m' σ' H') ∧ ∀ x H',(Itr lo n).yld i H x H' → g x σ H' fun σ2 H2 => tb { D with nx := N,ct := N,bk := D.nx } σ2 H2) := by
  refine ⟨fun i m σ H => m = n - i ∧ i ≤ n ∧ Pv i σ H,⟨n,by simp,Nat.zero_le _,h0⟩,?_⟩
  rintro i m σ H ⟨rfl,hi,p⟩
  by_cases hlt : i < n
  · refine .inr ⟨hlt,Pv (i + 1),fun σ' H' p' => ⟨n - (i + 1),by omega,rfl,hlt,p'⟩,fun x H' y => ?_⟩
    obtain ⟨e,y⟩ := y
    subst e y
    exact hs i σ _ hlt p
  · have e : i = n := by omega
    subst e
    exact .inl ⟨Nat.le_refl _,hd σ H p⟩
theorem while_by {c : TT} {tb : TS} {D : Ends} {σ : St} {H : Hp} (Pv : St → Hp → Prop) (μ : St → Hp → Nat) (h0 : Pv σ H)
    (hs : ∀ σ H,Pv σ H → c σ H fun b H1 => if b = true then tb { D with nx := fun σ' H' => Pv σ' H' ∧ μ σ' H' < μ σ H,ct := fun σ' H' => Pv σ' H' ∧ μ σ' H' < μ σ H,bk := D.nx } σ H1 else D.nx σ H1)
    (mono : ∀ σ H Q Q',(∀ b H1,Q b H1 → Q' b H1) → c σ H Q → c σ H Q') : tWhile c tb D σ H := by
  refine ⟨fun m σ H => m = μ σ H ∧ Pv σ H,⟨_,rfl,h0⟩,?_⟩
  rintro m σ H ⟨rfl,p⟩
  refine mono σ H _ _ (fun b H1 q => ?_) (hs σ H p)
  cases b with
  | true => exact ⟨_,fun σ' H' ⟨p',l⟩ => ⟨_,l,rfl,p'⟩,q⟩
  | false => exact q
end L2
namespace L2
open PySem PySem.Spec PyProof.Rows
abbrev R2 := V → V → Hp → VK → Prop
def OpR (X : Cx) (f : Value → Value → Sem Value) (r : R2) : Prop :=
  ∀ (pins : List (Addr × Obj)) (s : Shared) (σ : St) (H : Hp) (x y : V) (v u : Value) (Q : VK),Inv X pins σ H s → RelV x v → RelV y u → r x y H Q →
    wpAny (model X.prog X.w) X.A (f v u) (EP X pins σ Q) X.xe s
def UnR (X : Cx) (f : Value → Sem Value) (r : V → Hp → VK → Prop) : Prop :=
  ∀ (pins : List (Addr × Obj)) (s : Shared) (σ : St) (H : Hp) (x : V) (v : Value) (Q : VK),Inv X pins σ H s → RelV x v → r x H Q →
    wpAny (model X.prog X.w) X.A (f v) (EP X pins σ Q) X.xe s
def CallR (X : Cx) (f : Value) (r : List V → Hp → VK → Prop) : Prop :=
  ∀ (pins : List (Addr × Obj)) (s : Shared) (σ : St) (H : Hp) (xs : List V) (us : List Value) (Q : VK),Inv X pins σ H s → Vals xs us → r xs H Q →
    wpAny (model X.prog X.w) X.A (call f us) (EP X pins σ Q) X.xe s
def tOp (r : R2) (ta tb : TE) : TE := fun σ H Q => ta σ H fun x H1 => tb σ H1 fun y H2 => r x y H2 Q
def tUn (r : V → Hp → VK → Prop) (ta : TE) : TE := fun σ H Q => ta σ H fun x H1 => r x H1 Q
inductive rI (C : Int → Int → Prop) (g : Int → Int → V) (x y : V) (H : Hp) (Q : VK) : Prop
  | mk (i j : Int) (e : x = .int i) (f : y = .int j) (c : C i j) (q : Q (g i j) H) : rI C g x y H Q
inductive rI0 (g : Int → Int → V) (x y : V) (H : Hp) (Q : VK) : Prop
  | mk (i j : Int) (e : x = .int i) (f : y = .int j) (q : Q (g i j) H) : rI0 g x y H Q
def rU (g : Int → V) : V → Hp → VK → Prop := fun x H Q => ∃ i,x = .int i ∧ Q (g i) H
section
variable {X : Cx} {a b c : Expr} {ta tb tc : TE} {pos : Pos}
theorem binT (ha : PE X a ta) (hb : PE X b tb) {pins : List (Addr × Obj)} {s : Shared} {σ : St} {H : Hp} {R : V → V → Hp → Prop} (I : Inv X pins σ H s)
    (h : ta σ H fun x H1 => tb σ H1 fun y H2 => R x y H2) {Q : Value → Shared → Prop} {f : Value → Value → Sem Value}
    (hf : ∀ v u s2 x y H2,Inv X pins σ H2 s2 → RelV x v → RelV y u → R x y H2 → wpAny (model X.prog X.w) X.A (f v u) Q X.xe s2) :
    wpAny (model X.prog X.w) X.A (eval a X.env) (fun v s₁ => wpAny (model X.prog X.w) X.A (eval b X.env) (fun u s₂ => wpAny (model X.prog X.w) X.A (f v u) Q X.xe s₂) X.xe s₁) X.xe s := by
  refine thn (ha pins s σ H _ I h) fun v s1 ⟨x,H1,I1,r1,q1⟩ => ?_
  refine thn (hb pins s1 σ H1 _ I1 q1) fun u s2 ⟨y,H2,I2,r2,q2⟩ => ?_
  exact hf v u s2 x y H2 I2 r1 r2 q2
theorem pe_op {op : Operator} {r : R2} (ho : OpR X (binaryOp op) r) (ha : PE X a ta) (hb : PE X b tb) : PE X (.BinOp a op b pos) (tOp r ta tb) := by
  intro pins s σ H Q I h
  exact wpAny_BinOp (binT ha hb I h fun v u s2 x y H2 I2 rx ry q => ho pins s2 σ H2 x y v u Q I2 rx ry q)
theorem pe_un {op : UnaryOp} {r : V → Hp → VK → Prop} (ho : UnR X (unaryOp op) r) (ha : PE X a ta) : PE X (.UnaryOp op a pos) (tUn r ta) := by
  intro pins s σ H Q I h
  exact UnaryOp_ (thn (ha pins s σ H _ I h) fun v s1 ⟨x,H1,I1,r1,q1⟩ => ho pins s1 σ H1 x v Q I1 r1 q1)
theorem opI {f : Value → Value → Sem Value} {C : Int → Int → Prop} {g : Int → Int → Int}
    (rule : ∀ (i j : Int) (t u : Tok) (s : Shared) (Q : Value → Shared → Prop) (E : Value → Shared → Prop),C i j → Q (.int (g i j) s.toks) { s with toks := s.toks + 1 } → wpAny (model X.prog X.w) X.A (f (.int i t) (.int j u)) Q E s) :
    OpR X f (rI C fun i j => .int (g i j)) := by
  intro pins s σ H x y v u Q I rx ry h
  obtain ⟨i,j,rfl,rfl,hc,q⟩ := h
  obtain ⟨t,rfl⟩ := rx
  obtain ⟨t',rfl⟩ := ry
  exact rule i j t t' s _ _ hc ⟨.int (g i j),H,I.tok _,⟨_,rfl⟩,q⟩
theorem opI0 {f : Value → Value → Sem Value} {g : Int → Int → Int}
    (rule : ∀ (i j : Int) (t u : Tok) (s : Shared) (Q : Value → Shared → Prop) (E : Value → Shared → Prop),Q (.int (g i j) s.toks) { s with toks := s.toks + 1 } → wpAny (model X.prog X.w) X.A (f (.int i t) (.int j u)) Q E s) :
    OpR X f (rI0 fun i j => .int (g i j)) := by
  intro pins s σ H x y v u Q I rx ry h
  obtain ⟨i,j,rfl,rfl,q⟩ := h
  obtain ⟨t,rfl⟩ := rx
  obtain ⟨t',rfl⟩ := ry
  exact rule i j t t' s _ _ ⟨.int (g i j),H,I.tok _,⟨_,rfl⟩,q⟩
theorem opB0 {f : Value → Value → Sem Value} {g : Int → Int → Bool}
    (rule : ∀ (i j : Int) (t u : Tok) (s : Shared) (Q : Value → Shared → Prop) (E : Value → Shared → Prop),Q (.bool (g i j)) s → wpAny (model X.prog X.w) X.A (f (.int i t) (.int j u)) Q E s) :
    OpR X f (rI0 fun i j => .bl (g i j)) := by
  intro pins s σ H x y v u Q I rx ry h
  obtain ⟨i,j,rfl,rfl,q⟩ := h
  obtain ⟨t,rfl⟩ := rx
  obtain ⟨t',rfl⟩ := ry
  exact rule i j t t' s _ _ ⟨.bl (g i j),H,I,rfl,q⟩
def CPow (i j : Int) : Prop := 0 ≤ j ∧ j ≤ 1000000 ∧ i.natAbs < 2 ^ 64
def CMul (i j : Int) : Prop := (-(2 ^ 64) < i ∧ i < 2 ^ 64) ∨ (-(2 ^ 64) < j ∧ j < 2 ^ 64)
theorem CMul.ok {i j : Int} (h : CMul i j) : IntMulOk i j := by
  rcases h with ⟨h1,h2⟩ | ⟨h1,h2⟩
  · exact .of_left (intBits_le_64 h1 h2)
  · exact .of_right (intBits_le_64 h1 h2)
theorem op_add : OpR X (binaryOp .Add) (rI0 fun i j => .int (i + j)) := opI0 fun _ _ _ _ _ _ _ q => add_int q
theorem op_sub : OpR X (binaryOp .Sub) (rI0 fun i j => .int (i - j)) := opI0 fun _ _ _ _ _ _ _ q => sub_int q
theorem op_mod : OpR X (binaryOp .Mod) (rI (fun _ j => 0 < j) fun i j => .int (i % j)) := opI fun i j _ _ _ _ _ hc q => by
  have h1 : (0 : Int) < j := hc
  exact mod_int' (by omega) (by rw [Int.fmod_eq_emod_of_nonneg i (by omega)]; exact q)
theorem op_pow : OpR X (binaryOp .Pow) (rI CPow fun i j => .int (i ^ j.toNat)) := opI fun _ _ _ _ _ _ _ hc q => pow_int_small hc.1 hc.2.1 hc.2.2 q
theorem op_shl : OpR X (binaryOp .LShift) (rI CPow fun i j => .int (i * 2 ^ j.toNat)) := opI fun _ _ _ _ _ _ _ hc q => lshift_int_small hc.1 hc.2.1 hc.2.2 q
theorem unI {f : Value → Sem Value} {g : Int → Int}
    (rule : ∀ (i : Int) (t : Tok) (s : Shared) (Q : Value → Shared → Prop) (E : Value → Shared → Prop),Q (.int (g i) s.toks) { s with toks := s.toks + 1 } → wpAny (model X.prog X.w) X.A (f (.int i t)) Q E s) :
    UnR X f (rU fun i => .int (g i)) := by
  intro pins s σ H x v Q I rx h
  obtain ⟨i,rfl,q⟩ := h
  obtain ⟨t,rfl⟩ := rx
  exact rule i t s _ _ ⟨.int (g i),H,I.tok _,⟨_,rfl⟩,q⟩
theorem un_neg : UnR X (unaryOp .USub) (rU fun i => .int (-i)) := unI fun _ _ _ _ _ q => neg_int q
end
def scal : V → V → Bool
  | .non,.non => true | .non,.int _ => true | .int _,.non => true | .non,.bl _ => true | .bl _,.non => true | .non,.str _ => true | .str _,.non => true
  | .int _,.int _ => true | .bl _,.bl _ => true | .str _,.str _ => true | .byt _,.byt _ => true
  | .int _,.str _ => true | .str _,.int _ => true | .bl _,.str _ => true | .str _,.bl _ => true
  | _,_ => false
inductive rEq (x y : V) (H : Hp) (Q : VK) : Prop
  | mk (s : scal x y = true) (q : Q (.bl (decide (x = y))) H) : rEq x y H Q
inductive rNe (x y : V) (H : Hp) (Q : VK) : Prop
  | mk (s : scal x y = true) (q : Q (.bl (!decide (x = y))) H) : rNe x y H Q
theorem dec_int {i j : Int} : decide (V.int i = V.int j) = (i == j) := by
  rw [Bool.eq_iff_iff]
  simp
theorem dec_bl {i j : Bool} : decide (V.bl i = V.bl j) = (i == j) := by
  rw [Bool.eq_iff_iff]
  simp
theorem dec_str {i j : Str} : decide (V.str i = V.str j) = (i == j) := by
  rw [Bool.eq_iff_iff]
  simp
theorem dec_byt {i j : Array UInt8} : decide (V.byt i = V.byt j) = (i.toList == j.toList) := by
  rw [Bool.eq_iff_iff]
  cases i
  cases j
  simp
section
variable {X : Cx} {a b c : Expr} {ta tb tc : TE} {pos : Pos}
theorem fin_bl {pins : List (Addr × Obj)} {σ : St} {H : Hp} {s : Shared} {Q : VK} {k k' : Bool} (I : Inv X pins σ H s) (q : Q (.bl k) H) (e : k = k') : EP X pins σ Q (.bool k') s := by
  subst e
  exact ⟨.bl k,H,I,rfl,q⟩
theorem op_eq : OpR X (compareOp .Eq) rEq := by
  intro pins s σ H x y v u Q I rx ry h
  obtain ⟨hs,q⟩ := h
  cases x with
  | non =>
    cases rx
    cases y with
    | non => cases ry; exact PySem.EqNone.eq_none_none (fin_bl I q (by simp))
    | bl j => cases ry; exact PySem.EqNone.eq_none_bool (fin_bl I q (by simp))
    | int j => obtain ⟨t',rfl⟩ := ry; exact PySem.EqNone.eq_none_int (fin_bl I q (by simp))
    | str j => obtain ⟨t',rfl⟩ := ry; exact PySem.EqNone.eq_none_str (fin_bl I q (by simp))
    | _ => exact absurd (show false = true from hs) Bool.false_ne_true
  | bl i =>
    cases rx
    cases y with
    | non => cases ry; exact PySem.EqNone.eq_bool_none (fin_bl I q (by simp))
    | bl j => cases ry; exact eq_bool (fin_bl I q dec_bl)
    | str j => obtain ⟨t',rfl⟩ := ry; exact PySem.EqMixed.eq_bool_str (fin_bl I q (by simp))
    | _ => exact absurd (show false = true from hs) Bool.false_ne_true
  | int i =>
    obtain ⟨t,rfl⟩ := rx
    cases y with
    | non => cases ry; exact PySem.EqNone.eq_int_none (fin_bl I q (by simp))
    | int j => obtain ⟨t',rfl⟩ := ry; exact eq_int (fin_bl I q dec_int)
    | str j => obtain ⟨t',rfl⟩ := ry; exact PySem.EqMixed.eq_int_str (fin_bl I q (by simp))
    | _ => exact absurd (show false = true from hs) Bool.false_ne_true
  | str i =>
    obtain ⟨t,rfl⟩ := rx
    cases y with
    | non => cases ry; exact PySem.EqNone.eq_str_none (fin_bl I q (by simp))
    | bl j => cases ry; exact PySem.EqMixed.eq_str_bool (fin_bl I q (by simp))
    | int j => obtain ⟨t',rfl⟩ := ry; exact PySem.EqMixed.eq_str_int (fin_bl I q (by simp))
    | str j => obtain ⟨t',rfl⟩ := ry; exact eq_str (fin_bl I q dec_str)
    | _ => exact absurd (show false = true from hs) Bool.false_ne_true
  | byt i =>
    obtain ⟨t,rfl⟩ := rx
    cases y with
    | byt j => obtain ⟨t',rfl⟩ := ry; exact PySem.W.eq_bytes (fin_bl I q dec_byt)
    | _ => exact absurd (show false = true from hs) Bool.false_ne_true
  | _ => cases y <;> exact absurd (show false = true from hs) Bool.false_ne_true
theorem op_ne : OpR X (compareOp .NotEq) rNe := by
  intro pins s σ H x y v u Q I rx ry h
  obtain ⟨hs,q⟩ := h
  cases x with
  | non =>
    cases rx
    cases y with
    | non => cases ry; exact PySem.EqNone.ne_none_none (fin_bl I q (by simp))
    | bl j => cases ry; exact PySem.EqNone.ne_none_bool (fin_bl I q (by simp))
    | int j => obtain ⟨t',rfl⟩ := ry; exact PySem.EqNone.ne_none_int (fin_bl I q (by simp))
    | str j => obtain ⟨t',rfl⟩ := ry; exact PySem.EqNone.ne_none_str (fin_bl I q (by simp))
    | _ => exact absurd (show false = true from hs) Bool.false_ne_true
  | bl i =>
    cases rx
    cases y with
    | non => cases ry; exact PySem.EqNone.ne_bool_none (fin_bl I q (by simp))
    | bl j => cases ry; exact ne_bool (fin_bl I q (congrArg not dec_bl))
    | str j => obtain ⟨t',rfl⟩ := ry; exact PySem.EqMixed.ne_bool_str (fin_bl I q (by simp))
    | _ => exact absurd (show false = true from hs) Bool.false_ne_true
  | int i =>
    obtain ⟨t,rfl⟩ := rx
    cases y with
    | non => cases ry; exact PySem.EqNone.ne_int_none (fin_bl I q (by simp))
    | int j => obtain ⟨t',rfl⟩ := ry; exact ne_int (fin_bl I q (congrArg not dec_int))
    | str j => obtain ⟨t',rfl⟩ := ry; exact PySem.EqMixed.ne_int_str (fin_bl I q (by simp))
    | _ => exact absurd (show false = true from hs) Bool.false_ne_true
  | str i =>
    obtain ⟨t,rfl⟩ := rx
    cases y with
    | non => cases ry; exact PySem.EqNone.ne_str_none (fin_bl I q (by simp))
    | bl j => cases ry; exact PySem.EqMixed.ne_str_bool (fin_bl I q (by simp))
    | int j => obtain ⟨t',rfl⟩ := ry; exact PySem.EqMixed.ne_str_int (fin_bl I q (by simp))
    | str j => obtain ⟨t',rfl⟩ := ry; exact ne_str (fin_bl I q (congrArg not dec_str))
    | _ => exact absurd (show false = true from hs) Bool.false_ne_true
  | byt i =>
    obtain ⟨t,rfl⟩ := rx
    cases y with
    | byt j => obtain ⟨t',rfl⟩ := ry; exact PySem.W.ne_bytes (fin_bl I q (congrArg not dec_byt))
    | _ => exact absurd (show false = true from hs) Bool.false_ne_true
  | _ => cases y <;> exact absurd (show false = true from hs) Bool.false_ne_true
theorem op_lt : OpR X (compareOp .Lt) (rI0 fun i j => .bl (decide (i < j))) := opB0 fun _ _ _ _ _ _ _ q => lt_int q
theorem op_le : OpR X (compareOp .LtE) (rI0 fun i j => .bl (decide (i ≤ j))) := opB0 fun _ _ _ _ _ _ _ q => le_int q
theorem op_gt : OpR X (compareOp .Gt) (rI0 fun i j => .bl (decide (j < i))) := opB0 fun _ _ _ _ _ _ _ q => gt_int q
theorem op_ge : OpR X (compareOp .GtE) (rI0 fun i j => .bl (decide (j ≤ i))) := opB0 fun _ _ _ _ _ _ _ q => ge_int q
theorem nomark (b : Expr) {op : CmpOp} (h : op ≠ .In := by decide) (h2 : op ≠ .NotIn := by decide) : behindInMarks op b = false := by
  have e1 : (op == CmpOp.In) = false := by cases op <;> first | rfl | exact absurd rfl h
  have e2 : (op == CmpOp.NotIn) = false := by cases op <;> first | rfl | exact absurd rfl h2
  cases b <;> simp [behindInMarks,e1,e2]
theorem pe_cmpR {op : CmpOp} {r : R2} (ho : OpR X (compareOp op) r) (ha : PE X a ta) (hb : PE X b tb) (hm : behindInMarks op b = false) : PE X (.Compare a [op] [b] pos) (tOp r ta tb) := by
  intro pins s σ H Q I h
  exact wpAny_Compare1 (binT ha hb I h fun v u s2 x y H2 I2 rx ry q => ho pins s2 σ H2 x y v u Q I2 rx ry q) hm
inductive isB (x : V) (H : Hp) (Q : Bool → Hp → Prop) : Prop
  | mk (k : Bool) (e : x = .bl k) (q : Q k H) : isB x H Q
def tTest (t : TE) : TT := fun σ H Q => t σ H fun x H' => isB x H' Q
theorem pt_cmpR {op : CmpOp} {r : R2} (ho : OpR X (compareOp op) r) (ha : PE X a ta) (hb : PE X b tb) (hm : behindInMarks op b = false) : PT X (.Compare a [op] [b] pos) (tTest (tOp r ta tb)) := by
  intro pins s σ H Q I h
  refine wpAny_isTrue_Compare1 (thn (ha pins s σ H _ I h) fun v s1 ⟨x,H1,I1,r1,q1⟩ => thn (hb pins s1 σ H1 _ I1 q1) fun u s2 ⟨y,H2,I2,r2,q2⟩ =>
    thn (ho pins s2 σ H2 x y v u _ I2 r1 r2 q2) fun c s3 ⟨z,H3,I3,r3,k,e,q3⟩ => ?_) hm
  subst e
  cases r3
  exact wpAny_truthy_bool ⟨H3,I3,q3⟩
theorem line63 : (sizeLine : Nat) < 2 ^ 63 := by rw [sizeLine_eq]; decide
theorem vals1 {x : V} {us : List Value} (r : Vals [x] us) : ∃ u,us = [u] ∧ RelV x u := by
  cases r with
  | cons r1 r2 => cases r2; exact ⟨_,rfl,r1⟩
theorem vals2 {x y : V} {us : List Value} (r : Vals [x,y] us) : ∃ u w',us = [u,w'] ∧ RelV x u ∧ RelV y w' := by
  cases r with
  | cons r1 r2 =>
    cases r2 with
    | cons r3 r4 => cases r4; exact ⟨_,_,rfl,r1,r3⟩
theorem call_abs : CallR X (.builtin "abs") (fun xs H Q => ∃ i,xs = [.int i] ∧ Q (.int (if i < 0 then -i else i)) H) := by
  intro pins s σ H xs us Q I r h
  obtain ⟨i,rfl,q⟩ := h
  obtain ⟨u,rfl,t,rfl⟩ := vals1 r
  exact call_abs_int fun u tk => ⟨.int (if i < 0 then -i else i),H,I.tok _,⟨_,rfl⟩,q⟩
theorem call_int1 : CallR X (.type "int") (fun xs H Q => (∃ i,xs = [.int i] ∧ Q (.int i) H) ∨ ∃ k,xs = [.bl k] ∧ Q (.int (if k then 1 else 0)) H) := by
  intro pins s σ H xs us Q I r h
  rcases h with ⟨i,rfl,q⟩ | ⟨k,rfl,q⟩
  · obtain ⟨u,rfl,t,rfl⟩ := vals1 r
    exact call_int_int ⟨.int i,H,I,⟨_,rfl⟩,q⟩
  · obtain ⟨u,rfl,r1⟩ := vals1 r
    cases r1
    exact call_int_bool ⟨.int (if k then 1 else 0),H,I.tok _,⟨_,rfl⟩,q⟩
end
end L2
namespace L2
open PySem PySem.Spec PyProof.Rows
structure ObjM (h : Heap) (x dx C : Addr) (mA : Str → Option Value) : Prop where
  obj : h.get? x = some (PySem.W.instObj C dx)
  ns : h.Ns1 dx mA
  ne : dx ≠ x
theorem lookIn_ns {h : Heap} {dx : Addr} {mA : Str → Option Value} (n : h.Ns1 dx mA) : ∃ od,h.get? dx = some od ∧ ∀ name,PySem.W.lookIn name od = some (mA name) := by
  obtain ⟨o,es,ep,ho,hd,hk,_,hm⟩ := n
  refine ⟨o,ho,fun name => ?_⟩
  have e := hm name
  unfold nsFind findBy at e
  rw [← Array.find?_toList] at e
  unfold PySem.W.lookIn
  rw [hd]
  dsimp only
  split
  · rename_i y q
    rw [q] at e
    exact congrArg some e
  · rename_i q
    rw [q] at e
    have a : es.toList.any (·.refKey) = false := by
      rw [List.any_eq_false]
      intro y hy
      obtain ⟨z,t,hkey⟩ := hk y (Array.mem_toList_iff.mp hy)
      simp [DictEntry.refKey,hkey]
    have a' : ¬ es.toList.any (·.refKey) = true := by rw [a]; exact Bool.false_ne_true
    rw [if_neg a']
    exact congrArg some e
theorem ObjM.look {h : Heap} {x dx C : Addr} {mA : Str → Option Value} (I : ObjM h x dx C mA) : ∃ od,PySem.W.InstAt h x (PySem.W.instObj C dx) C (some od) ∧ ∀ name,PySem.W.lookIn name od = some (mA name) :=
  let ⟨od,ho,hl⟩ := lookIn_ns I.ns
  ⟨od,⟨I.obj,rfl,rfl,ho⟩,hl⟩
section
variable {prog : Program} {w : World} {A : Around} {E : Value → Shared → Prop} {s : Shared} {K : PySem.W.Frag} {x dx C f : Addr} {mA : Str → Option Value} {name : Str} {v : Value}
end
section
variable {P : Program} {w : World} {H H' : Hp} {h h' : Heap} {a C dx : Addr} {fs fs' : List (Str × V)}
theorem ins_get (hok : HOk P w H h) (e : H a = some (.ins C dx fs)) : ∃ mA,ObjM h a dx C mA ∧ (∀ f,RelO (fs.lookup f) (mA f)) ∧ PySem.Within mA (fs.map (·.1)) ∧ fs.length ≤ 1000 ∧ H dx = some (.own a) := by
  obtain ⟨d,z,ne,ob,mA,n,r,q⟩ := (show ObjOk P w H h a (.ins C dx fs) from hok a _ e)
  exact ⟨mA,⟨ob,n,ne⟩,r,q,z,d⟩
end
structure Cls (K : PySem.W.Frag) (C : Addr) : Prop where
  pg : PySem.W.plainGet K C Str.empty = true
  hd : PySem.W.hasDictIn K C = true
  po : PySem.W.plainOver K C = true
  sa : PySem.W.findIn K (.ref C) "__setattr__" = some (some (.builtin "object.__setattr__"))
theorem Cls.get {K : PySem.W.Frag} {C : Addr} (c : Cls K C) (f : Str) : PySem.W.plainGet K C f = true := c.pg
section
variable {X : Cx} {pins : List (Addr × Obj)} {σ : St} {H : Hp} {s : Shared} {a C dx : Addr} {fs : List (Str × V)} {f : Str} {v : V} {A : Around} {E : Value → Shared → Prop}
end
section
variable {X : Cx} {o e value : Expr} {f : Str} {pos pos' tpos : Pos} {ta tv : TE}
end
section
variable {X : Cx} {pins : List (Addr × Obj)} {σ : St} {H : Hp} {s : Shared} {A : Around} {E : Value → Shared → Prop} {Q : Value → Shared → Prop} {c : Value} {b : Bool}
inductive TyOf (K : PySem.W.Frag) (H : Hp) : V → Value → Prop where
  | non : TyOf K H .non (.type "NoneType")
  | bl (x : Bool) : TyOf K H (.bl x) (.type "bool")
  | int (i : Int) : TyOf K H (.int i) (.type "int")
  | str (x : Str) : TyOf K H (.str x) (.type "str")
  | flt (x : UInt64) : TyOf K H (.flt x) (.type "float")
  | lst {a : Addr} {xs : List V} (e : H a = some (.lst xs)) : TyOf K H (.ref a) (.type "list")
  | frz {a : Addr} {o : Obj} {xs : List V} (e : H a = some (.frz o (.lst xs))) : TyOf K H (.ref a) (.type "list")
  | tup {a : Addr} {xs : List V} (e : H a = some (.tup xs)) : TyOf K H (.ref a) (.type "tuple")
  | dK {a : Addr} {kvs : List (Key × V)} (e : H a = some (.dK kvs)) : TyOf K H (.ref a) (.type "dict")
  | dT {a : Addr} {kvs : List (List Key × V)} (e : H a = some (.dT kvs)) : TyOf K H (.ref a) (.type "dict")
  | ins {a C dx : Addr} {fs : List (Str × V)} (e : H a = some (.ins C dx fs)) (cl : Cls K C) (ha : PySem.W.findIn K (.ref C) "__class__" = some (some (.builtin "object.__class__")))
      (hn : PySem.W.specialIn K (.builtin "object.__class__") "__get__" = some (some (.builtin "getset_descriptor.__get__"))) (htk : PySem.W.takesIn K (.builtin "object.__class__") = some true)
      (hm : PySem.W.mroIn K C (.type "object") = some true) : TyOf K H (.ref a) (.ref C)
theorem isinst_ok {x : V} {u t : Value} (I : Inv X pins σ H s) (rx : RelV x u) (ty : TyOf X.K H x t) (e : PySem.W.kitOne X.K t c = some b) (h : ∀ tk,Q (.bool b) { s with toks := tk }) :
    wpAny (model X.prog X.w) A (call (.builtin "isinstance") [u,c]) Q E s := by
  cases ty with
  | non => cases (show u = Value.none from rx); exact PySem.W.kia_one PySem.W.kitx_none I.kIn True.intro e (fun z => nomatch z) h
  | bl y => cases (show u = Value.bool y from rx); exact PySem.W.kia_one PySem.W.kitx_bool I.kIn True.intro e (fun z => nomatch z) h
  | int i => obtain ⟨t,q⟩ := (show ∃ t,u = Value.int i t from rx); cases q; exact PySem.W.kia_one PySem.W.kitx_int I.kIn True.intro e (fun z => nomatch z) h
  | str y => obtain ⟨t,q⟩ := (show ∃ t,u = Value.str y t from rx); cases q; exact PySem.W.kia_one PySem.W.kitx_str I.kIn True.intro e (fun z => nomatch z) h
  | flt y => obtain ⟨t,q⟩ := (show ∃ t,u = Value.float y t from rx); cases q; exact PySem.W.kia_one PySem.W.kitx_float I.kIn True.intro e (fun z => nomatch z) h
  | @lst a xs ea =>
    cases (show u = Value.ref a from rx)
    obtain ⟨_,_,n,_,h1⟩ := (show ObjOk X.prog X.w H s.heap a (.lst xs) from I.hok a _ ea)
    exact PySem.W.kia_one PySem.W.kitx_list I.kIn ⟨_,h1,rfl⟩ e (fun z => nomatch z) h
  | @frz a ob xs ea =>
    cases (show u = Value.ref a from rx)
    obtain ⟨_,_,_,n,_,h1⟩ := (show ObjOk X.prog X.w H s.heap a (.frz ob (.lst xs)) from I.hok a _ ea)
    exact PySem.W.kia_one PySem.W.kitx_list I.kIn ⟨_,h1,rfl⟩ e (fun z => nomatch z) h
  | @tup a xs ea =>
    cases (show u = Value.ref a from rx)
    obtain ⟨_,_,_,p⟩ := (show ObjOk X.prog X.w H s.heap a (.tup xs) from I.hok a _ ea)
    obtain ⟨o,h1,h2,_⟩ := p
    exact PySem.W.kia_one PySem.W.kitx_tuple I.kIn ⟨o,h1,h2⟩ e (fun z => nomatch z) h
  | @dK a kvs ea =>
    cases (show u = Value.ref a from rx)
    obtain ⟨_,_,vs,_,p⟩ := (show ObjOk X.prog X.w H s.heap a (.dK kvs) from I.hok a _ ea)
    obtain ⟨o,es,ep,h1,h2,_⟩ := p
    exact PySem.W.kia_one PySem.W.kitx_dict I.kIn ⟨o,h1,h2.1⟩ e (fun z => nomatch z) h
  | @dT a kvs ea =>
    cases (show u = Value.ref a from rx)
    obtain ⟨_,_,xs,_,o,es,ep,h1,h2,_⟩ := (show ObjOk X.prog X.w H s.heap a (.dT kvs) from I.hok a _ ea)
    exact PySem.W.kia_one PySem.W.kitx_dict I.kIn ⟨o,h1,h2.1⟩ e (fun z => nomatch z) h
  | @ins a C dx fs ea cl ha hn htk hm =>
    cases (show u = Value.ref a from rx)
    obtain ⟨mA,O,_⟩ := ins_get I.hok ea
    obtain ⟨od,J,_⟩ := O.look
    exact PySem.W.kia_one (PySem.W.kitx_own (cl.get _) cl.hd ha hn htk hm) I.kIn J e (fun z => nomatch z) h
end
end L2
namespace L2
open PySem PySem.Spec PyProof.Rows
structure Room (k : Nat) (A : Around) : Prop where
  hd : A.handled = none
  dp : A.depth + 3 * k + 5 < recursionLimit
  un : A.units + 16 * k + 200 < cLine
  gd : A.guards = some []
theorem Room.mono {j k : Nat} {A : Around} (r : Room k A) (h : j ≤ k) : Room j A := ⟨r.hd,by have := r.dp; omega,by have := r.un; omega,r.gd⟩
theorem Room.deeper {k : Nat} {A : Around} (r : Room (k + 1) A) (env : Env) : Room k (A.deeper env) :=
  ⟨r.hd,by have := r.dp; show A.depth + 1 + 3 * k + 5 < _; omega,by have := r.un; show A.units + 3 + 16 * k + 200 < _; omega,r.gd⟩
theorem Room.depth {k : Nat} {A : Around} (r : Room k A) : A.depth < recursionLimit := by have := r.dp; omega
def tNil : TA := fun _ H Q => Q [] H
def tCons (ta : TE) (tr : TA) : TA := fun σ H Q => ta σ H fun x H1 => tr σ H1 fun xs H2 => Q (x :: xs) H2
section
variable {X : Cx} {e : Expr} {es : List Expr} {te : TE} {t : TA} {pos : Pos}
theorem pa_nil : PA X [] tNil := fun _ _ _ _ H Q I h => Calls.spliced_nil ⟨[],H,I,.nil,h⟩
theorem pa_cons (ha : PE X e te) (hr : PA X es t) (hs : starEach (e :: es) X.env = (false,eval e X.env) :: starEach es X.env := by rfl) : PA X (e :: es) (tCons te t) := by
  intro pos pins s σ H Q I h
  rw [hs]
  show wpAny _ _ (spliced ((false,eval e X.env) :: backTo pos (starEach es X.env))) _ _ s
  refine Calls.spliced_cons (thn (ha pins s σ H _ I h) fun u s1 ⟨x,H1,I1,r1,q1⟩ => ?_)
  exact thn (hr pos pins s1 σ H1 _ I1 q1) fun us s2 ⟨xs,H2,I2,r2,q2⟩ => ⟨x :: xs,H2,I2,.cons r1 r2,q2⟩
def tTup (t : TA) : TE := fun σ H Q => t σ H fun xs H1 => xs.length ≤ sizeLine ∧ ∀ p,H1 p = none → Q (.ref p) (upd H1 p (.tup xs))
def tLst (t : TA) : TE := fun σ H Q => t σ H fun xs H1 => xs.length ≤ sizeLine ∧ ∀ p,H1 p = none → Q (.ref p) (upd H1 p (.lst xs))
theorem pe_tup {x1} (h : PA X es t) : PE X (.Tuple es x1 pos) (tTup t) := by
  intro pins s σ H Q I hq
  refine wpAny_Tuple_spliced (thn (h pos pins s σ H _ I hq) fun us s1 ⟨xs,H1,I1,r,z,q⟩ => ⟨by rw [← r.length]; exact z,?_⟩)
  have hf : H1 s1.heap.objs.size = none := I1.hok.fresh (Nat.le_refl _)
  refine ⟨.ref s1.heap.objs.size,upd H1 s1.heap.objs.size (.tup xs),I1.laid (t' := s1.toks) (fun b u e => Heap.get?_push_of_some _ e) (Nat.le_refl _) ?_,rfl,q _ hf⟩
  exact ⟨z,us,r,⟨_,Heap.get?_push_size _ rfl,rfl,_,rfl⟩⟩
theorem pe_lst (h : PA X es t) : PE X (.List es pos) (tLst t) := by
  intro pins s σ H Q I hq
  refine wpAny_List_spliced (thn (h pos pins s σ H _ I hq) fun us s1 ⟨xs,H1,I1,r,z,q⟩ => ⟨by rw [← r.length]; exact z,?_⟩)
  have hf : H1 s1.heap.objs.size = none := I1.hok.fresh (Nat.le_refl _)
  refine ⟨.ref s1.heap.objs.size,upd H1 s1.heap.objs.size (.lst xs),I1.laid (t' := s1.toks) (fun b u e => Heap.get?_push_of_some _ e) (Nat.le_refl _) ?_,rfl,q _ hf⟩
  exact ⟨z,us,0,r,Heap.get?_push_size _ rfl⟩
end
abbrev Sp := List V → Hp → VK → XK → Prop
abbrev CXT := List Env → Hp → Shared → XK → Value → Shared → Prop
structure Env0 (P : Program) (w : World) (K : PySem.W.Frag) (mg : Str → Option Value) (base : Heap) (A : Around) (outer : List Env) (s : Shared) (H : Hp) : Prop where
  frames : A.frames = some outer
  mod : Mod K mg base
  bs : ∀ b o,base.get? b = some o → s.heap.get? b = some o ∧ H b = none
  bsz : base.objs.size ≤ s.heap.objs.size
  funs : s.heap.FunFrames base outer
  frf : ∀ b ∈ frs outer,H b = none
  hok : HOk P w H s.heap
  bare : AllBare s.gens
def CE (outer : List Env) (P : Program) (w : World) (H : Hp) (s : Shared) (Q : VK) (u : Value) (s' : Shared) : Prop :=
  ∃ v H',s'.os = s.os ∧ AllBare s'.gens ∧ Un (frs outer) [] H H' s.heap s'.heap ∧ HOk P w H' s'.heap ∧ RelV v u ∧ Q v H'
def CR (CX : CXT) (outer : List Env) (P : Program) (w : World) (H : Hp) (s : Shared) (Q : VK) (E : XK) (r : Result) (s' : Shared) : Prop :=
  match r with
  | .ok (.ret u) => CE outer P w H s Q u s'
  | .ok _ => False
  | .error e => CX outer H s E e s'
structure FnOk (P : Program) (w : World) (K : PySem.W.Frag) (mg : Str → Option Value) (base : Heap) (CX : CXT) (k : Nat) (f : Addr) (fd : FuncData) (ps : List Str) (sp : Sp) : Prop where
  len : ∀ vs H Q E,sp vs H Q E → vs.length = ps.length
  run : ∀ (A : Around) (outer : List Env) (s : Shared) (H : Hp) (args : Args) (us : List Value) (vs : List V) (Q : VK) (E : XK),Room k A → Env0 P w K mg base A outer s H → BindsTo s fd args (ps.zip us) → Vals vs us → sp vs H Q E →
    codeAny (model P w) A (.call (.ref f) args) (CR CX outer P w H s Q E) s
section
variable {X : Cx} {pins : List (Addr × Obj)} {σ : St} {H : Hp} {s s' : Shared}
theorem Inv.env0 (I : Inv X pins σ H s) : Env0 X.prog X.w X.K X.mg X.base X.A X.stack s H :=
  ⟨I.ok.frames,I.ok.mod,I.bs,Nat.le_trans I.ok.bsz I.sz,I.stack,I.stkFree,I.hok,I.bare⟩
theorem Inv.after {Q : VK} {u : Value} (I : Inv X pins σ H s) (h : CE X.stack X.prog X.w H s Q u s') : EP X pins σ Q u s' := by
  obtain ⟨v,H',os,bare,un,hok,r,q⟩ := h
  obtain ⟨hh,g,d,t,os'⟩ := s'
  obtain rfl : os' = s.os := os
  exact ⟨v,H',I.call (h' := hh) (g' := g) (d' := d) (t' := t) (ch := []) un hok bare (fun b z => absurd z (by simp)),r,q⟩
end
def tCall (sp : Sp) (dvs : List V) (E : XK) (t : TA) : TE := fun σ H Q => t σ H fun vs H1 => sp (vs ++ dvs) H1 Q E
def Binds (K : PySem.W.Frag) (fd : FuncData) (ps : List Str) (ds : List Value) : Prop :=
  ∀ (s : Shared) (us : List Value),K.In s.heap → (us ++ ds).length = ps.length → BindsTo s fd ⟨us,[]⟩ (ps.zip (us ++ ds))
theorem Binds.all {K : PySem.W.Frag} {fd : FuncData} {ps : List Str} (h : ∀ us : List Value,us.length = ps.length → bindArgs fd ⟨us,[]⟩ = pure (ps.zip us)) : Binds K fd ps [] := fun s us _ hl => by
  rw [List.append_nil] at hl ⊢
  exact .of_eq (h us hl)
def Passes (CX : CXT) (X : Cx) (E : XK) : Prop := ∀ (pins : List (Addr × Obj)) (σ : St) (H : Hp) (s : Shared) (e : Value) (s' : Shared),Inv X pins σ H s → CX X.stack H s E e s' → X.xe e s'
section
variable {X : Cx} {CX : CXT} {k : Nat} {f C : Addr} {fd : FuncData} {ps : List Str} {sp : Sp} {dvs : List V} {ds : List Value} {E : XK} {x m : Str} {p pos apos : Pos} {e o : Expr} {es : List Expr} {ta : TE} {t : TA}
theorem run_fn {pins : List (Addr × Obj)} {σ : St} {H : Hp} {s : Shared} {Q : VK} {us : List Value} {vs : List V} (F : FnOk X.prog X.w X.K X.mg X.base CX k f fd ps sp) (hr : Room k X.A) (hb : Binds X.K fd ps ds) (hd : Vals dvs ds) (hx : Passes CX X E)
    (I : Inv X pins σ H s) (r : Vals vs us) (h : sp (vs ++ dvs) H Q E) : wpAny (model X.prog X.w) X.A (call (.ref f) us) (EP X pins σ Q) X.xe s := by
  have r2 : Vals (vs ++ dvs) (us ++ ds) := r.append hd
  have hl : (us ++ ds).length = ps.length := by rw [← r2.length]; exact F.len _ _ _ _ h
  refine wpAny_call (codeAny_mono (F.run X.A X.stack s H ⟨us,[]⟩ (us ++ ds) (vs ++ dvs) Q E hr I.env0 (hb s us I.kIn hl) r2 h) fun r s' hq => ?_)
  cases r with
  | error e => exact hx pins σ H s e s' I hq
  | ok fl =>
    cases fl with
    | ret u => exact I.after hq
    | next => exact False.elim hq
    | brk => exact False.elim hq
    | cont => exact False.elim hq
theorem pe_call (F : FnOk X.prog X.w X.K X.mg X.base CX k f fd ps sp) (hr : Room k X.A) (hg : Gl X x) (hm : X.mg x = some (.ref f)) (hk : PySem.W.keepIn X.K (.ref f) = true) (hb : Binds X.K fd ps ds) (hd : Vals dvs ds) (hx : Passes CX X E)
    (ha : PA X (e :: es) t) (hdb : (x == ("__debug__" : Str)) = false := by decide) (he : starEach (e :: es) X.env = (false,eval e X.env) :: starEach es X.env := by rfl) (hpl : (backTo pos (starEach es X.env)).any (·.1) = false := by rfl) :
    PE X (.Call (.Name x p) (e :: es) [] pos) (tCall sp dvs E t) := by
  intro pins s σ H Q I h
  refine wpAny_Call_Name_kw (ld_glob I hg hm ?_ hdb)
  refine PySem.W.callWith_K (h₀ := X.base) I.ok.mod.kin hk (thn (ha pos pins s σ H _ I h) fun us s1 ⟨vs,H1,I1,r,q⟩ => ⟨I1.kIn,?_⟩) he hpl
  exact run_fn F hr hb hd hx I1 r q
end
section
variable {X : Cx} {CX : CXT} {k : Nat} {f C : Addr} {fd : FuncData} {ps ks : List Str} {sp : Sp} {E : XK} {x m : Str} {p pos apos kpos : Pos} {e o : Expr} {es : List Expr} {kws : List Keyword} {te ta : TE} {t tk : TA} {nm : Option Str}
variable {g : List Value → List Value → List Value} {gV : List V → List V → List V}
end
structure FnScope (N P : List Str) (sc : Scope) : Prop where
  kind : sc.kind = .function
  co : sc.isCoroutine = false
  gen : sc.isGenerator = false
  nd : N.Nodup
  pre : N.take P.length = P
  par : ∀ x ∈ P,sc.names.lookup x = some .local ∨ sc.names.lookup x = some .cell
  nofree : ∀ y ∈ sc.names,y.2 ≠ .free
theorem bindL_out {kindOf : Str → Option NameKind} {x : Str} : ∀ {binds : List (Str × Value)} {m : Str → Option Value},(∀ v,(x,v) ∉ binds) → bindL kindOf binds m x = m x
  | [],_,_ => rfl
  | (n,v) :: r,m,h => by
    unfold bindL
    rw [bindL_out fun w hw => h w (List.mem_cons_of_mem _ hw)]
    split
    · have : x ≠ n := by rintro rfl; exact h v List.mem_cons_self
      simp [this]
    · rfl
theorem bindC_out {kindOf : Str → Option NameKind} {x : Str} : ∀ {binds : List (Str × Value)} {m : Str → Option Value},(∀ v,(x,v) ∉ binds) → bindC kindOf binds m x = m x
  | [],_,_ => rfl
  | (n,v) :: r,m,h => by
    unfold bindC
    rw [bindC_out fun w hw => h w (List.mem_cons_of_mem _ hw)]
    split
    · rfl
    · have : x ≠ n := by rintro rfl; exact h v List.mem_cons_self
      simp [this]
theorem bindL_get {kindOf : Str → Option NameKind} {x : Str} {v : Value} : ∀ {P : List Str} {vs : List Value} {i : Nat} {m : Str → Option Value},P.Nodup → P[i]? = some x → vs[i]? = some v → kindOf x = some .local →
    bindL kindOf (P.zip vs) m x = some v
  | [],_,_,_,_,h,_,_ => by simp at h
  | _ :: _,[],_,_,_,_,h,_ => by simp at h
  | p :: P,w :: vs,0,m,nd,h1,h2,hk => by
    simp at h1 h2; subst h1; subst h2
    show bindL kindOf ((p,w) :: P.zip vs) m p = _
    unfold bindL
    rw [bindL_out fun v hv => (List.nodup_cons.mp nd).1 (List.of_mem_zip hv).1,if_pos hk]
    simp
  | p :: P,w :: vs,i + 1,m,nd,h1,h2,hk => by
    show bindL kindOf ((p,w) :: P.zip vs) m x = _
    unfold bindL
    exact bindL_get (i := i) (List.nodup_cons.mp nd).2 (by simpa using h1) (by simpa using h2) hk
theorem bindC_get {kindOf : Str → Option NameKind} {x : Str} {v : Value} : ∀ {P : List Str} {vs : List Value} {i : Nat} {m : Str → Option Value},P.Nodup → P[i]? = some x → vs[i]? = some v → kindOf x ≠ some .local →
    bindC kindOf (P.zip vs) m x = some v
  | [],_,_,_,_,h,_,_ => by simp at h
  | _ :: _,[],_,_,_,_,h,_ => by simp at h
  | p :: P,w :: vs,0,m,nd,h1,h2,hk => by
    simp at h1 h2; subst h1; subst h2
    show bindC kindOf ((p,w) :: P.zip vs) m p = _
    unfold bindC
    rw [bindC_out fun v hv => (List.nodup_cons.mp nd).1 (List.of_mem_zip hv).1,if_neg hk]
    simp
  | p :: P,w :: vs,i + 1,m,nd,h1,h2,hk => by
    show bindC kindOf ((p,w) :: P.zip vs) m x = _
    unfold bindC
    exact bindC_get (i := i) (List.nodup_cons.mp nd).2 (by simpa using h1) (by simpa using h2) hk
def start (N : List Str) (vs : List V) : St := vs.map some ++ List.replicate (N.length - vs.length) none
def cxOf (CX : CXT) (P : Program) (w : World) (K : PySem.W.Frag) (mg : Str → Option Value) (base : Heap) (N : List Str) (qual : Str) (scope : Scope) (f : Addr) (cd : Value) (A : Around) (outer : List Env) (s : Shared) (H : Hp) (E : XK) : Cx where
  prog := P
  w := w
  K := K
  mg := mg
  base := base
  A := A.deeper (envOfC qual scope s.heap.objs.size f cd)
  N := N
  s₀ := s
  H₀ := H
  env := envOfC qual scope s.heap.objs.size f cd
  outer := outer
  stack := envOfC qual scope s.heap.objs.size f cd :: outer
  ex := []
  calm := true
  fn := fun _ => true
  pn := []
  xe := fun e s' => wpAny (model P w) (A.deeper (envOfC qual scope s.heap.objs.size f cd)) (leaving (envOfC qual scope s.heap.objs.size f cd) e) (fun _ s'' => CX outer H s E e s'') (fun e' s'' => CX outer H s E e' s'') s'
theorem cell_has {sc : Scope} {n : Nat} {x : Str} (h : sc.names.lookup x = some .cell) : ∃ c,(cellsFrom n sc.names []).lookup x = some c := by
  have q := PySem.W.cellsFrom_some sc.names n [] (.inl h)
  exact Option.isSome_iff_exists.mp q
theorem inv_start {CX : CXT} {P : Program} {w : World} {K : PySem.W.Frag} {mg : Str → Option Value} {base : Heap} {N ps : List Str} {qual : Str} {scope : Scope} {f : Addr} {cd : Value} {A : Around} {outer : List Env} {s s1 : Shared} {H : Hp} {E : XK} {us : List Value} {vs : List V}
    (S : FnScope N ps scope) (hd : A.handled = none) (e0 : Env0 P w K mg base A outer s H) (hl : vs.length = ps.length) (r : Vals vs us)
    (x : InCallC s s.heap.objs.size (bindL (envOfC qual scope s.heap.objs.size f cd).kindOf (ps.zip us) fun _ => none) (cellsFrom (s.heap.objs.size + 1) scope.names []) (bindC (envOfC qual scope s.heap.objs.size f cd).kindOf (ps.zip us) fun _ => none) s1) :
    Inv (cxOf CX P w K mg base N qual scope f cd A outer s H E) [] (start N vs) H s1 := by
  have hpl : ps.length ≤ N.length := by have := congrArg List.length S.pre; rw [List.length_take] at this; omega
  obtain ⟨h1,tk,rfl,hk⟩ := x.done
  have noA : ∀ b : Addr,b ∉ (cxOf CX P w K mg base N qual scope f cd A outer s H E).ex := fun b z => absurd (show b ∈ ([] : List Addr) from z) (by simp)
  refine ⟨⟨e0.mod,S.kind,rfl,rfl,Nat.le_refl _,fun y z c h1 h2 => ?_,fun y hy => ?_,fun y c _ h => ?_,fun _ => hd,Around.frames_deeper e0.frames,.inr ⟨rfl,rfl⟩,fun b z => absurd z (noA b),e0.bs,e0.bsz,fun b _ _ => noA b,fun b z => absurd z (noA b),e0.funs,e0.frf⟩,
    rfl,e0.bare,Un.kept hk,⟨_,x.toInCall.ns,fun i y v h1 h2 h3 => ?_⟩,fun y c h => ⟨_,x.cell y c h⟩,e0.hok.fresh (Nat.le_refl _),fun y c h => ?_,fun p hp => absurd (show p ∈ ([] : List (Addr × Obj)) from hp) (by simp),e0.hok.kept hk,?_⟩
  · exact name_of_addr x.apart (PySem.mem_of_lookup h1) (PySem.mem_of_lookup h2)
  · have hy : scope.names.lookup y = some .cell ∨ scope.names.lookup y = some .free := hy
    rcases hy with hy | hy
    · exact cell_has hy
    · exact absurd rfl (S.nofree _ (PySem.mem_of_lookup hy))
  · exact Nat.le_of_lt (x.above y c (PySem.mem_of_lookup h))
  · have hi : i < vs.length := by
      unfold start at h2
      by_cases hi : i < vs.length
      · exact hi
      · rw [List.getElem?_append_right (by simpa using hi)] at h2
        rw [List.getElem?_replicate] at h2
        split at h2 <;> cases h2
    have ha : vs[i]? = some v := by
      unfold start at h2
      rw [List.getElem?_append_left (by simpa using hi),List.getElem?_map] at h2
      cases e : vs[i]? with
      | none => rw [e] at h2; cases h2
      | some a => rw [e] at h2; cases h2; rfl
    obtain ⟨u,hu,rv⟩ := r.get ha
    have hp : ps[i]? = some y := by
      rw [← S.pre,List.getElem?_take_of_lt (by omega)]; exact h1
    have ndP : ps.Nodup := by rw [← S.pre]; exact S.nd.sublist (List.take_sublist _ _)
    refine ⟨u,rv,?_⟩
    rcases S.par y (List.mem_of_getElem? hp) with k | k
    · exact .inl ⟨k,bindL_get ndP hp hu k⟩
    · obtain ⟨c,e⟩ := cell_has (n := s.heap.objs.size + 1) k
      refine .inr ⟨.inl k,c,e,?_⟩
      have q := x.cell y c e
      rw [bindC_get ndP hp hu (by show scope.names.lookup y ≠ _; rw [k]; decide)] at q
      exact q
  · exact e0.hok.fresh (Nat.le_of_lt (x.above y c (PySem.mem_of_lookup h)))
  · unfold start
    show _ = N.length
    rw [List.length_append,List.length_map,List.length_replicate]
    omega
theorem fn_of {CX : CXT} {P : Program} {w : World} {K : PySem.W.Frag} {mg : Str → Option Value} {base : Heap} {k : Nat} {f : Addr} {name qual : Str} {params : Arguments} {body : List Stmt} {scope : Scope} {dV kV doc pm cdv ct oc : Value} {an od : Option Addr}
    {osl : Array (Option Value)} {N ps : List Str} {sp : Sp} (lk : K.lookup f = some ⟨oc,od,.func (PySem.W.fnOf name qual params body scope dV kV doc pm an cdv ct),osl⟩) (hcd : PySem.W.codeIn K cdv qual = true) (S : FnScope N ps scope)
    (len : ∀ vs H Q E,sp vs H Q E → vs.length = ps.length)
    (hbody : ∀ (A : Around) (outer : List Env) (s : Shared) (H : Hp) (vs : List V) (Q : VK) (E : XK),Room k (A.deeper (envOfC qual scope s.heap.objs.size f cdv)) → sp vs H Q E →
      ∃ t,PSs (cxOf CX P w K mg base N qual scope f cdv A outer s H E) body t ∧ t { nx := fun _ H' => Q .non H',rt := Q } (start N vs) H) :
    FnOk P w K mg base CX (k + 1) f (PySem.W.fnOf name qual params body scope dV kV doc pm an cdv ct) ps sp := by
  refine ⟨len,fun A outer s H args us vs Q E hr e0 hb r hsp => ?_⟩
  have hl := len _ _ _ _ hsp
  have KX : K.In s.heap := e0.mod.kin.keeps fun b o e => (e0.bs b o e).1
  have lim : s.heap.NoLimit := e0.mod.nolimit.keeps fun b o e => (e0.bs b o e).1
  have hkind : ∀ y ∈ ps.zip us,scope.names.lookup y.1 = some .local ∨ (scope.names.lookup y.1 = some .cell ∧ ((cellsFrom (s.heap.objs.size + 1) scope.names []).lookup y.1).isSome = true) := fun ⟨n,v⟩ hy => by
    rcases S.par n (List.of_mem_zip hy).1 with q | q
    · exact .inl q
    · exact .inr ⟨q,PySem.W.cellsFrom_some _ _ _ (.inl q)⟩
  refine codeAny_call_function hr.depth (KX _ _ lk) rfl S.co S.gen rfl (PySem.W.codeRec_of KX hcd) (hb _ _ _ _ ?_)
  refine wpAny_newFunctionEnv_cells S.kind hkind fun env he s1 x => ?_
  subst he
  refine ⟨lim.keeps x.toInCall.keep,codeAny_func ?_⟩
  obtain ⟨t,ht,hq⟩ := hbody A outer s H vs Q E (hr.deeper _) hsp
  have I : Inv (cxOf CX P w K mg base N qual scope f cdv A outer s H E) [] (start N vs) H s1 := inv_start S hr.hd e0 hl r x
  refine wpAny_mono (ht [] s1 (start N vs) H _ I hq) (fun fl s' hs => ?_) fun e s' hs => hs
  have fin : ∀ {σ' : St} {H' : Hp} {v : V} {u : Value},Inv (cxOf CX P w K mg base N qual scope f cdv A outer s H E) [] σ' H' s' → RelV v u → Q v H' → CE outer P w H s Q u s' :=
    fun {σ' H' v u} J rv q => ⟨v,H',J.os,J.bare,J.base,J.hok,rv,q⟩
  cases fl with
  | ret u =>
    obtain ⟨v,σ',H',J,rv,q⟩ := hs
    exact fin J rv q
  | next =>
    obtain ⟨σ',H',J,q⟩ := hs
    exact fin (v := V.non) (u := Value.none) J rfl q
  | brk =>
    obtain ⟨_,_,_,q⟩ := hs
    exact False.elim q
  | cont =>
    obtain ⟨_,_,_,q⟩ := hs
    exact False.elim q
end L2
namespace L2
open PySem PySem.Spec PyProof.Rows
section
variable {X : Cx} {x : Str} {p pos : Pos} {e : Expr} {es : List Expr} {t : TA} {id T : String} {r : List V → Hp → VK → Prop}
def tCB (r : List V → Hp → VK → Prop) (t : TA) : TE := fun σ H Q => t σ H fun vs H1 => r vs H1 Q
theorem pe_callB (hc : CallR X (.builtin id) r) (hg : Gl X x) (hm : X.mg x = none) (hv : bootBuiltins x = some (.builtin id)) (ha : PA X (e :: es) t) (hn : x ≠ "__name__" := by decide) (hdb : (x == ("__debug__" : Str)) = false := by decide)
    (he : starEach (e :: es) X.env = (false,eval e X.env) :: starEach es X.env := by rfl) (hpl : (backTo pos (starEach es X.env)).any (·.1) = false := by rfl) : PE X (.Call (.Name x p) (e :: es) [] pos) (tCB r t) := by
  intro pins s σ H Q I h
  refine wpAny_Call_Name_kw (ld_blt I hg hm hv ?_ hn hdb)
  exact PyProof.Rows.callWith_builtin1 (thn (ha pos pins s σ H _ I h) fun us s1 ⟨vs,H1,I1,r1,q1⟩ => hc pins s1 σ H1 vs us Q I1 r1 q1) he hpl
theorem pe_callTy (hc : CallR X (.type T) r) (hg : Gl X x) (hm : X.mg x = none) (hv : bootBuiltins x = some (.type T)) (ha : PA X (e :: es) t) (hn : x ≠ "__name__" := by decide) (hdb : (x == ("__debug__" : Str)) = false := by decide)
    (he : starEach (e :: es) X.env = (false,eval e X.env) :: starEach es X.env := by rfl) (hpl : (backTo pos (starEach es X.env)).any (·.1) = false := by rfl) : PE X (.Call (.Name x p) (e :: es) [] pos) (tCB r t) := by
  intro pins s σ H Q I h
  refine wpAny_Call_Name_kw (ld_blt I hg hm hv ?_ hn hdb)
  exact PyProof.Rows.callWith_type1 (thn (ha pos pins s σ H _ I h) fun us s1 ⟨vs,H1,I1,r1,q1⟩ => hc pins s1 σ H1 vs us Q I1 r1 q1) he hpl
end
end L2
namespace HT
open PySem PyProof.Rows
section
open PySem.SeqAt
open PySem.AutoSeq1 (wpAny_loadPart')
open PySem.MeetsSeq PySem.MeetsSeq2 PySem.MeetsSeq3
end
section
variable {prog : Program} {w : World} {A : Around} {E : Value → Shared → Prop} {s : Shared}
def sIx (n d : Nat) : Option Int → Nat
  | none => d
  | some v => if v < 0 then (v + (n : Int)).toNat else min v.toNat n
theorem sIx_none (n d : Nat) : sIx n d none = d := rfl
theorem sIx_nat (n d k : Nat) : sIx n d (some (k : Int)) = min k n := by
  show (if (k : Int) < 0 then ((k : Int) + (n : Int)).toNat else min (k : Int).toNat n) = min k n
  rw [if_neg (by omega),Int.toNat_natCast]
end
end HT
namespace L2
open PySem PySem.Spec PyProof.Rows
abbrev TO := St → Hp → (Option Int → Hp → Prop) → Prop
def PO (X : Cx) (e : Option Expr) (t : TO) : Prop :=
  ∀ (pins : List (Addr × Obj)) (s : Shared) (σ : St) (H : Hp) (Q : Option Int → Hp → Prop),Inv X pins σ H s → t σ H Q →
    wpAny (model X.prog X.w) X.A (evalPart e X.env) (fun u s' => ∃ o H',Inv X pins σ H' s' ∧ IsPart u o ∧ Q o H') X.xe s
def tNoPart : TO := fun _ H Q => Q none H
def tPart (t : TE) : TO := fun σ H Q => t σ H fun x H1 => ∃ i,x = .int i ∧ Q (some i) H1
section
variable {X : Cx} {e : Expr} {te : TE} {lo hi : Option Expr} {tl th : TO} {pos p2 : Pos}
theorem po_none : PO X none tNoPart := by
  intro pins s σ H Q I h
  rw [evalPart_none]
  exact wpAny_pure ⟨none,H,I,.none,h⟩
theorem po_some (h : PE X e te) : PO X (some e) (tPart te) := by
  intro pins s σ H Q I hw
  rw [evalPart_some]
  refine thn (h pins s σ H _ I hw) fun u s1 ⟨x,H1,I1,r1,q1⟩ => ?_
  obtain ⟨i,rfl,q⟩ := q1
  obtain ⟨t,rfl⟩ := r1
  exact ⟨some i,H1,I1,.int i t,q⟩
def SlR (X : Cx) (r : V → Option Int → Option Int → Hp → VK → Prop) : Prop :=
  ∀ (pins : List (Addr × Obj)) (s : Shared) (σ : St) (H : Hp) (x : V) (v vl vu : Value) (lo hi : Option Int) (sl : Addr) (Q : VK),Inv X pins σ H s → RelV x v → s.heap.IsSliceOf sl vl vu .none → IsPart vl lo → IsPart vu hi → r x lo hi H Q →
    ∃ T id,typeLookup (.type T) "__getitem__" = pure (some (.builtin id)) ∧ s.TypeIs v T ∧ wpAny (model X.prog X.w) X.A (getItem v (.ref sl)) (EP X pins σ Q) X.xe s
def tSl (r : V → Option Int → Option Int → Hp → VK → Prop) (te : TE) (tl th : TO) : TE := fun σ H Q => te σ H fun x H1 => tl σ H1 fun l H2 => th σ H2 fun u H3 => r x l u H3 Q
theorem pe_slice {r : V → Option Int → Option Int → Hp → VK → Prop} (hr : SlR X r) (he : PE X e te) (hl : PO X lo tl) (hu : PO X hi th) : PE X (.Subscript e (.Slice lo hi none p2) pos) (tSl r te tl th) := by
  intro pins s σ H Q I h
  refine Subscript_ (thn (he pins s σ H _ I h) fun v s1 ⟨x,H1,I1,r1,q1⟩ => ?_)
  refine wpAny_Slice (thn (hl pins s1 σ H1 _ I1 q1) fun vl s2 ⟨l,H2,I2,pl,q2⟩ => thn (hu pins s2 σ H2 _ I2 q2) fun vu s3 ⟨u,H3,I3,pu,q3⟩ => ?_)
  rw [evalPart_none]
  refine wpAny_pure ?_
  have I4 : Inv X pins σ H3 { s3 with heap := s3.heap.push { cls := .type "slice",data := .fields #[vl,vu,.none] } } := I3.kept (t' := s3.toks) fun b ob q => Heap.get?_push_of_some _ q
  obtain ⟨T,id,hT,ht,hg⟩ := hr pins { s3 with heap := s3.heap.push { cls := .type "slice",data := .fields #[vl,vu,.none] } } σ H3 x v vl vu l u s3.heap.objs.size Q I4 r1 (Heap.IsSliceOf.new ..) pl pu q3
  show wpAny (model X.prog X.w) X.A (subscriptTail e (.Slice lo hi none p2) v (.ref s3.heap.objs.size)) (EP X pins σ Q) X.xe { s3 with heap := s3.heap.push { cls := .type "slice",data := .fields #[vl,vu,.none] } }
  exact tail_any (ops := [.ref s3.heap.objs.size,v]) ht hT hg (by with_unfolding_all rfl)
def cutV (xs : List V) (lo hi : Option Int) : List V := (xs.drop (HT.sIx xs.length 0 lo)).take (HT.sIx xs.length xs.length hi - HT.sIx xs.length 0 lo)
theorem cutV_length (xs : List V) (lo hi : Option Int) : (cutV xs lo hi).length ≤ xs.length := by
  unfold cutV
  rw [List.length_take,List.length_drop]
  omega
end
end L2
namespace L2
open PySem PySem.Spec PyProof.Rows
def ixN (n : Nat) (i : Int) : Option Nat := if 0 ≤ i then (if i < n then some i.toNat else none) else if -(n : Int) ≤ i then some (i + n).toNat else none
def atI {α : Type} (xs : List α) (i : Int) : Option α := (ixN xs.length i).bind fun j => xs[j]?
theorem ixN_seq {n : Nat} {i : Int} {j : Nat} (h : ixN n i = some j) : seqIndex? i n = some j ∧ j < n ∧ -(n : Int) ≤ i ∧ i < n := by
  unfold ixN at h
  by_cases h0 : 0 ≤ i
  · rw [if_pos h0] at h
    by_cases h1 : i < n
    · rw [if_pos h1] at h
      have e : i.toNat = j := Option.some.inj h
      exact ⟨by rw [seqIndex_of h0 h1,e],by omega,by omega,h1⟩
    · rw [if_neg h1] at h; cases h
  · rw [if_neg h0] at h
    by_cases h1 : -(n : Int) ≤ i
    · rw [if_pos h1] at h
      have e : (i + n).toNat = j := Option.some.inj h
      exact ⟨by rw [seqIndex_neg (by omega) h1,e],by omega,h1,by omega⟩
    · rw [if_neg h1] at h; cases h
theorem atI_get {α : Type} {xs : List α} {i : Int} {v : α} (h : atI xs i = some v) : ∃ j,seqIndex? i xs.length = some j ∧ xs[j]? = some v ∧ j < xs.length ∧ -(xs.length : Int) ≤ i ∧ i < xs.length := by
  unfold atI at h
  cases e : ixN xs.length i with
  | none => rw [e] at h; cases h
  | some j =>
    rw [e] at h
    obtain ⟨h1,h2,h3,h4⟩ := ixN_seq e
    exact ⟨j,h1,h,h2,h3,h4⟩
theorem atI_nat {α : Type} {xs : List α} {j : Nat} {v : α} (h : xs[j]? = some v) : atI xs (j : Int) = some v := by
  have hj : j < xs.length := (List.getElem?_eq_some_iff.mp h).1
  have e : ixN xs.length (j : Int) = some j := by
    unfold ixN
    rw [if_pos (by omega),if_pos (by omega)]; simp
  unfold atI; rw [e]; exact h
theorem atI_last {α : Type} (xs : List α) (v : α) : atI (xs ++ [v]) (-1) = some v := by
  have hl : (xs ++ [v]).length = xs.length + 1 := by simp
  have e : ixN (xs ++ [v]).length (-1) = some xs.length := by
    unfold ixN
    rw [hl,if_neg (by decide),if_pos (by omega)]
    congr 1
    omega
  unfold atI
  rw [e]
  show (xs ++ [v])[xs.length]? = some v
  simp
def PlainIx (b : Expr) : Prop := ∀ o i,subscripted b false o i = operate [o,i] (getItem o i)
def IxR (X : Cx) (r : R2) : Prop :=
  ∀ (value slice : Expr) (pins : List (Addr × Obj)) (s : Shared) (σ : St) (H : Hp) (x y : V) (v u : Value) (Q : VK),Inv X pins σ H s → RelV x v → RelV y u → r x y H Q →
    subscripted slice false v u = operate [v,u] (getItem v u) → wpAny (model X.prog X.w) X.A (subscriptTail value slice v u) (EP X pins σ Q) X.xe s
def MtR (X : Cx) (id : String) (r : V → List V → Hp → VK → Prop) : Prop :=
  ∀ (pins : List (Addr × Obj)) (s : Shared) (σ : St) (H : Hp) (x : V) (xs : List V) (v : Value) (us : List Value) (Q : VK),Inv X pins σ H s → RelV x v → Vals xs us → r x xs H Q →
    wpAny (model X.prog X.w) X.A (call (.builtin id) (v :: us)) (EP X pins σ Q) X.xe s
section
variable {X : Cx} {a b : Expr} {ta tb : TE} {pos : Pos}
theorem pe_ix {r : R2} (hr : IxR X r) (ha : PE X a ta) (hb : PE X b tb) (hs : PlainIx b) : PE X (.Subscript a b pos) (tOp r ta tb) := by
  intro pins s σ H Q I h
  exact Subscript_ (binT ha hb I h fun v u s2 x y H2 I2 rx ry q => hr a b pins s2 σ H2 x y v u Q I2 rx ry q (hs _ _))
inductive rIxL (K : PySem.W.Frag) (x y : V) (H : Hp) (Q : VK) : Prop
  | mk (p : Addr) (xs : List V) (i : Int) (v : V) (e : x = .ref p) (f : y = .int i) (s : SqL K H p xs) (a : atI xs i = some v) (q : Q v H) : rIxL K x y H Q
inductive rIxT (K : PySem.W.Frag) (x y : V) (H : Hp) (Q : VK) : Prop
  | mk (p : Addr) (xs : List V) (i : Int) (v : V) (e : x = .ref p) (f : y = .int i) (s : SqT K H p xs) (a : atI xs i = some v) (q : Q v H) : rIxT K x y H Q
theorem ix_list : IxR X (rIxL X.K) := by
  intro value slice pins s σ H x y v u Q I rx ry h hs
  obtain ⟨p,xs,i,z,rfl,rfl,hq,he,q⟩ := h
  cases rx
  obtain ⟨t,rfl⟩ := ry
  obtain ⟨its,r,pl,hz⟩ := I.list hq
  obtain ⟨j,h1,h2,h3,h4,h5⟩ := atI_get he
  obtain ⟨w,ew,rw'⟩ := r.get h2
  have hl := r.length
  have hn := line63
  have fin : EP X pins σ Q w s := ⟨z,H,I,rw',q⟩
  by_cases h0 : 0 ≤ i
  · have hj : i.toNat = j := by
      rw [seqIndex_of h0 h5] at h1
      exact Option.some.inj h1
    exact item_listR pl.isList h0 (by omega) (by rw [hj]; simpa using ew) fin hs
  · have hj : (i + (its.toArray.size : Int)).toNat = j := by
      rw [seqIndex_neg (by omega) h4] at h1
      rw [List.size_toArray,← hl]
      exact Option.some.inj h1
    exact subscriptTail_builtinR (x := w) pl.isList.typeIs slot_list_getitem.lookup
      (wpAny_getItem_list_neg (Q := fun r s' => r = w ∧ EP X pins σ Q r s') pl.isList (by omega) (by rw [List.size_toArray] <;> omega) (by omega) (by rw [hj]; simpa using ew) ⟨rfl,fin⟩) hs
theorem ix_tup : IxR X (rIxT X.K) := by
  intro value slice pins s σ H x y v u Q I rx ry h hs
  obtain ⟨p,xs,i,z,rfl,rfl,hq,he,q⟩ := h
  cases rx
  obtain ⟨t,rfl⟩ := ry
  obtain ⟨its,r,pl,hz⟩ := I.tuple hq
  obtain ⟨j,h1,h2,h3,h4,h5⟩ := atI_get he
  obtain ⟨w,ew,rw'⟩ := r.get h2
  have hl := r.length
  have hn := line63
  have fin : EP X pins σ Q w s := ⟨z,H,I,rw',q⟩
  exact subscriptTail_builtinR (x := w) pl.typeIs slot_tuple_getitem.lookup
    (getItem_tuple (j := j) (Q := fun r s' => r = w ∧ EP X pins σ Q r s') pl (by omega) (by omega) (by rw [List.size_toArray,← hl]; exact h1) (by simpa using ew) ⟨rfl,fin⟩) hs
theorem slice_bounds (lo hi : Option Int) (n : Nat) : (sliceBounds lo hi none n).1 = ((HT.sIx n 0 lo : Nat) : Int) ∧ (sliceBounds lo hi none n).2.1 = ((HT.sIx n n hi : Nat) : Int) ∧ (sliceBounds lo hi none n).2.2 = 1 := by
  refine ⟨?_,?_,rfl⟩
  · cases lo with
    | none => simp [sliceBounds,HT.sIx]
    | some i =>
      simp only [sliceBounds,HT.sIx,Option.getD_none,show (1 : Int) > 0 by decide,if_true]
      by_cases h : i < 0
      · simp only [h,if_true] <;> omega
      · simp only [h,if_false] <;> omega
  · cases hi with
    | none => simp [sliceBounds,HT.sIx]
    | some i =>
      simp only [sliceBounds,HT.sIx,Option.getD_none,show (1 : Int) > 0 by decide,if_true]
      by_cases h : i < 0
      · simp only [h,if_true] <;> omega
      · simp only [h,if_false] <;> omega
theorem slicePick_cut (its : List Value) (lo hi : Option Int) : slicePick its.toArray lo hi none = ((its.drop (HT.sIx its.length 0 lo)).take (HT.sIx its.length its.length hi - HT.sIx its.length 0 lo)).toArray := by
  obtain ⟨h1,h2,h3⟩ := slice_bounds lo hi its.toArray.size
  unfold slicePick
  rw [h1,h2,h3]
  simp only [sliceRange_one,pick_run,List.size_toArray] <;> rfl
def rSlL (K : PySem.W.Frag) : V → Option Int → Option Int → Hp → VK → Prop := fun x lo hi H Q => ∃ a xs,x = .ref a ∧ SqL K H a xs ∧ ∀ p,H p = none → Q (.ref p) (upd H p (.lst (cutV xs lo hi)))
theorem sl_list : SlR X (rSlL X.K) := by
  intro pins s σ H x v vl vu lo hi sl Q I rx hs pl pu h
  obtain ⟨a,xs,rfl,hx,q⟩ := h
  cases rx
  obtain ⟨its,r,ht,hz⟩ := I.list hx
  have hlen := r.length
  refine ⟨"list",_,slot_list_getitem.lookup,ht.isList.typeIs,?_⟩
  refine wpAny_getItem_list_slice ht.isList hs pl pu .none (by simp) ?_ (by rw [List.size_toArray] <;> omega)
  rw [slicePick_cut,← hlen]
  refine ⟨.ref s.heap.objs.size,_,I.laid (t' := s.toks) (o := .lst (cutV xs lo hi)) (fun b ob q => Heap.get?_push_of_some _ q) (Nat.le_refl _) ?_,rfl,q _ (I.hok.fresh (Nat.le_refl _))⟩
  exact ⟨Nat.le_trans (cutV_length xs lo hi) hz,_,0,(r.drop (HT.sIx xs.length 0 lo)).take (HT.sIx xs.length xs.length hi - HT.sIx xs.length 0 lo),Heap.get?_push_size _ rfl⟩
inductive rLenS (K : PySem.W.Frag) (xs : List V) (H : Hp) (Q : VK) : Prop
  | mk (p : Addr) (ys : List V) (e : xs = [.ref p]) (s : SqL K H p ys ∨ SqT K H p ys) (q : Q (.int ys.length) H) : rLenS K xs H Q
theorem call_len_seq : CallR X (.builtin "len") (rLenS X.K) := by
  intro pins s σ H xs us Q I r h
  obtain ⟨p,ys,rfl,hq,q⟩ := h
  obtain ⟨u,rfl,rx⟩ := vals1 r
  cases rx
  have hn := line63
  rcases hq with hq | hq
  · obtain ⟨its,r',pl,hz⟩ := I.list hq
    have hlen := r'.length
    exact Calls.call_len_list pl.isList (by simp only [List.size_toArray] <;> omega) ⟨.int ys.length,H,I.tok _,⟨s.toks + 1,by rw [List.size_toArray,hlen]⟩,q⟩
  · obtain ⟨its,r',pl,hz⟩ := I.tuple hq
    have hlen := r'.length
    exact len_tuple pl (by simp only [List.size_toArray] <;> omega) ⟨.int ys.length,H,I.tok _,⟨s.toks + 1,by rw [List.size_toArray,hlen]⟩,q⟩
def tyV (K : PySem.W.Frag) (T : String) (x : V) (H : Hp) : Prop := match x with
  | .str _ => T = "str"
  | .int _ => T = "int"
  | .ref p => (T = "list" ∧ ∃ xs,SqL K H p xs) ∨ (T = "tuple" ∧ ∃ o,K.lookup p = some o ∧ o.cls = .type "tuple" ∧ o.dict = none) ∨
      (T = "dict" ∧ ((∃ kvs,H p = some (.dK kvs)) ∨ ∃ kvs,H p = some (.dT kvs))) ∨ (T = "set" ∧ ∃ S n,H p = some (.set S n))
  | _ => False
theorem tyV_is {pins : List (Addr × Obj)} {σ : St} {H : Hp} {s : Shared} {T : String} {x : V} {v : Value} (I : Inv X pins σ H s) (r : RelV x v) (ty : tyV X.K T x H) :
    s.TypeIs v T ∧ ∀ a,v = .ref a → ∃ ob,s.heap.get? a = some ob ∧ ob.dict = none := by
  cases x with
  | str z =>
    obtain ⟨t,rfl⟩ := r
    cases (show T = "str" from ty)
    exact ⟨typeIs_str s z t,fun _ e => nomatch e⟩
  | int i =>
    obtain ⟨t,rfl⟩ := r
    cases (show T = "int" from ty)
    exact ⟨typeIs_int s i t,fun _ e => nomatch e⟩
  | ref p =>
    cases r
    rcases ty with ⟨rfl,xs,hq⟩ | ⟨rfl,o,hk,hc,hd⟩ | ⟨rfl,hk⟩ | ⟨rfl,S,n,hk⟩
    · obtain ⟨its,_,pl,_⟩ := I.list hq
      refine ⟨pl.isList.typeIs,fun a e => ?_⟩
      cases e
      obtain ⟨o,n,e,c,hd,_⟩ := pl
      exact ⟨o,e,hd⟩
    · refine ⟨⟨o,I.kIn p o hk,hc⟩,fun a e => ?_⟩
      cases e
      exact ⟨o,I.kIn _ o hk,hd⟩
    · have z : ∃ o,s.heap.get? p = some o ∧ o.ExactDict := by
        rcases hk with ⟨kvs,hk⟩ | ⟨kvs,hk⟩
        · obtain ⟨_,_,_,_,o,_,_,e,ex,_⟩ := I.hok p _ hk
          exact ⟨o,e,ex⟩
        · obtain ⟨_,_,_,_,o,_,_,e,ex,_⟩ := I.hok p _ hk
          exact ⟨o,e,ex⟩
      obtain ⟨o,e,ex⟩ := z
      refine ⟨⟨o,e,ex.1⟩,fun a e2 => ?_⟩
      cases e2
      exact ⟨o,e,ex.2.1⟩
    · obtain ⟨o,_,_,_,e,ex,_⟩ := I.hok p _ hk
      refine ⟨⟨o,e,ex.1⟩,fun a e2 => ?_⟩
      cases e2
      exact ⟨o,e,ex.2.1⟩
  | _ => exact False.elim ty
def tBM0 (K : PySem.W.Frag) (T : String) (r : V → List V → Hp → VK → Prop) (to : TE) : TE := fun σ H Q => to σ H fun x H1 => tyV K T x H1 ∧ r x [] H1 Q
def tBM (K : PySem.W.Frag) (T : String) (r : V → List V → Hp → VK → Prop) (to : TE) (t : TA) : TE := fun σ H Q => to σ H fun x H1 => tyV K T x H1 ∧ t σ H1 fun xs H2 => r x xs H2 Q
variable {o e : Expr} {es : List Expr} {to : TE} {t : TA} {name : Str} {apos cpos : Pos} {T id : String} {r : V → List V → Hp → VK → Prop}
theorem pe_bm0 (pa : PlainAttrs T) (slot : Slot T name id) (hty : typeOf (.builtin id) = pure (.type "method_descriptor")) (hm : MtR X id r) (ho : PE X o to)
    (hbase : attributeBase o name X.env (eval o X.env) = eval o X.env := by rfl) (hline : (apos.endLine == cpos.line) = true := by rfl) : PE X (.Call (.Attribute o name apos) [] [] cpos) (tBM0 X.K T r to) := by
  intro pins s σ H Q I h
  refine wpAny_Call_method0_late hbase hline (thn (ho pins s σ H _ I h) fun v s1 ⟨x,H1,I1,r1,ty,q1⟩ => ?_)
  obtain ⟨h1,h2⟩ := tyV_is I1 r1 ty
  exact ⟨T,id,pa,slot,hty,h1,h2,Calls.callWith_builtin rfl (PySem.evalArgs_none (hm pins s1 σ H1 x [] v [] Q I1 r1 .nil q1))⟩
theorem pe_bm (pa : PlainAttrs T) (slot : Slot T name id) (hty : typeOf (.builtin id) = pure (.type "method_descriptor")) (hm : MtR X id r) (ho : PE X o to) (ha : PA X (e :: es) t)
    (hbase : attributeBase o name X.env (eval o X.env) = eval o X.env := by rfl)
    (hfew : ((backTo cpos (starEach (e :: es) X.env)).all (fun x => !x.1) && (backToKw cpos (keywordEach [] X.env)).all (fun x => x.1.isSome)
      && decide ((e :: es).length + ([] : List Keyword).length + (if ([] : List Keyword).isEmpty then 0 else 1) < 30)) = true := by rfl)
    (hline : (apos.endLine == cpos.line) = true := by rfl) (hs : starEach (e :: es) X.env = (false,eval e X.env) :: starEach es X.env := by rfl) (hplain : (backTo cpos (starEach es X.env)).any (·.1) = false := by rfl) :
    PE X (.Call (.Attribute o name apos) (e :: es) [] cpos) (tBM X.K T r to t) := by
  intro pins s σ H Q I h
  refine wpAny_Call_method_late hbase hfew hline rfl (thn (ho pins s σ H _ I h) fun v s1 ⟨x,H1,I1,r1,ty,q1⟩ => ?_)
  obtain ⟨h1,h2⟩ := tyV_is I1 r1 ty
  refine ⟨T,id,pa,slot,hty,h1,h2,?_⟩
  have hA := ha cpos pins s1 σ H1 _ I1 q1
  rw [hs] at hA ⊢
  refine Calls.callWith_builtin (by show (false || (backTo cpos (starEach es X.env)).any (·.1)) = false; rw [hplain] <;> rfl) (Calls.evalArgs_plain ?_)
  exact thn hA fun us s2 ⟨vs,H2,I2,r2,q2⟩ => hm pins s2 σ H2 x vs v us Q I2 r1 r2 q2
end
end L2
namespace L2
open PySem PySem.Spec PyProof.Rows
def MtM (X : Cx) (id : String) (r : V → List V → Hp → VK → Prop) : Prop :=
  ∀ (pins : List (Addr × Obj)) (s : Shared) (σ : St) (H : Hp) (x : V) (xs : List V) (v : Value) (us : List Value) (Q : VK),Inv X pins σ H s → RelV x v → Vals xs us → r x xs H Q →
    wpAny (model X.prog X.w) X.A (call (.builtin id) (v :: us)) (EP X pins σ Q) X.xe s
theorem Vals.one : ∀ {x : V} {us : List Value},Vals [x] us → ∃ u,us = [u] ∧ RelV x u
  | _,_,.cons r .nil => ⟨_,rfl,r⟩
section
variable {X : Cx} {pins : List (Addr × Obj)} {σ : St} {H : Hp} {s : Shared} {l b : Addr} {xs ys zs : List V}
theorem Inv.lset {its its' : List Value} {n : Nat} {f : Array Value → Array Value} {t' : Nat} (I : Inv X pins σ H s) (hH : H l = some (.lst xs))
    (e : s.heap.get? l = some { cls := .type "list",data := .seq its.toArray n }) (hf : f its.toArray = its'.toArray) (hv : Vals ys its') (hz : ys.length ≤ sizeLine) :
    Inv X pins σ (upd H l (.lst ys)) { s with heap := s.heap.update l (Obj.mapSeq f),toks := t' } := by
  have q := PySem.IsL.update e f
  rw [hf] at q
  refine I.write (x := l) (e := l) (by rw [hH]; exact trivial) (.inl rfl) (fun b' u hb hu => (Heap.get?_update_other s.heap (Obj.mapSeq f) (Ne.symm hb)).trans hu) ⟨_,q⟩ ?_
  exact ⟨hz,its',_,hv,q⟩
theorem Inv.lnew {its : List Value} {t' : Nat} (I : Inv X pins σ H s) (hv : Vals ys its) (hz : ys.length ≤ sizeLine) :
    Inv X pins σ (upd H s.heap.objs.size (.lst ys)) { s with heap := s.heap.push { cls := .type "list",data := .seq its.toArray },toks := t' } :=
  I.laid (fun _ _ q => Heap.get?_push_of_some _ q) (Nat.le_refl _) ⟨hz,its,0,hv,Heap.get?_push_size _ rfl⟩
theorem Inv.fresh (I : Inv X pins σ H s) : H s.heap.objs.size = none := I.hok.fresh (Nat.le_refl _)
theorem Inv.lstM (I : Inv X pins σ H s) (hH : H l = some (.lst xs)) : xs.length ≤ sizeLine ∧ ∃ (its : List Value) (n : Nat),Vals xs its ∧ xs.length = its.length ∧ s.heap.get? l = some { cls := .type "list",data := .seq its.toArray n } := by
  obtain ⟨z,its,n,r,e⟩ := I.hok l _ hH
  exact ⟨z,its,n,r,r.length,e⟩
end
section
variable {X : Cx}
def rAppend : V → List V → Hp → VK → Prop := fun x vs H Q => ∃ l xs y,x = .ref l ∧ vs = [y] ∧ H l = some (.lst xs) ∧ xs.length < sizeLine ∧ Q .non (upd H l (.lst (xs ++ [y])))
theorem mt_append : MtM X "list.append" rAppend := by
  intro pins s σ H x vs v us Q I rx rv h
  obtain ⟨l,xs,y,rfl,rfl,hH,hz,q⟩ := h
  cases rx
  obtain ⟨u,rfl,ru⟩ := rv.one
  obtain ⟨z,its,n,r,hl,e⟩ := I.lstM hH
  refine call_meets F.slot_list_append ⟨_,e,rfl⟩ F.entry_list_append (F.args_list_append_2 _ _) (PySem.list_append l its.toArray n u (by rw [List.size_toArray]; omega)) ⟨e,?_⟩
  refine ⟨.non,_,I.lset (its' := its ++ [u]) hH e (by simp) (r.append (.cons ru .nil)) ?_,rfl,q⟩
  rw [List.length_append,List.length_singleton]
  omega
def rCat : R2 := fun x y H Q => ∃ l b xs zs,x = .ref l ∧ y = .ref b ∧ H l = some (.lst xs) ∧ H b = some (.lst zs) ∧ xs.length + zs.length ≤ sizeLine ∧ ∀ p,H p = none → Q (.ref p) (upd H p (.lst (xs ++ zs)))
theorem op_cat : OpR X (binaryOp .Add) rCat := by
  intro pins s σ H x y v u Q I rx ry h
  obtain ⟨l,b,xs,zs,rfl,rfl,hH,hB,hz,q⟩ := h
  cases rx
  cases ry
  obtain ⟨z,its,n,r,hl,e⟩ := I.lstM hH
  obtain ⟨z2,its2,n2,r2,hl2,e2⟩ := I.lstM hB
  refine PySem.P.add_list e e2 ?_ (by rw [List.size_toArray,List.size_toArray]; omega)
  have ea : its.toArray ++ its2.toArray = (its ++ its2).toArray := by simp
  rw [ea]
  exact ⟨.ref _,_,I.lnew (t' := s.toks) (r.append r2) (by rw [List.length_append]; omega),rfl,q _ I.fresh⟩
end
section
variable {prog : Program} {w : World} {A : Around} {E : Value → Shared → Prop} {s : Shared}
set_option maxRecDepth 100000 in
end
section
variable {X : Cx}
end
end L2
namespace Att
open PySem PySem.W PySem.Calls PyProof.Rows
theorem ints_of_wellAll {P : Params} {h : Heap} : ∀ (ns : List Int) (vs : List Value),WellAll P h vs (ns.map WData.int) → IntsAre vs ns := by
  intro ns
  induction ns with
  | nil =>
    intro vs w
    rw [List.map_nil] at w
    cases w
    exact .nil
  | cons n ns ih =>
    intro vs w
    rw [List.map_cons] at w
    cases w with
    | cons a b =>
      cases a
      exact .cons _ _ (ih _ b)
theorem script_of {l : OpenLaw} {n : Nat} (hn : l.most = some n) {P : Params} {h : Heap} {args : List WData} {vals : List Value}
    (hpre : l.row.toRowW.claim.pre args = true) (hwl : WellAll P h vals args) :
    ∃ a vs ns,vals = [Value.ref a] ∧ args = [WData.list (ns.map WData.int)] ∧ h.get? a = some { cls := .type "list",data := .seq vs.toArray } ∧ IntsAre vs ns ∧ ns.length ≤ n := by
  have hsh : WShape.hasAll [] args [.list .int] = true := (pre_splitW hpre).1
  have hc : l.pre.holds [] { args := args } = true := (pre_splitW hpre).2
  obtain ⟨d,r,rfl,h1,h2⟩ := hasAllW_cons hsh
  obtain rfl := hasAllW_nil h2
  obtain ⟨xs,rfl,h3⟩ := hasW_list h1
  obtain ⟨ns,rfl⟩ := items_int h3
  have hlen : ns.length ≤ n := by
    unfold OpenLaw.pre at hc
    have h4 : (WTm.not (.lt (.lit (.int (n : Int))) (.len (.arg 0)))).holds [] { args := [.list (ns.map .int)] } = true := by
      have h4 := (holds_andW hc).1
      rw [hn] at h4
      exact h4
    have h5 := condW_of h4 (w_not (w_lt w_lit (w_len_list (w_arg rfl))))
    rw [List.length_map] at h5
    refine Nat.le_of_not_lt fun q => ?_
    have q' : (n : Int) < ((ns.length : Nat) : Int) := by omega
    first
      | (rw [decide_eq_true q'] at h5; exact absurd h5 (by decide))
      | (simp at h5; omega)
  cases hwl with
  | cons w1 w2 =>
    cases w2
    cases w1 with
    | list ho hall => exact ⟨_,_,ns,rfl,rfl,ho,ints_of_wellAll ns _ hall,hlen⟩
theorem post_true (l : OpenLaw) (args : List WData) : l.row.toRowW.claim.post args (.bool true) args = true :=
  postW_of (r := l.row.toRowW) (X := (true == true))
    (show WShape.has [] (.bool true) .bool = true by first | rfl | decide | simp [WShape.has,WShape.arms,WShape.armsAll])
    (show (WTm.eq .res (.lit (.bool true))).value [] { args := args,res := some (.bool true),after := args } = some (.bool (true == true)) from w_eq_bool (w_res rfl) w_lit) rfl
theorem attach_call {l : OpenLaw} {n : Nat} {q : Program} {loose : List Str} {XP : (Str → Option Value) → Heap → Prop} {YP : World → Heap → Prop} {d : DefRec}
    (hn : l.most = some n) (hdf : d.params.defaults = [])
    (call : ∀ (w : World) (s₀ s₁ : Shared) (mg mb : Str → Option Value) (fa : Addr) (o : Obj) (pm cd doc : Value) (a : Addr) (vs : List Value) (ns : List Int),
      Ground q loose [] XP w s₀ mg mb s₁.heap → YP w s₁.heap →
      s₁.heap.get? fa = some o → o.data = .func (docDef d.name d.params d.body d.scope pm cd doc) → s₁.heap.CodeRec cd d.name → mg d.name = some (.ref fa) →
      s₁.heap.get? a = some { cls := .type "list",data := .seq vs.toArray } → IntsAre vs ns → ns.length ≤ n → s₁.gens = #[] →
      codeAny (model l.prog w) callerA (.call (.ref fa) ⟨[.ref a],[]⟩) (fun r s' => r = .ok (.ret (.bool true)) ∧ OldK s₁.heap s'.heap ∧ s'.os = s₁.os ∧ AllBare s'.gens) s₁) :
    WalkO q loose XP YP l.row.toRowW d [] (fun f vs => PySem.call f vs) := by
  intro w s₀ s₁ mg mb G Y fa o pm cd doc dV kV ho hd hcd hD hmg hg args vals as hpre hlay hrd hwl hlo
  obtain rfl : dV = .none := Dflts.none hD hdf
  obtain rfl : kV = .none := Dflts.noKw hD
  obtain ⟨a,vs,ns,rfl,rfl,hobj,hints,hlen⟩ := script_of hn hpre hwl
  refine enter_call (codeAny_mono (call w s₀ s₁ mg mb fa o pm cd doc a vs ns G Y ho (fd_plain hd) hcd hmg hobj hints hlen hg) fun r s' hq => ?_)
  obtain ⟨rfl,h2,h3,h4⟩ := hq
  exact ⟨.inl ⟨.bool true,.bool true,[],rfl,fun _ => rfl,.bool true,post_true l _,fun _ => ⟨List.Pairwise.nil,fun _ hm => (nomatch hm)⟩⟩,h2,h3,h4⟩
section
variable {prog : Program} {w : World} {A : Around} {E : Value → Shared → Prop} {s : Shared} {K : Frag}
end
end Att
namespace L2
open PySem PySem.Spec PyProof.Rows
theorem vals_ints : ∀ {vs : List Value} {ns : List Int},IntsAre vs ns → Vals (ns.map V.int) vs
  | _,_,.nil => .nil
  | _,_,.cons n t h => .cons ⟨t,rfl⟩ (vals_ints h)
def Only (H : Hp) : Prop := ∀ b,H b = none ∨ ∃ o xs,H b = some (.frz o (.lst xs))
theorem law_call {P : Program} {w : World} {K : PySem.W.Frag} {mg mb : Str → Option Value} {CX : CXT} {k : Nat} {fa a : Addr} {fd : FuncData} {x : Str} {sp : Sp} {s₁ : Shared} {vs : List Value} {ns : List Int}
    (KX : K.In s₁.heap) (hns : s₁.heap.Ns mainGlobals mg) (hb : s₁.heap.Ns builtinsNs mb) (hbb : ∀ x : Str,x ≠ "__name__" → mb x = bootBuiltins x) (hlim : s₁.heap.NoLimit) (hg : s₁.gens = #[])
    (ha : s₁.heap.get? a = some { cls := .type "list",data := .seq vs.toArray }) (hi : IntsAre vs ns) (hl : ns.length ≤ sizeLine) (hr : Room k callerA)
    (F : ∀ base : Heap,K.In base → base.Ns mainGlobals mg → FnOk P w K mg base CX k fa fd [x] sp) (hbind : ∀ (s : Shared) (u : Value),BindsTo s fd ⟨[u],[]⟩ [(x,u)])
    (hsp : ∀ H : Hp,Only H → SqL K H a (ns.map V.int) → sp [.ref a] H (fun v _ => v = .bl true) fun _ _ _ => False)
    (hCX : ∀ H e s',CX [] H s₁ (fun _ _ _ => False) e s' → False) :
    codeAny (model P w) callerA (.call (.ref fa) ⟨[.ref a],[]⟩) (fun r s' => r = .ok (.ret (.bool true)) ∧ OldK s₁.heap s'.heap ∧ s'.os = s₁.os ∧ AllBare s'.gens) s₁ := by
  have rv := vals_ints hi
  have lenV := hi.length
  have core : ∀ H : Hp,Only H → SqL K H a (ns.map V.int) → HOk P w H s₁.heap → (∀ b,H b ≠ none → b = a) → (H a ≠ none → K.lookup a = none) →
      codeAny (model P w) callerA (.call (.ref fa) ⟨[.ref a],[]⟩) (fun r s' => r = .ok (.ret (.bool true)) ∧ OldK s₁.heap s'.heap ∧ s'.os = s₁.os ∧ AllBare s'.gens) s₁ := by
    intro H hO hS hok hA hK
    have base_of : ∀ {b : Addr} {o : Obj},s₁.heap.get? b = some o → H b = none → (hidT s₁.heap H).get? b = some o := fun e n => hidT_get e n
    have noA : ∀ {b : Addr} {o : Obj} {es : Array DictEntry} {ep : Nat},s₁.heap.get? b = some o → o.data = .dict es ep → H b = none := fun {b o es ep} e d => by
      cases q : H b with
      | none => rfl
      | some u =>
        have e' : b = a := hA b (by rw [q]; simp)
        subst e'
        rw [ha] at e; cases e
        have d' : Data.seq vs.toArray _ = Data.dict es ep := d
        cases d'
    have nsK : ∀ {b : Addr} {m : Str → Option Value},s₁.heap.Ns b m → (hidT s₁.heap H).Ns b m := fun {b m} ⟨o,es,ep,e,d,r⟩ => ⟨o,es,ep,base_of e (noA e d),d,r⟩
    have hKb : K.In (hidT s₁.heap H) := fun b o e => base_of (KX b o e) (by
      cases q : H b with
      | none => rfl
      | some u =>
        have e' : b = a := hA b (by rw [q]; simp)
        subst e'
        rw [hK (by rw [q]; simp)] at e; cases e)
    have hM : Mod K mg (hidT s₁.heap H) := ⟨hKb,nsK hns,⟨mb,nsK hb,hbb⟩,let ⟨mc,h1,h2⟩ := hlim; ⟨mc,nsK h1,h2⟩⟩
    have e0 : Env0 P w K mg (hidT s₁.heap H) callerA [] s₁ H := ⟨rfl,hM,fun b o e => of_hidT e,Nat.le_of_eq (hidT_size _ _),trivial,fun b hb => absurd (show b ∈ ([] : List Addr) from hb) (by simp),hok,.of_eq hg⟩
    refine codeAny_mono ((F _ hKb (nsK hns)).run callerA [] s₁ H ⟨[.ref a],[]⟩ [.ref a] [.ref a] _ _ hr e0 (hbind s₁ (.ref a)) (.cons rfl .nil) (hsp H hO hS)) fun r s' h => ?_
    cases r with
    | error e => exact (hCX H e s' h).elim
    | ok fl =>
      cases fl with
      | next => exact False.elim h
      | brk => exact False.elim h
      | cont => exact False.elim h
      | ret u =>
        obtain ⟨v,H',os,bare,un,hok',r',q⟩ := h
        have q' : v = .bl true := q
        subst q'
        obtain rfl : u = Value.bool true := r'
        refine ⟨rfl,OldK.of_keep fun b o e => ?_,os,bare⟩
        cases q : H b with
        | none => exact un.keep b o e q (by intro z; exact absurd (show b ∈ ([] : List Addr) from z) (by simp)) (by simp)
        | some u =>
          rcases hO b with z | ⟨ob,xs,z⟩
          · rw [q] at z; cases z
          · have z2 := un.frzs b ob _ z
            obtain ⟨e1,_⟩ := hok b _ z
            obtain ⟨e2,_⟩ := hok' b _ z2
            rw [e] at e1; cases e1
            exact e2
  cases hk : K.lookup a with
  | some o =>
    have e := KX a o hk
    rw [ha] at e
    cases e
    refine core (fun _ => none) (fun _ => .inl rfl) (.inr ⟨_,vs.toArray,_,hk,rfl,rfl,rfl,by rw [List.size_toArray,lenV]; exact hl,by simpa using rv⟩) (fun b u z => by have z' : (none : Option HO) = some u := z; cases z') (fun b z => absurd rfl z) fun z => absurd rfl z
  | none =>
    refine core (fun b => if b = a then some (.frz { cls := .type "list",data := .seq vs.toArray } (.lst (ns.map V.int))) else none) (fun b => ?_) (.inl (.inr ⟨{ cls := .type "list",data := .seq vs.toArray },if_pos rfl⟩)) (fun b u z => ?_) (fun b z => ?_) fun _ => hk
    · by_cases hb : b = a
      · exact .inr ⟨_,_,if_pos hb⟩
      · exact .inl (if_neg hb)
    · by_cases hb : b = a
      · have z' := (if_pos hb).symm.trans z
        cases z'
        subst hb
        exact ⟨ha,by rw [List.length_map]; exact hl,vs,_,rv,ha⟩
      · have z' := (if_neg hb).symm.trans z
        cases z'
    · by_cases hb : b = a
      · exact hb
      · exact absurd (if_neg hb) z
end L2
namespace L2
open PySem PySem.Spec PyProof.Rows
theorem walk_of {l : PySem.W.OpenLaw} {n k : Nat} {q : Program} {loose : List Str} {XP : (Str → Option Value) → Heap → Prop} {YP : World → Heap → Prop} {d : DefRec} {K : Params → PySem.W.Frag} {CX : World → CXT} {sp : World → Sp} {x : Str}
    (hn : l.most = some n) (hn2 : n ≤ sizeLine) (hdf : d.params.defaults = []) (hr : Room k callerA)
    (hY : ∀ (w : World) (h : Heap),YP w h → (K w.params).In h)
    (F : ∀ (w : World) (mg : Str → Option Value) (fa : Addr) (h : Heap),(K w.params).In h → h.Ns mainGlobals mg → mg d.name = some (.ref fa) →
      ∃ fd : FuncData,(∀ (s : Shared) (u : Value),BindsTo s fd ⟨[u],[]⟩ [(x,u)]) ∧
        ∀ base : Heap,(K w.params).In base → base.Ns mainGlobals mg → FnOk l.prog w (K w.params) mg base (CX w) k fa fd [x] (sp w))
    (hsp : ∀ (w : World) (H : Hp) (a : Addr) (ns : List Int),ns.length ≤ n → Only H → SqL (K w.params) H a (ns.map V.int) → sp w [.ref a] H (fun v _ => v = .bl true) fun _ _ _ => False)
    (hCX : ∀ (w : World) (H : Hp) (s : Shared) (e : Value) (s' : Shared),CX w [] H s (fun _ _ _ => False) e s' → False) :
    PySem.W.WalkO q loose XP YP l.row.toRowW d [] (fun f vs => PySem.call f vs) := by
  refine Att.attach_call hn hdf fun w s₀ s₁ mg mb fa o pm cd doc a vs ns G Y ho hd hcd hmg hobj hints hlen hg => ?_
  have KX := hY w _ Y
  obtain ⟨fd,hb,hF⟩ := F w mg fa _ KX G.T.g hmg
  exact law_call KX G.T.g G.T.b G.T.builtins G.T.nolimit hg hobj hints (Nat.le_trans hlen hn2) hr hF hb (fun H hO hS => hsp w H a ns hlen hO hS) fun H e s' => hCX w H s₁ e s'
end L2
namespace L2
open PySem PySem.Spec PyProof.Rows
def defArgs (s : Stmt) : Arguments := match s with
  | .FunctionDef _ a _ _ _ _ _ _ _ _ => a
  | _ => { posonlyargs := [],args := [],vararg := none,kwonlyargs := [],kw_defaults := [],kwarg := none,defaults := [] }
def defBody (s : Stmt) : List Stmt := match s with
  | .FunctionDef _ _ b _ _ _ _ _ _ _ => b
  | _ => []
def defScope (s : Stmt) : Scope := match s with
  | .FunctionDef _ _ _ _ _ _ sc _ _ _ => sc
  | _ => { kind := .function,names := [],isGenerator := false,isCoroutine := false }
abbrev CX0 : CXT := fun _ _ _ _ _ _ => False
abbrev E0 : XK := fun _ _ _ => False
theorem pass0 {X : Cx} : Passes CX0 X E0 := fun _ _ _ _ _ _ _ h => h.elim
section
variable {P : Program} {w : World} {K : PySem.W.Frag} {mg : Str → Option Value} {base : Heap}
end
theorem small1000 {n : Nat} (h : n ≤ 1000) : n < sizeLine := Nat.lt_of_le_of_lt h (by decide)
section
variable {X : Cx}
theorem pv (i : Nat) {x : Str} {pos : Pos} (hN : X.N[i]? = some x := by rfl) (hv : Vis X.env.scope x := by first | exact Or.inl rfl | exact Or.inr (Or.inl rfl) | exact Or.inr (Or.inr rfl)) (hd : (x == ("__debug__" : Str)) = false := by decide)
    (hcd : (x == ("__classdict__" : Str)) = false := by decide) : PE X (.Name x pos) (tVar i) := pe_var hN hv hd hcd
end
theorem iteF {A B : Prop} (h : B) : if false = true then A else B := by
  rw [if_neg Bool.false_ne_true]
  exact h
theorem iteT {A B : Prop} (h : A) : if true = true then A else B := by
  rw [if_pos rfl]
  exact h
def Same (H H' : Hp) : Prop := ∀ b o,H b = some o → H' b = some o
theorem Same.refl (H : Hp) : Same H H := fun _ _ h => h
theorem Same.trans {H H1 H2 : Hp} (a : Same H H1) (b : Same H1 H2) : Same H H2 := fun c o h => b c o (a c o h)
theorem Same.seq {K : PySem.W.Frag} {H H' : Hp} {a : Addr} {xs : List V} (e : Same H H') (h : SqL K H a xs) : SqL K H' a xs := by
  rcases h with (h | ⟨o,h⟩) | h
  · exact .inl (.inl (e _ _ h))
  · exact .inl (.inr ⟨o,e _ _ h⟩)
  · exact .inr h
end L2
end
section
set_option Elab.async false
set_option linter.all false
set_option maxRecDepth 100000
set_option maxHeartbeats 4000000
namespace Mth
theorem gcd_step {a b : Int} (ha : 0 ≤ a) (hb : 0 < b) : Int.gcd b (a % b) = Int.gcd a b := by
  obtain ⟨m,rfl⟩ := Int.eq_ofNat_of_zero_le ha
  obtain ⟨n,rfl⟩ := Int.eq_ofNat_of_zero_le (Int.le_of_lt hb)
  rw [← Int.natCast_emod]
  show Nat.gcd (n : Int).natAbs ((m % n : Nat) : Int).natAbs = Nat.gcd (m : Int).natAbs (n : Int).natAbs
  simp only [Int.natAbs_natCast]
  rw [Nat.gcd_comm m n,Nat.gcd_comm n (m % n)]
  exact (Nat.gcd_rec n m).symm
theorem gcd_abs (a b : Int) : Int.gcd (if a < 0 then -a else a) b = Int.gcd a b := by
  split
  · exact Int.neg_gcd
  · rfl
theorem gcd_abs' (a b : Int) : Int.gcd a (if b < 0 then -b else b) = Int.gcd a b := by
  rw [Int.gcd_comm,gcd_abs,Int.gcd_comm]
theorem gcd_zero {a : Int} (ha : 0 ≤ a) : (Int.gcd a 0 : Int) = a := by
  rw [Int.gcd_zero]; omega
structure Low (t b : Int) : Prop where
  pos : 1 ≤ b
  one : Int.gcd t b = 1
theorem gcd_pos {a b : Int} (h : b ≠ 0) : 0 < (Int.gcd a b : Int) := by
  have := Int.gcd_pos_of_ne_zero_right a h
  omega
theorem div_eq (a b : Int) : a = a / (Int.gcd a b : Int) * (Int.gcd a b : Int) := (Int.ediv_mul_cancel (Int.gcd_dvd_left a b)).symm
theorem div_eq' (a b : Int) : b = b / (Int.gcd a b : Int) * (Int.gcd a b : Int) := (Int.ediv_mul_cancel (Int.gcd_dvd_right a b)).symm
theorem div_low {a b : Int} (hb : 0 < b) : Low (a / (Int.gcd a b : Int)) (b / (Int.gcd a b : Int)) := by
  have hg := gcd_pos (a := a) (b := b) (by omega)
  refine ⟨?_,?_⟩
  · have h1 := div_eq' a b
    have h2 : 0 < b / (Int.gcd a b : Int) := Int.ediv_pos_of_pos_of_dvd hb (by omega) (Int.gcd_dvd_right a b)
    omega
  · rw [Int.gcd_ediv (Int.gcd_dvd_left a b) (Int.gcd_dvd_right a b)]
    simp only [Int.natAbs_natCast]
    exact Nat.div_self (by omega)
theorem low_dvd {t b t' b' : Int} (h : Low t b) (e : t * b' = t' * b) : b ∣ b' := by
  have h1 : b.natAbs ∣ t.natAbs * b'.natAbs := by
    rw [← Int.natAbs_mul,e,Int.natAbs_mul]
    exact Nat.dvd_mul_left _ _
  have h2 : Nat.Coprime b.natAbs t.natAbs := by
    have := h.one
    unfold Nat.Coprime
    rw [Nat.gcd_comm]
    exact this
  exact Int.natAbs_dvd_natAbs.mp (h2.dvd_of_dvd_mul_left h1)
theorem low_unique {t b t' b' : Int} (h : Low t b) (h' : Low t' b') (e : t * b' = t' * b) : t = t' ∧ b = b' := by
  have d1 := low_dvd h e
  have d2 := low_dvd h' e.symm
  have p1 := h.pos
  have p2 := h'.pos
  have eb : b = b' := Int.le_antisymm (Int.le_of_dvd (by omega) d1) (Int.le_of_dvd (by omega) d2)
  subst eb
  exact ⟨Int.eq_of_mul_eq_mul_right (by omega) e,rfl⟩
structure Frac (top bottom t b : Int) : Prop where
  low : Low t b
  eq : top * b = t * bottom
theorem frac_pos {a b : Int} (hb : 0 < b) : Frac a b (a / (Int.gcd a b : Int)) (b / (Int.gcd a b : Int)) := by
  refine ⟨div_low hb,?_⟩
  have h1 := div_eq a b
  have h2 := div_eq' a b
  generalize a / (Int.gcd a b : Int) = x at *
  generalize b / (Int.gcd a b : Int) = y at *
  generalize (Int.gcd a b : Int) = g at *
  subst h1 h2
  grind
theorem frac_fdiv {a b : Int} (hb : b ≠ 0) (d : Int) (hd : d = if b < 0 then -(Int.gcd a b : Int) else (Int.gcd a b : Int)) : Frac a b (a.fdiv d) (b.fdiv d) := by
  have hg := gcd_pos (a := a) (b := b) hb
  by_cases h : b < 0
  · rw [if_pos h] at hd
    have f := frac_pos (a := -a) (b := -b) (by omega)
    rw [Int.gcd_neg,Int.neg_gcd] at f
    subst hd
    have e1 : a.fdiv (-(Int.gcd a b : Int)) = -a / (Int.gcd a b : Int) := by
      rw [← Int.neg_fdiv_neg,Int.neg_neg]; exact Int.fdiv_eq_ediv_of_nonneg _ (by omega)
    have e2 : b.fdiv (-(Int.gcd a b : Int)) = -b / (Int.gcd a b : Int) := by
      rw [← Int.neg_fdiv_neg,Int.neg_neg]; exact Int.fdiv_eq_ediv_of_nonneg _ (by omega)
    rw [e1,e2]
    exact ⟨f.low,by have := f.eq; grind⟩
  · rw [if_neg h] at hd
    subst hd
    rw [Int.fdiv_eq_ediv_of_nonneg _ (by omega),Int.fdiv_eq_ediv_of_nonneg _ (by omega)]
    exact frac_pos (by omega)
end Mth
namespace L2
open PySem PySem.Spec PyProof.Rows
abbrev bits (i : Int) : Nat := Builtin.Int.intBits i
theorem bits_of {i : Int} {n : Nat} (h : i.natAbs < 2 ^ n) : bits i ≤ n := intBits_le h
theorem bits_lt {i : Int} {n : Nat} (h : bits i ≤ n) : i.natAbs < 2 ^ n := by
  unfold bits Builtin.Int.intBits at h
  by_cases h0 : i = 0
  · subst h0
    exact Nat.pos_of_ne_zero (by simp)
  · rw [if_neg (by simpa using h0)] at h
    have h1 : i.natAbs ≠ 0 := by omega
    exact (Nat.log2_lt h1).mp (by omega)
theorem bits_mono {i j : Int} {n : Nat} (h : i.natAbs ≤ j.natAbs) (hj : bits j ≤ n) : bits i ≤ n := bits_of (Nat.lt_of_le_of_lt h (bits_lt hj))
theorem bits_mul {i j : Int} {m n : Nat} (hi : bits i ≤ m) (hj : bits j ≤ n) : bits (i * j) ≤ m + n := by
  refine bits_of ?_
  rw [Int.natAbs_mul,Nat.pow_add]
  exact Nat.mul_lt_mul'' (bits_lt hi) (bits_lt hj)
theorem bits_add {i j : Int} {n : Nat} (hi : bits i ≤ n) (hj : bits j ≤ n) : bits (i + j) ≤ n + 1 := by
  refine bits_of ?_
  have h1 := bits_lt hi
  have h2 := bits_lt hj
  have h3 : (2 : Nat) ^ (n + 1) = 2 * 2 ^ n := by rw [Nat.pow_succ,Nat.mul_comm]
  omega
theorem bits_sub {i j : Int} {n : Nat} (hi : bits i ≤ n) (hj : bits j ≤ n) : bits (i - j) ≤ n + 1 := by
  refine bits_of ?_
  have h1 := bits_lt hi
  have h2 := bits_lt hj
  have h3 : (2 : Nat) ^ (n + 1) = 2 * 2 ^ n := by rw [Nat.pow_succ,Nat.mul_comm]
  omega
theorem bits_neg {i : Int} {n : Nat} (hi : bits i ≤ n) : bits (-i) ≤ n := bits_mono (by omega) hi
theorem bits_abs {i : Int} {n : Nat} (hi : bits i ≤ n) : bits (if i < 0 then -i else i) ≤ n := bits_mono (by split <;> omega) hi
theorem bits_ediv {i j : Int} {n : Nat} (hj : 0 < j) (hi : bits i ≤ n) : bits (i / j) ≤ n := by
  refine bits_mono ?_ hi
  exact Int.natAbs_ediv_le_natAbs i j
theorem bits_fdiv {i j : Int} {n : Nat} (hi : bits i ≤ n) : bits (i.fdiv j) ≤ n := PySem.intBits_fdiv_le hi
theorem bits_range {i b : Int} {n : Nat} (h0 : 0 ≤ i) (h1 : i ≤ b) (hb : bits b ≤ n) : bits i ≤ n := bits_mono (by omega) hb
theorem bits_le {i : Int} {m n : Nat} (h : bits i ≤ m) (hm : m ≤ n) : bits i ≤ n := Nat.le_trans h hm
section
variable {X : Cx} {pos : Pos}
def CM (i j : Int) : Prop := IntMulOk i j
theorem CM.b {i j : Int} {m n : Nat} (hi : bits i ≤ m) (hj : bits j ≤ n) (hm : m ≤ 2 ^ 20) (hn : n ≤ 2 ^ 20) : CM i j := IntMulOk.of_bits (Nat.le_trans hi hm) (Nat.le_trans hj hn)
theorem CM.l {i j : Int} (h : -(2 ^ 64) < i ∧ i < 2 ^ 64) : CM i j := CMul.ok (.inl h)
theorem CM.r {i j : Int} (h : -(2 ^ 64) < j ∧ j < 2 ^ 64) : CM i j := CMul.ok (.inr h)
theorem op_mulX : OpR X (binaryOp .Mult) (rI CM fun i j => .int (i * j)) := opI fun _ _ _ _ _ _ _ hc q => mul_int q hc
def CD (_ j : Int) : Prop := 0 < j ∧ bits j ≤ 8000
theorem log2_of_bits {j : Int} {n : Nat} (hj : j ≠ 0) (h : bits j ≤ n) (hn : n ≤ 9000) : j.natAbs.log2 < 9000 := by
  have h1 : j.natAbs ≠ 0 := by omega
  have h2 := (Nat.log2_lt h1).mpr (bits_lt h)
  omega
theorem op_fdivP : OpR X (binaryOp .FloorDiv) (rI CD fun i j => .int (i / j)) := opI fun i j _ _ _ _ _ hc q => by
  have h1 : (0 : Int) < j := hc.1
  exact floordiv_int (by omega) (by rw [Int.fdiv_eq_ediv_of_nonneg i (by omega)]; exact q) (.inl (PyProof.noPylong_of_log2 (log2_of_bits (by omega) hc.2 (by decide))))
def CDZ (_ j : Int) : Prop := j ≠ 0 ∧ bits j ≤ 8000
theorem op_fdivZ : OpR X (binaryOp .FloorDiv) (rI CDZ fun i j => .int (i.fdiv j)) := opI fun i j _ _ _ _ _ hc q =>
  floordiv_int hc.1 q (.inl (PyProof.noPylong_of_log2 (log2_of_bits hc.1 hc.2 (by decide))))
theorem mt_bitlen : MtR X "int.bit_length" (fun x xs H Q => ∃ i,x = .int i ∧ xs = [] ∧ Q (.int ((bits i : Nat) : Int)) H) := by
  intro pins s σ H x xs v us Q I rx rs h
  obtain ⟨i,rfl,rfl,q⟩ := h
  obtain ⟨t,rfl⟩ := rx
  cases rs
  exact call_int_bit_length ⟨.int _,H,I.tok _,⟨_,rfl⟩,q⟩
end
theorem bt_int : bootBuiltins "int" = some (.type "int") := by decide +kernel
theorem bt_bool : bootBuiltins "bool" = some (.type "bool") := by decide +kernel
theorem bt_tuple : bootBuiltins "tuple" = some (.type "tuple") := by decide +kernel
theorem bt_isinstance : bootBuiltins "isinstance" = some (.builtin "isinstance") := by decide +kernel
theorem bt_abs : bootBuiltins "abs" = some (.builtin "abs") := by decide +kernel
theorem bt_len : bootBuiltins "len" = some (.builtin "len") := by decide +kernel
theorem pe_ty {X : Cx} {x : Str} {T : String} {pos : Pos} (hm : X.mg x = none) (hv : bootBuiltins x = some (.type T)) (hg : Gl X x := by rfl) (hn : x ≠ "__name__" := by decide) (hd : (x == ("__debug__" : Str)) = false := by decide) :
    PE X (.Name x pos) (tC (.ty T)) := pe_bltn hg hm hv rfl hn hd
inductive Kn (H : Hp) : V → String → Prop where
  | non : Kn H .non "NoneType"
  | bl (b : Bool) : Kn H (.bl b) "bool"
  | int (i : Int) : Kn H (.int i) "int"
  | str (x : Str) : Kn H (.str x) "str"
  | lst {a : Addr} {xs : List V} (e : H a = some (.lst xs)) : Kn H (.ref a) "list"
  | tup {a : Addr} {xs : List V} (e : H a = some (.tup xs)) : Kn H (.ref a) "tuple"
  | dict {a : Addr} {kvs : List (Key × V)} (e : H a = some (.dK kvs)) : Kn H (.ref a) "dict"
theorem Kn.ty {K : PySem.W.Frag} {H : Hp} {x : V} {t : String} (k : Kn H x t) : TyOf K H x (.type t) := by
  cases k with
  | non => exact .non
  | bl b => exact .bl b
  | int i => exact .int i
  | str x => exact .str x
  | lst e => exact .lst e
  | tup e => exact .tup e
  | dict e => exact .dK e
def isSub (t T : String) : Bool := t == T || (t == "bool" && T == "int")
def Nice (T : String) : Prop := T = "int" ∨ T = "bool" ∨ T = "tuple" ∨ T = "list" ∨ T = "str"
theorem kit_of (K : PySem.W.Frag) {H : Hp} {x : V} {t T : String} (k : Kn H x t) (n : Nice T) : PySem.W.kitOne K (.type t) (.type T) = some (isSub t T) := by
  rcases n with rfl | rfl | rfl | rfl | rfl <;> cases k <;> kernel_rfl
inductive rIsI (xs : List V) (H : Hp) (Q : VK) : Prop
  | mk (x : V) (t T : String) (e : xs = [x,.ty T]) (k : Kn H x t) (n : Nice T) (q : Q (.bl (isSub t T)) H) : rIsI xs H Q
theorem call_isinst {X : Cx} : CallR X (.builtin "isinstance") rIsI := by
  intro pins s σ H xs us Q I rs h
  obtain ⟨x,t,T,rfl,k,n,q⟩ := h
  obtain ⟨u,v,rfl,ru,rv⟩ := vals2 rs
  cases (show v = Value.type T from rv)
  exact isinst_ok I ru k.ty (kit_of X.K k n) fun tk => ⟨.bl _,H,I.tok _,rfl,q⟩
structure Fn (P : Program) (w : World) (K : PySem.W.Frag) (mg : Str → Option Value) (base : Heap) (x : Str) (ps : List Str) (k : Nat) (sp : Sp) : Prop where
  ex : ∃ (f : Addr) (fd : FuncData) (o : Obj),mg x = some (.ref f) ∧ PySem.W.keepIn K (.ref f) = true ∧ (∀ us : List Value,us.length = ps.length → bindArgs fd ⟨us,[]⟩ = pure (ps.zip us)) ∧ (K.lookup f = some o ∧ o.data = .func fd) ∧ FnOk P w K mg base CX0 k f fd ps sp
theorem pe_fn {X : Cx} {x : Str} {ps : List Str} {k : Nat} {sp : Sp} {p pos : Pos} {e : Expr} {es : List Expr} {t : TA} (F : Fn X.prog X.w X.K X.mg X.base x ps k sp) (hr : Room k X.A) (hg : Gl X x) (ha : PA X (e :: es) t)
    (hdb : (x == ("__debug__" : Str)) = false := by decide) (he : starEach (e :: es) X.env = (false,eval e X.env) :: starEach es X.env := by rfl) (hpl : (backTo pos (starEach es X.env)).any (·.1) = false := by rfl) :
    PE X (.Call (.Name x p) (e :: es) [] pos) (tCall sp [] E0 t) := by
  obtain ⟨f,fd,o,hm,hk,hb,_,G⟩ := F.ex
  exact pe_call G hr hg hm hk (.all hb) .nil pass0 ha hdb he hpl
structure Df (K : PySem.W.Frag) (mg : Str → Option Value) (x : Str) (st : Stmt) : Prop where
  ex : ∃ (f : Addr) (oc : Value) (od : Option Addr) (kV doc pm : Value) (an : Option Addr) (cdv ct : Value) (osl : Array (Option Value)),
    mg x = some (.ref f) ∧ K.lookup f = some ⟨oc,od,.func (PySem.W.fnOf x x (defArgs st) (defBody st) (defScope st) .none kV doc pm an cdv ct),osl⟩ ∧ PySem.W.codeIn K cdv x = true ∧ PySem.W.keepIn K (.ref f) = true
theorem df_mk {K : PySem.W.Frag} {mg : Str → Option Value} {h : Heap} {x : Str} {st : Stmt} {f : Addr} {oc : Value} {od an : Option Addr} {osl : Array (Option Value)} {kV doc pm cdv ct : Value} (X : K.In h) (G : h.Ns mainGlobals mg)
    (a : PySem.W.nsIn K mainGlobals x = some (some (.ref f))) (l : K.lookup f = some ⟨oc,od,.func (PySem.W.fnOf x x (defArgs st) (defBody st) (defScope st) .none kV doc pm an cdv ct),osl⟩) (c : PySem.W.codeIn K cdv x = true) (k : PySem.W.keepIn K (.ref f) = true) :
    Df K mg x st := ⟨⟨f,oc,od,kV,doc,pm,an,cdv,ct,osl,PySem.W.mg_of X G a,l,c,k⟩⟩
theorem Df.fn {P : Program} {w : World} {K : PySem.W.Frag} {mg : Str → Option Value} {base : Heap} {x : Str} {st : Stmt} {N ps : List Str} {k : Nat} {sp : Sp} (D : Df K mg x st) (S : FnScope N ps (defScope st))
    (hbind : ∀ (kV doc pm : Value) (an : Option Addr) (cdv ct : Value) (us : List Value),us.length = ps.length → bindArgs (PySem.W.fnOf x x (defArgs st) (defBody st) (defScope st) .none kV doc pm an cdv ct) ⟨us,[]⟩ = pure (ps.zip us))
    (len : ∀ vs H Q E,sp vs H Q E → vs.length = ps.length)
    (hbody : ∀ (f : Addr) (cdv : Value) (A : Around) (outer : List Env) (s : Shared) (H : Hp) (vs : List V) (Q : VK) (E : XK),Room k (A.deeper (envOfC x (defScope st) s.heap.objs.size f cdv)) → sp vs H Q E →
      ∃ t,PSs (cxOf CX0 P w K mg base N x (defScope st) f cdv A outer s H E).nox (defBody st) t ∧ t { nx := fun _ H' => Q .non H',rt := Q } (start N vs) H) : Fn P w K mg base x ps (k + 1) sp := by
  obtain ⟨f,oc,od,kV,doc,pm,an,cdv,ct,osl,hm,lk,hcd,hk⟩ := D.ex
  refine ⟨⟨f,_,_,hm,hk,hbind kV doc pm an cdv ct,⟨lk,rfl⟩,fn_of lk hcd S len fun A outer s H vs Q E hr hsp => ?_⟩⟩
  obtain ⟨t,h,q⟩ := hbody f cdv A outer s H vs Q E hr hsp
  exact ⟨t,h.nox,q⟩
theorem law_fd {P : Program} {w : World} {K : PySem.W.Frag} {mg : Str → Option Value} {fa : Addr} {k : Nat} {sp : Sp} (h : Heap) (hfa : mg "law" = some (.ref fa)) (F : ∀ base : Heap,Fn P w K mg base "law" ["script"] k sp) :
    ∃ fd : FuncData,(∀ (s : Shared) (v : Value),BindsTo s fd ⟨[v],[]⟩ [("script",v)]) ∧ ∀ base : Heap,K.In base → base.Ns mainGlobals mg → FnOk P w K mg base CX0 k fa fd ["script"] sp := by
  obtain ⟨f,fd,o,hm,_,hb,⟨hl,hd⟩,_⟩ := (F h).ex
  rw [hfa] at hm
  cases hm
  refine ⟨fd,fun s v => .of_eq (hb [v] rfl),fun base _ _ => ?_⟩
  obtain ⟨f',fd',o',hm',_,_,⟨hl',hd'⟩,G⟩ := (F base).ex
  rw [hfa] at hm'
  cases hm'
  rw [hl] at hl'
  cases hl'
  rw [hd] at hd'
  cases hd'
  exact G
def spLaw (K : PySem.W.Frag) : Sp := fun vs H Q _ => ∃ (a : Addr) (ns : List Int),vs = [.ref a] ∧ SqL K H a (ns.map V.int) ∧ ns.length ≤ 63 ∧ ∀ H',Q (.bl true) H'
theorem law_walk {l : PySem.W.OpenLaw} {k : Nat} {q : Program} {loose : List Str} {XP : (Str → Option Value) → Heap → Prop} {YP : World → Heap → Prop} {d : DefRec} {K : Params → PySem.W.Frag} (hk : Room k callerA) (hn : l.most = some 63) (hdf : d.params.defaults = [])
    (hY : ∀ (w : World) (h : Heap),YP w h → (K w.params).In h)
    (F : ∀ (w : World) (mg : Str → Option Value) (fa : Addr) (h : Heap),(K w.params).In h → h.Ns mainGlobals mg → mg d.name = some (.ref fa) →
      ∃ fd : FuncData,(∀ (s : Shared) (u : Value),BindsTo s fd ⟨[u],[]⟩ [("script",u)]) ∧ ∀ base : Heap,(K w.params).In base → base.Ns mainGlobals mg → FnOk l.prog w (K w.params) mg base CX0 k fa fd ["script"] (spLaw (K w.params))) :
    PySem.W.WalkO q loose XP YP l.row.toRowW d [] (fun f vs => PySem.call f vs) :=
  L2.walk_of (n := 63) (k := k) (x := "script") (CX := fun _ => CX0) (sp := fun w => spLaw (K w.params)) hn (by decide) hdf hk hY F (fun _ _ a ns hl _ hS => ⟨a,ns,rfl,hS,hl,fun _ => rfl⟩) fun _ _ _ _ _ z => z
theorem Same.new {H : Hp} {p : Addr} {o : HO} (h : H p = none) : Same H (upd H p o) := fun b o' e => by
  rw [upd_ne (ne_of_none e h)]
  exact e
theorem ite3 {c : Bool} {A B : Prop} (h1 : c = true → A) (h2 : c = false → B) : if c = true then A else B := by
  cases c with
  | true => exact iteT (h1 rfl)
  | false => exact iteF (h2 rfl)
theorem iteFalse {b : Bool} {A B : Prop} (hb : b = false) (h : B) : if b = true then A else B := by
  subst hb
  exact iteF h
theorem iteTrue {b : Bool} {A B : Prop} (hb : b = true) (h : A) : if b = true then A else B := by
  subst hb
  exact iteT h
def isIntV : V → Bool
  | .int _ => true
  | _ => false
theorem mem_cutV {xs : List V} {lo hi : Option Int} {x : V} (h : x ∈ cutV xs lo hi) : x ∈ xs := List.mem_of_mem_drop (List.mem_of_mem_take h)
end L2
namespace Sp1
open PySem PySem.Spec L2 Mth
inductive spWhole (vs : List V) (H : Hp) (Q : VK) (x_3 : XK) : Prop
  | mk : ∀ x t,(vs = [x]) → (Kn H x t) → (Q (.bl (isIntV x)) H) → spWhole vs H Q x_3
inductive spGcd (vs : List V) (H : Hp) (Q : VK) (x_3 : XK) : Prop
  | mk : ∀ a b : Int,(vs = [.int a,.int b]) → (Q (.int (Int.gcd a b : Int)) H) → spGcd vs H Q x_3
inductive spCommon (vs : List V) (H : Hp) (Q : VK) (x_3 : XK) : Prop
  | mk : ∀ a b : Int,(vs = [.int a,.int b]) → (0 ≤ a) → (0 ≤ b) → (Q (.int (Int.gcd a b : Int)) H) → spCommon vs H Q x_3
def lowB (a b : Int) : Bool := decide (1 ≤ b) && decide (Int.gcd a b = 1)
def lowL : List V → Bool
  | [.int a,.int b] => lowB a b
  | _ => false
def lowV (H : Hp) : V → Bool
  | .ref p => match H p with
    | some (.tup xs) => lowL xs
    | _ => false
  | _ => false
structure Thing (H : Hp) (x : V) : Prop where
  kn : ∃ t,Kn H x t
  parts : ∀ p xs,x = .ref p → H p = some (.tup xs) → ∀ y ∈ xs,∃ t,Kn H y t
inductive spLow (vs : List V) (H : Hp) (Q : VK) (x_3 : XK) : Prop
  | mk : ∀ x,(vs = [x]) → (Thing H x) → (Q (.bl (lowV H x)) H) → spLow vs H Q x_3
inductive spMixed (vs : List V) (H : Hp) (Q : VK) (x_3 : XK) : Prop
  | mk : ∀ c k : Int,(vs = [.int c,.int k]) → (∀ n : Int,Q (.int n) H) → spMixed vs H Q x_3
inductive spNumbers (vs : List V) (H : Hp) (Q : VK) (x_3 : XK) : Prop
  | mk : ∀ (c : Int) (m : Nat) (b : Int),(vs = [.int c,.int (m : Int),.int b]) → (m ≤ 100) → ((0 < b ∧ bits b ≤ 2000)) → (∀ (p : Addr) (ns : List Int) (H' : Hp),ns.length = m → (∀ n ∈ ns,0 ≤ n ∧ n < b) → Same H H' → H' p = some (.lst (ns.map V.int)) → Q (.ref p) H') → spNumbers vs H Q x_3
theorem whole_sub {H : Hp} {x : V} {t : String} (k : Kn H x t) : (isSub t "int" = true → (!isSub t "bool") = isIntV x) ∧ (isSub t "int" = false → isIntV x = false) := by
  cases k with
  | non => exact ⟨fun h => absurd h (by decide),fun _ => rfl⟩
  | bl b => exact ⟨fun _ => (show (!isSub "bool" "bool") = false by decide),fun h => absurd h (by decide)⟩
  | int i => exact ⟨fun _ => (show (!isSub "int" "bool") = true by decide),fun h => absurd h (by decide)⟩
  | str x => exact ⟨fun h => absurd h (by decide),fun _ => rfl⟩
  | lst e => exact ⟨fun h => absurd h (by decide),fun _ => rfl⟩
  | tup e => exact ⟨fun h => absurd h (by decide),fun _ => rfl⟩
  | dict e => exact ⟨fun h => absurd h (by decide),fun _ => rfl⟩
theorem abs_nonneg (a : Int) : 0 ≤ (if a < 0 then -a else a) := by split <;> omega
theorem Kn.cases_int {H : Hp} {y : V} {t : String} (k : Kn H y t) : (∃ a,y = .int a ∧ t = "int") ∨ ((∀ a,y ≠ .int a) ∧ isIntV y = false) := by
  cases k with
  | int a => exact .inl ⟨a,rfl,rfl⟩
  | non => exact .inr ⟨fun a e => (nomatch e),rfl⟩
  | bl b => exact .inr ⟨fun a e => (nomatch e),rfl⟩
  | str x => exact .inr ⟨fun a e => (nomatch e),rfl⟩
  | lst e => exact .inr ⟨fun a e => (nomatch e),rfl⟩
  | tup e => exact .inr ⟨fun a e => (nomatch e),rfl⟩
  | dict e => exact .inr ⟨fun a e => (nomatch e),rfl⟩
theorem Kn.cases_tup {H : Hp} {y : V} {t : String} (k : Kn H y t) : (∃ p xs,y = .ref p ∧ H p = some (.tup xs) ∧ t = "tuple") ∨ (lowV H y = false ∧ isSub t "tuple" = false) := by
  cases k with
  | tup e => exact .inl ⟨_,_,rfl,e,rfl⟩
  | non => exact .inr ⟨rfl,by decide⟩
  | bl b => exact .inr ⟨rfl,by decide⟩
  | str x => exact .inr ⟨rfl,by decide⟩
  | int a => exact .inr ⟨rfl,by decide⟩
  | lst e => exact .inr ⟨by simp only [lowV,e],by decide⟩
  | dict e => exact .inr ⟨by simp only [lowV,e],by decide⟩
theorem lowV_tup {H : Hp} {p : Addr} {xs : List V} (e : H p = some (.tup xs)) : lowV H (.ref p) = lowL xs := by simp only [lowV,e]
theorem lowL_len {xs : List V} (h : xs.length ≠ 2) : lowL xs = false := by
  unfold lowL
  split
  · exact absurd rfl h
  · rfl
theorem lowL_fst {y z : V} (h : ∀ a,y ≠ .int a) : lowL [y,z] = false := by
  unfold lowL
  split
  · rename_i a b e
    cases e
    exact absurd rfl (h a)
  · rfl
theorem lowL_snd {y z : V} (h : ∀ a,z ≠ .int a) : lowL [y,z] = false := by
  unfold lowL
  split
  · rename_i a b e
    cases e
    exact absurd rfl (h b)
  · rfl
theorem sz {n : Nat} (h : n ≤ 1000) : n ≤ sizeLine := Nat.le_of_lt (small1000 h)
theorem th_tup {H : Hp} {p : Addr} {xs : List V} (e : H p = some (.tup xs)) (h : ∀ y ∈ xs,∃ t,Kn H y t) : Thing H (.ref p) := ⟨⟨_,.tup e⟩,fun p' ys e1 e2 => by
  cases e1
  rw [e] at e2
  cases e2
  exact h⟩
theorem lt64 {n : Int} (h0 : 0 ≤ n) (h1 : n < 2147483647) : -(2 ^ 64) < n ∧ n < 2 ^ 64 := by
  have e : (2 : Int) ^ 64 = 18446744073709551616 := by decide
  rw [e]
  omega
theorem gcd_bits2 {a b : Int} {n : Nat} (hb : b ≠ 0) (h : bits b ≤ n) : bits (Int.gcd a b : Int) ≤ n := by
  refine bits_mono ?_ h
  have h1 : (Int.gcd a b) ∣ b.natAbs := Int.gcd_dvd_natAbs_right a b
  have h2 := Nat.le_of_dvd (by omega) h1
  omega
end Sp1
namespace L2
open PySem PySem.Spec PyProof.Rows
section
variable {X : Cx}
end
end L2
namespace L2
open PySem PySem.Spec PyProof.Rows
section
variable {prog : Program} {w : World} {A : Around} {E : Value → Shared → Prop}
end
end L2
namespace L2
open PySem PySem.Spec PyProof.Rows
theorem ObjOk.has {P : Program} {w : World} {H : Hp} {h : Heap} {a : Addr} {o : HO} (x : ObjOk P w H h a o) : ∃ ob,h.get? a = some ob := by
  cases o with
  | lst xs => obtain ⟨_,_,_,_,e⟩ := x; exact ⟨_,e⟩
  | tup xs => obtain ⟨_,_,_,ob,e,_⟩ := x; exact ⟨_,e⟩
  | dK kvs => obtain ⟨_,_,_,_,ob,_,_,e,_⟩ := x; exact ⟨_,e⟩
  | dT kvs => obtain ⟨_,_,_,_,ob,_,_,e,_⟩ := x; exact ⟨_,e⟩
  | set S n => obtain ⟨ob,_,_,_,e,_⟩ := x; exact ⟨_,e⟩
  | ins C dx fs => obtain ⟨_,_,_,e,_⟩ := x; exact ⟨_,e⟩
  | own y => obtain ⟨ob,e⟩ := x; exact ⟨_,e⟩
  | xd fs => obtain ⟨_,⟨od,_,_,e,_⟩,_⟩ := x; exact ⟨_,e⟩
  | rng lo hi => obtain ⟨_,_,_,e⟩ := x; exact ⟨_,e⟩
  | frz ob u => obtain ⟨e,_⟩ := x; exact ⟨_,e⟩
  | tbl ps => exact ⟨_,(show h.get? a = some _ from x)⟩
  | met f y => exact ⟨_,(show h.get? a = some _ from x)⟩
  | ext φ => obtain ⟨_,⟨ob,e⟩,_⟩ := x; exact ⟨_,e⟩
structure Big (B : Heap) (fs : List Addr) (H' : Hp) (h : Heap) : Prop where
  tr : ∀ b o,H' b = some o → ∃ ob,B.get? b = some ob
  old : ∀ b o,h.get? b = some o → b ∉ fs → ∃ ob,B.get? b = some ob
section
variable {P : Program} {w : World} {fs fs' : List Addr} {H H1 H' : Hp} {h h1 h2 B : Heap}
theorem Un.fly (un : Un fs [] H H' h h1) (big : Big B fs H' h) (st1 : B.StaysIn h1) (st2 : B.StaysIn h2) (sl : h1.UpToSlots h2)
    (fr : ∀ b ∈ fs,H b = none ∧ ∀ o,h1.get? b = some o → ∀ vs,o.data ≠ .fields vs) : Un fs [] H H' h h2 where
  keep := fun b o e n hb hx => by
    have e1 := un.keep b o e n hb hx
    obtain ⟨ob,eb⟩ := big.old b o e hb
    have e2 := st1 b ob eb
    rw [e1] at e2
    cases e2
    exact st2 b _ eb
  slot := fun b o e n hb hx => by
    obtain ⟨s1,e1⟩ := un.slot b o e n hb hx
    obtain ⟨s2,e2⟩ := sl b _ e1 ((fr b hb).2 _ e1)
    exact ⟨s2,e2⟩
  free := un.free
  there := fun b o e hx => by
    by_cases hb : b ∈ fs
    · obtain ⟨s1,e1⟩ := un.slot b o e (fr b hb).1 hb hx
      obtain ⟨s2,e2⟩ := sl b _ e1 ((fr b hb).2 _ e1)
      exact ⟨_,e2⟩
    · obtain ⟨ob,eb⟩ := big.old b o e hb
      exact ⟨_,st2 b ob eb⟩
  tups := un.tups
  frzs := un.frzs
  tbls := un.tbls
theorem HOk.fly (hok : HOk P w H' h1) (big : Big B fs H' h) (st1 : B.StaysIn h1) (st2 : B.StaysIn h2) : HOk P w H' h2 := fun a o e => by
  refine (hok a o e).stay (fun b u hb q => ?_) (fun _ q => q) fun _ _ q => q
  have hb' : ∃ ob,B.get? b = some ob := by
    rcases hb with z | z
    · rw [z]
      exact big.tr a o e
    · exact big.tr b _ z
  obtain ⟨ob,eb⟩ := hb'
  have e2 := st1 b ob eb
  rw [q] at e2
  cases e2
  exact st2 b _ eb
theorem Un.shed (a : Un fs [] H H1 h h1) (b : Un fs' [] H1 H' h1 h2) (sub : ∀ x ∈ fs,x ∈ fs') (out : ∀ x o,h.get? x = some o → x ∈ fs' → x ∈ fs) : Un fs [] H H' h h2 where
  keep := fun x o e n hx hn => b.keep x o (a.keep x o e n hx hn) (a.free x o e n hn) (fun z => hx (out x o e z)) hn
  slot := fun x o e n hx hn => by
    obtain ⟨s1,e1⟩ := a.slot x o e n hx hn
    obtain ⟨s2,e2⟩ := b.slot x _ e1 (a.free x o e n hn) (sub x hx) hn
    exact ⟨s2,e2⟩
  free := fun x o e n hn => by
    obtain ⟨o1,e1⟩ := a.there x o e hn
    exact b.free x o1 e1 (a.free x o e n hn) hn
  there := fun x o e hn => by
    obtain ⟨o1,e1⟩ := a.there x o e hn
    exact b.there x o1 e1 hn
  tups := fun x xs e => b.tups x xs (a.tups x xs e)
  frzs := fun x o xs e => b.frzs x o xs (a.frzs x o xs e)
  tbls := fun x ps e => by
    obtain ⟨m1,e1⟩ := a.tbls x ps e
    obtain ⟨m2,e2⟩ := b.tbls x _ e1
    exact ⟨m1 ++ m2,by rw [e2,Array.append_assoc]⟩
end
def CXE (P : Program) (w : World) : CXT := fun outer H s E e s' => ∃ (ea t : Addr) (cls : Value) (H' : Hp) (B : Heap),
  e = .ref ea ∧ s'.os = s.os ∧ AllBare s'.gens ∧ Un (frs outer) [] H H' s.heap s'.heap ∧ HOk P w H' s'.heap ∧ Heap.FlyingW B outer ea cls (.ref t) s'.heap ∧ Big B (frs outer) H' s.heap ∧ E cls none H'
section
variable {P : Program} {w : World} {K : PySem.W.Frag} {mg : Str → Option Value} {base : Heap} {N : List Str} {qual : Str} {scope : Scope} {f : Addr} {cdv : Value} {A : Around} {outer : List Env} {s₀ : Shared} {H₀ : Hp} {E : XK}
theorem frs_cons {env : Env} {L : Addr} (hf : env.frame = some L) (l : List Env) : frs (env :: l) = L :: frs l := by
  unfold frs
  rw [List.filterMap_cons,hf]
theorem raised {pins : List (Addr × Obj)} {σ : St} {H : Hp} {s : Shared} {h' : Heap} {e : Addr} {cls : Value} {vs : List Value} (I : Inv (cxOf (CXE P w) P w K mg base N qual scope f cdv A outer s₀ H₀ E) pins σ H s)
    (hx : Heap.MadeExcOf s.heap h' e cls vs) (q : E cls none H) : (cxOf (CXE P w) P w K mg base N qual scope f cdv A outer s₀ H₀ E).xe (.ref e) { s with heap := h' } := by
  have hin : ∀ env ∈ (cxOf (CXE P w) P w K mg base N qual scope f cdv A outer s₀ H₀ E).stack,∀ a,env.frame = some a → a ∈ frs (cxOf (CXE P w) P w K mg base N qual scope f cdv A outer s₀ H₀ E).stack :=
    fun env he a ha => List.mem_filterMap.mpr ⟨env,he,ha⟩
  have neL : ∀ b o,s₀.heap.get? b = some o → b ∉ frs outer → b ∉ frs (cxOf (CXE P w) P w K mg base N qual scope f cdv A outer s₀ H₀ E).stack := fun b o eb hb hm => by
    rcases List.mem_cons.mp (I.stkSub b hm) with z | z
    · exact absurd z (Nat.ne_of_lt (Nat.lt_of_lt_of_le (Heap.lt_size eb) I.ok.above))
    · exact hb z
  refine wpAny_leaves_madeW (base := PySem.W.hideAll s.heap (frs (cxOf (CXE P w) P w K mg base N qual scope f cdv A outer s₀ H₀ E).stack)) (h := s.heap) (L := s₀.heap.objs.size) I.ok.frames rfl (fun b o z => PySem.W.of_hideAll _ z) (PySem.W.funFrames_hide I.stack hin) hx fun h'' t fl _ _ up => ?_
  have big : Big (PySem.W.hideAll s.heap (frs (cxOf (CXE P w) P w K mg base N qual scope f cdv A outer s₀ H₀ E).stack)) (frs outer) H s₀.heap := by
    refine ⟨fun b o eb => ?_,fun b o eb hb => ?_⟩
    · obtain ⟨ob,z⟩ := (I.hok b o eb).has
      refine ⟨ob,PySem.W.hideAll_get _ z fun hm => ?_⟩
      rw [I.stkFree b hm] at eb
      cases eb
    · obtain ⟨ob,z⟩ := I.base.there b o eb (by intro z; cases z)
      exact ⟨ob,PySem.W.hideAll_get _ z (neL b o eb hb)⟩
  have st1 : (PySem.W.hideAll s.heap (frs (cxOf (CXE P w) P w K mg base N qual scope f cdv A outer s₀ H₀ E).stack)).StaysIn s.heap := fun b o z => PySem.W.of_hideAll _ z
  have sl : s.heap.UpToSlots h'' := (Heap.UpToSlots.of_keeps hx.keeps).trans up
  exact ⟨e,t,cls,H,_,rfl,I.os,I.bare,Un.fly I.base big st1 fl.1 sl fun b hb => ⟨I.ok.frf b hb,fun o eo => by
      obtain ⟨_,o',eo',nf⟩ := I.funs.mem hb
      rw [eo] at eo'
      cases eo'
      exact nf⟩,HOk.fly I.hok big st1 fl.1,fl,big,q⟩
theorem pass_on {E1 : XK} (hE : ∀ c o H',E1 c o H' → E c o H') : Passes (CXE P w) (cxOf (CXE P w) P w K mg base N qual scope f cdv A outer s₀ H₀ E) E1 := by
  intro pins σ H s e s' I h
  obtain ⟨ea,t,cls,H',B,rfl,os,bare,un,hok,fl,big,q⟩ := h
  refine wpAny_leaves_onW (L := s₀.heap.objs.size) I.ok.frames rfl fl fun h'' fl' up => ?_
  have out : ∀ x o,s₀.heap.get? x = some o → x ∈ frs (cxOf (CXE P w) P w K mg base N qual scope f cdv A outer s₀ H₀ E).stack → x ∈ frs outer := fun x o ex hm => by
    rcases List.mem_cons.mp (I.stkSub x hm) with z | z
    · exact absurd z (Nat.ne_of_lt (Nat.lt_of_lt_of_le (Heap.lt_size ex) I.ok.above))
    · exact z
  have sub : ∀ x ∈ frs outer,x ∈ frs (cxOf (CXE P w) P w K mg base N qual scope f cdv A outer s₀ H₀ E).stack := fun x hx => by
    show x ∈ frs (_ :: outer)
    rw [frs_cons (L := s₀.heap.objs.size) rfl]
    exact List.mem_cons_of_mem _ hx
  have un1 : Un (frs outer) [] H₀ H' s₀.heap s'.heap := Un.shed I.base un sub out
  have big1 : Big B (frs outer) H' s₀.heap := by
    refine ⟨big.tr,fun b o eb hb => ?_⟩
    obtain ⟨ob,z⟩ := I.base.there b o eb (by intro z; cases z)
    exact big.old b ob z fun hm => hb (out b o eb hm)
  refine ⟨ea,t,cls,H',B,rfl,os.trans I.os,bare,Un.fly un1 big1 fl.1 fl'.1 up fun b hb => ⟨I.ok.frf b hb,fun o eo => ?_⟩,HOk.fly hok big1 fl.1 fl'.1,fl',big1,hE _ _ _ q⟩
  obtain ⟨_,o',eo',nf⟩ := fl'.2.2.1.mem hb
  obtain ⟨_,o2,eo2,nf2⟩ := fl.2.2.1.mem (sub b hb)
  rw [eo] at eo2
  cases eo2
  exact nf2
end
structure ExcC (K : PySem.W.Frag) (mg : Str → Option Value) (x : Str) (C : Addr) : Prop where
  bound : mg x = some (.ref C)
  obj : ∀ h : Heap,K.In h → ∃ bm N nm qn bs hd sn sub ab col dd k0 k1 k2 k3 k5 mN,h.get? C = some (excClassObj nm qn C N bs bm hd sn sub ab col dd k0 k1 k2 k3 k5 "ValueError.__new__") ∧ h.Ns N mN ∧ mN "__init__" = none ∧
    OwnTail h [.type "ValueError",.type "Exception",.type "BaseException",.type "object"] bm
theorem exc_obj {K : PySem.W.Frag} {h : Heap} {C : Addr} {bmB : List Value} {newId : String} (X : K.In h) (q : PySem.W.excIn K C bmB newId = true) :
    ∃ bm N nm qn bs hd sn sub ab col dd k0 k1 k2 k3 k5 mN,h.get? C = some (excClassObj nm qn C N bs bm hd sn sub ab col dd k0 k1 k2 k3 k5 newId) ∧ h.Ns N mN ∧ mN "__init__" = none ∧ OwnTail h bmB bm := by
  unfold PySem.W.excIn at q
  split at q
  next dct cl sls look =>
    split at q
    next C2 bms a0 a1 a2 a3 nid a5 hmro hsls =>
      simp only [Bool.not_eq_true',beq_iff_eq,Bool.and_eq_true] at q
      obtain ⟨⟨⟨⟨⟨q1,q2⟩,q3⟩,q4⟩,q5⟩,q6⟩ := q
      subst q1 q2
      obtain ⟨c1,c2,c3,c4,c5,c6,c7,c8,c9,c10,c11⟩ := cl
      dsimp only at hmro q3 q5 q6
      subst hmro q3
      obtain ⟨lst⟩ := sls
      simp only at hsls
      subst hsls
      exact ⟨bms,c4,c1,c5,c2,c6,c7,c8,c9,c10,dct,a0,a1,a2,a3,a5,_,X _ _ look,.of_isNs (PySem.W.isNs_of_in X q5),PySem.W.nsMap_none_of_in X q5 q6,PySem.W.tail_of_in X q4⟩
    next => cases q
  next => cases q
theorem exc_mk {K : PySem.W.Frag} {mg : Str → Option Value} {h : Heap} {x : Str} {C : Addr} (X : K.In h) (G : h.Ns mainGlobals mg) (a : PySem.W.nsIn K mainGlobals x = some (some (.ref C)))
    (q : PySem.W.excIn K C [.type "ValueError",.type "Exception",.type "BaseException",.type "object"] "ValueError.__new__" = true) : ExcC K mg x C := ⟨PySem.W.mg_of X G a,fun _ Y => exc_obj Y q⟩
section
variable {P : Program} {w : World} {K : PySem.W.Frag} {mg : Str → Option Value} {base : Heap} {N : List Str} {qual : Str} {scope : Scope} {f : Addr} {cdv : Value} {A : Around} {outer : List Env} {s₀ : Shared} {H₀ : Hp} {E : XK}
theorem ps_raise {x : Str} {C : Addr} {np cpos pos : Pos} (O : ExcC K mg x C) (hg : Gl (cxOf (CXE P w) P w K mg base N qual scope f cdv A outer s₀ H₀ E) x) (hdb : (x == ("__debug__" : Str)) = false := by decide) :
    PS (cxOf (CXE P w) P w K mg base N qual scope f cdv A outer s₀ H₀ E) (.Raise (some (.Call (.Name x np) [] [] cpos)) none pos) (fun _ _ H => E (.ref C) none H) := by
  intro pins s σ H D I h
  obtain ⟨bm,N',nm,qn,bs,hd,sn,sub,ab,col,dd,k0,k1,k2,k3,k5,mN,hC,hN,hni,T⟩ := O.obj s.heap I.kIn
  refine wpAny_Raise_call_subT (C := C) (nm := nm) (q := qn) (N := N') (bs := bs) (bm := bm) (hdct := hd) (sn := sn) (sub := sub) (ab := ab) (col := col) (dd := dd) (k0 := k0) (k1 := k1) (k2 := k2) (k3 := k3) (k5 := k5) PySem.F.excBase_ValueError (mN := mN) (T.hasType (by decide +kernel)) (I.ok.hd rfl) rfl hni (ld_glob I hg O.bound ⟨rfl,?_⟩ hdb)
  exact evalArgs_empty ⟨rfl,Nat.zero_le _,hC,hN,T,fun h' e hx => raised I hx h⟩
end
section
variable {X : Cx}
end
structure Fx (P : Program) (w : World) (K : PySem.W.Frag) (mg : Str → Option Value) (base : Heap) (x : Str) (ps : List Str) (k : Nat) (ds : List V) (sp : Sp) : Prop where
  ex : ∃ (f : Addr) (fd : FuncData) (its : List Value),mg x = some (.ref f) ∧ PySem.W.keepIn K (.ref f) = true ∧ Binds K fd ps [] ∧ Binds K fd ps its ∧ Vals ds its ∧ FnOk P w K mg base (CXE P w) k f fd ps sp
structure DfD (K : PySem.W.Frag) (mg : Str → Option Value) (x : Str) (st : Stmt) (ds : List V) : Prop where
  ex : ∃ (f T : Addr) (oT : Obj) (n : Nat) (its : List Value) (oc : Value) (od : Option Addr) (kV doc pm : Value) (an : Option Addr) (cdv ct : Value) (osl : Array (Option Value)),
    mg x = some (.ref f) ∧ K.lookup f = some ⟨oc,od,.func (PySem.W.fnOf x x (defArgs st) (defBody st) (defScope st) (.ref T) kV doc pm an cdv ct),osl⟩ ∧ PySem.W.codeIn K cdv x = true ∧ PySem.W.keepIn K (.ref f) = true ∧ K.lookup T = some oT ∧ oT.data = .seq its.toArray n ∧ Vals ds its
theorem dfd_mk {K : PySem.W.Frag} {mg : Str → Option Value} {h : Heap} {x : Str} {st : Stmt} {ds : List V} {its : List Value} {f T : Addr} {oT : Obj} {n : Nat} {oc : Value} {od an : Option Addr} {osl : Array (Option Value)} {kV doc pm cdv ct : Value} (X : K.In h) (G : h.Ns mainGlobals mg)
    (a : PySem.W.nsIn K mainGlobals x = some (some (.ref f))) (l : K.lookup f = some ⟨oc,od,.func (PySem.W.fnOf x x (defArgs st) (defBody st) (defScope st) (.ref T) kV doc pm an cdv ct),osl⟩) (c : PySem.W.codeIn K cdv x = true) (k : PySem.W.keepIn K (.ref f) = true)
    (t : K.lookup T = some oT) (d : oT.data = .seq its.toArray n) (v : Vals ds its) : DfD K mg x st ds := ⟨⟨f,T,oT,n,its,oc,od,kV,doc,pm,an,cdv,ct,osl,PySem.W.mg_of X G a,l,c,k,t,d,v⟩⟩
theorem DfD.fx {P : Program} {w : World} {K : PySem.W.Frag} {mg : Str → Option Value} {base : Heap} {x : Str} {st : Stmt} {ds : List V} {N ps : List Str} {k : Nat} {sp : Sp} (D : DfD K mg x st ds) (S : FnScope N ps (defScope st))
    (hb : ∀ (T : Addr) (kV doc pm : Value) (an : Option Addr) (cdv ct : Value) (us its : List Value) (oT : Obj) (n : Nat) (s : Shared),Vals ds its → us.length = ps.length → s.heap.get? T = some oT → oT.data = .seq its.toArray n →
      BindsTo s (PySem.W.fnOf x x (defArgs st) (defBody st) (defScope st) (.ref T) kV doc pm an cdv ct) ⟨us,[]⟩ (ps.zip us))
    (hd : ∀ (T : Addr) (kV doc pm : Value) (an : Option Addr) (cdv ct : Value) (us its : List Value) (oT : Obj) (n : Nat) (s : Shared),Vals ds its → (us ++ its).length = ps.length → s.heap.get? T = some oT → oT.data = .seq its.toArray n →
      BindsTo s (PySem.W.fnOf x x (defArgs st) (defBody st) (defScope st) (.ref T) kV doc pm an cdv ct) ⟨us,[]⟩ (ps.zip (us ++ its)))
    (len : ∀ vs H Q E,sp vs H Q E → vs.length = ps.length)
    (hbody : ∀ (f : Addr) (cdv : Value) (A : Around) (outer : List Env) (s : Shared) (H : Hp) (vs : List V) (Q : VK) (E : XK),Room k (A.deeper (envOfC x (defScope st) s.heap.objs.size f cdv)) → sp vs H Q E →
      ∃ t,PSs (cxOf (CXE P w) P w K mg base N x (defScope st) f cdv A outer s H E) (defBody st) t ∧ t { nx := fun _ H' => Q .non H',rt := Q } (start N vs) H) : Fx P w K mg base x ps (k + 1) ds sp := by
  obtain ⟨f,T,oT,n,its,oc,od,kV,doc,pm,an,cdv,ct,osl,hm,lk,hcd,hk,hT,hs,hv⟩ := D.ex
  refine ⟨⟨f,_,its,hm,hk,fun s us KX hl => ?_,fun s us KX hl => hd T kV doc pm an cdv ct us its oT n s hv hl (KX _ _ hT) hs,hv,fn_of lk hcd S len fun A outer s H vs Q E hr hsp => hbody f cdv A outer s H vs Q E hr hsp⟩⟩
  rw [List.append_nil] at hl ⊢
  exact hb T kV doc pm an cdv ct us its oT n s hv hl (KX _ _ hT) hs
theorem Df.fx {P : Program} {w : World} {K : PySem.W.Frag} {mg : Str → Option Value} {base : Heap} {x : Str} {st : Stmt} {N ps : List Str} {k : Nat} {sp : Sp} (D : Df K mg x st) (S : FnScope N ps (defScope st))
    (hbind : ∀ (kV doc pm : Value) (an : Option Addr) (cdv ct : Value) (us : List Value),us.length = ps.length → bindArgs (PySem.W.fnOf x x (defArgs st) (defBody st) (defScope st) .none kV doc pm an cdv ct) ⟨us,[]⟩ = pure (ps.zip us))
    (len : ∀ vs H Q E,sp vs H Q E → vs.length = ps.length)
    (hbody : ∀ (f : Addr) (cdv : Value) (A : Around) (outer : List Env) (s : Shared) (H : Hp) (vs : List V) (Q : VK) (E : XK),Room k (A.deeper (envOfC x (defScope st) s.heap.objs.size f cdv)) → sp vs H Q E →
      ∃ t,PSs (cxOf (CXE P w) P w K mg base N x (defScope st) f cdv A outer s H E) (defBody st) t ∧ t { nx := fun _ H' => Q .non H',rt := Q } (start N vs) H) : Fx P w K mg base x ps (k + 1) [] sp := by
  obtain ⟨f,oc,od,kV,doc,pm,an,cdv,ct,osl,hm,lk,hcd,hk⟩ := D.ex
  have hb : Binds K (PySem.W.fnOf x x (defArgs st) (defBody st) (defScope st) .none kV doc pm an cdv ct) ps [] := .all (hbind kV doc pm an cdv ct)
  exact ⟨⟨f,_,[],hm,hk,hb,hb,.nil,fn_of lk hcd S len fun A outer s H vs Q E hr hsp => hbody f cdv A outer s H vs Q E hr hsp⟩⟩
theorem pe_fx {P : Program} {w : World} {K : PySem.W.Frag} {mg : Str → Option Value} {base : Heap} {N : List Str} {qual : Str} {scope : Scope} {f : Addr} {cdv : Value} {A : Around} {outer : List Env} {s₀ : Shared} {H₀ : Hp} {E : XK}
    {x : Str} {ps : List Str} {k : Nat} {ds : List V} {sp : Sp} {p pos : Pos} {e : Expr} {es : List Expr} {t : TA} (F : Fx P w K mg base x ps k ds sp) (hr : Room k (cxOf (CXE P w) P w K mg base N qual scope f cdv A outer s₀ H₀ E).A) (hg : Gl (cxOf (CXE P w) P w K mg base N qual scope f cdv A outer s₀ H₀ E) x)
    (ha : PA (cxOf (CXE P w) P w K mg base N qual scope f cdv A outer s₀ H₀ E) (e :: es) t)
    (hdb : (x == ("__debug__" : Str)) = false := by decide) (he : starEach (e :: es) (cxOf (CXE P w) P w K mg base N qual scope f cdv A outer s₀ H₀ E).env = (false,eval e (cxOf (CXE P w) P w K mg base N qual scope f cdv A outer s₀ H₀ E).env) :: starEach es (cxOf (CXE P w) P w K mg base N qual scope f cdv A outer s₀ H₀ E).env := by rfl)
    (hpl : (backTo pos (starEach es (cxOf (CXE P w) P w K mg base N qual scope f cdv A outer s₀ H₀ E).env)).any (·.1) = false := by rfl) :
    PE (cxOf (CXE P w) P w K mg base N qual scope f cdv A outer s₀ H₀ E) (.Call (.Name x p) (e :: es) [] pos) (tCall sp [] E t) := by
  obtain ⟨g,fd,its,hm,hk,hb,_,_,G⟩ := F.ex
  exact pe_call G hr hg hm hk hb .nil (pass_on fun _ _ _ z => z) ha hdb he hpl
theorem pass_none {P : Program} {w : World} {X : Cx} : Passes (CXE P w) X E0 := fun _ _ _ _ _ _ _ h => by
  obtain ⟨_,_,_,_,_,_,_,_,_,_,_,_,q⟩ := h
  exact q.elim
theorem pe_fx0 {X : Cx} {x : Str} {ps : List Str} {k : Nat} {ds : List V} {sp : Sp} {p pos : Pos} {e : Expr} {es : List Expr} {t : TA} (F : Fx X.prog X.w X.K X.mg X.base x ps k ds sp) (hr : Room k X.A) (hg : Gl X x) (ha : PA X (e :: es) t)
    (hdb : (x == ("__debug__" : Str)) = false := by decide) (he : starEach (e :: es) X.env = (false,eval e X.env) :: starEach es X.env := by rfl) (hpl : (backTo pos (starEach es X.env)).any (·.1) = false := by rfl) :
    PE X (.Call (.Name x p) (e :: es) [] pos) (tCall sp [] E0 t) := by
  obtain ⟨g,fd,its,hm,hk,hb,_,_,G⟩ := F.ex
  exact pe_call G hr hg hm hk hb .nil pass_none ha hdb he hpl
section
variable {X : Cx}
variable {x fn : Str} {i : Nat} {ps : List Str} {k : Nat} {ds : List V} {sp : Sp} {e : Expr} {es : List Expr} {ta : TA} {px pf cpos pos : Pos}
end
end L2
namespace Sp2
open PySem PySem.Spec L2 Mth Sp1
theorem lowV_two {H : Hp} {p : Addr} {a b : Int} (e : H p = some (.tup [.int a,.int b])) : lowV H (.ref p) = lowB a b := by
  simp only [lowV,e,lowL]
theorem low_B {a b : Int} (h : Low a b) : lowB a b = true := by
  unfold lowB
  rw [decide_eq_true h.pos,decide_eq_true h.one]
  rfl
theorem lt64s {n : Int} (h0 : -1000 ≤ n) (h1 : n ≤ 1000) : -(2 ^ 64) < n ∧ n < 2 ^ 64 := by
  have e : (2 : Int) ^ 64 = 18446744073709551616 := by decide
  rw [e]
  omega
theorem at_int {ns : List Int} {k : Int} (j : Nat) (e : k = (j : Int)) (h : j < ns.length) : atI (ns.map V.int) k = some (.int ns[j]) := by
  subst e
  exact atI_nat (by rw [List.getElem?_map,List.getElem?_eq_getElem h]; rfl)
theorem bits_small {n : Int} (h0 : -1000 ≤ n) (h1 : n ≤ 1000) : bits n ≤ 10 := by
  refine bits_of (n := 10) ?_
  show _ < 1024
  omega
end Sp2
namespace L2
open PySem PySem.Spec PyProof.Rows
end L2
namespace L2
open PySem PySem.Spec PyProof.Rows
section
variable {X : Cx} {scope : Scope} {cl : List (Str × Addr)} {x : Str} {fv : List (Str × Nat)} {elt iter : Expr} {px pos : Pos} {te : TE}
end
end L2
namespace L2
open PySem PySem.Spec PyProof.Rows
end L2
namespace L2
open PySem PySem.Spec PyProof.Rows
end L2
namespace L2
open PySem PySem.Spec PyProof.Rows
end L2
namespace L2
open PySem PySem.Spec PyProof.Rows
theorem val_get {xs : List V} {us : List Value} {j : Nat} (r : Vals xs us) (h : j < us.length) : ∃ a,xs[j]? = some a ∧ RelV a us[j] := by
  have hl := r.length
  have hj : j < xs.length := by omega
  obtain ⟨u,e,q⟩ := r.get (i := j) (x := xs[j]) (List.getElem?_eq_getElem hj)
  rw [List.getElem?_eq_getElem h] at e
  cases e
  exact ⟨xs[j],List.getElem?_eq_getElem hj,q⟩
section
variable {X : Cx} {pins : List (Addr × Obj)} {σ : St} {H : Hp} {s : Shared}
end
end L2
namespace L2
open PySem
theorem Room.units10 {k : Nat} {A : Around} (r : Room k A) : A.units + 10 < cLine := by have := r.un; omega
end L2
namespace L2
open PySem PySem.Spec PyProof.Rows
def CPX (i j : Int) : Prop := 0 ≤ j ∧ (Builtin.Int.intBits i : Int) * j ≤ 2 ^ 27
theorem op_powX {X : Cx} : OpR X (binaryOp .Pow) (rI CPX fun i j => .int (i ^ j.toNat)) := opI fun _ _ _ _ _ _ _ hc q => pow_int hc.1 hc.2 q
theorem cpx2 {i : Int} {n : Nat} (h : bits i ≤ n) (hn : n ≤ 100000) : CPX i 2 := ⟨by decide,by
  have e : (2 : Int) ^ 27 = 134217728 := by decide
  have h' : Builtin.Int.intBits i ≤ n := h
  rw [e]
  omega⟩
end L2
namespace Sp3
open PySem PySem.Spec L2 Mth Sp1 Sp2
end Sp3
namespace Sp3
open PySem PySem.Spec L2 Mth Sp1 Sp2
end Sp3
namespace PySem
open Sem (wp)
section
variable {prog : Program} {w : World} {A : Around} {E : Value → Shared → Prop} {h : Heap} {g : Array GenState} {d : Drawn} {t : Nat} {os : OsState} {a : Addr} {o : Obj}
  {nm q : Str} {C N : Addr} {bs bm : List Value} {hdct : Bool} {sn : List Str} {sub : List Value} {ab : Bool} {col : Option Bool} {dd : Option Addr} {k0 k1 k2 k3 k5 : Option Value} {newId : String}
end
end PySem
namespace L2
open PySem PySem.Spec PyProof.Rows
section
variable {X : Cx}
end
section
variable {X : Cx} {pins : List (Addr × Obj)} {σ : St} {H : Hp} {s : Shared}
end
section
variable {X : Cx}
end
end L2
namespace Sp8
open PySem PySem.Spec L2 Mth Sp1 Sp2 Sp3
end Sp8
namespace L2
open PySem PySem.Spec PyProof.Rows
end L2
namespace Sp24
open PySem PySem.Spec L2 Mth Sp1 Sp2 Sp3 Sp8
def sg (n : Int) : Int := if n > 0 then 1 else if n < 0 then -1 else 0
def ssq (n : Int) : Int := n * (if n < 0 then -n else n)
def swr (w p u : Int) : Int := sg (ssq w + ssq p * u)
def swrs (w p u s b : Int) : Int := if sg w * sg (ssq p * u + ssq s * b) ≥ 0 then sg (sg w + sg (ssq p * u + ssq s * b)) else sg w * swr (w * w - p * p * u - s * s * b) (-2 * p * s) (u * b)
def ro (a0 a1 a2 a3 b0 b1 b2 b3 : Int) : Int := swrs (a0 * b3 - b0 * a3) (a1 * b3) a2 (-b1 * a3) b2
theorem sg_small (n : Int) : -1 ≤ sg n ∧ sg n ≤ 1 := by
  unfold sg
  split
  · omega
  · split <;> omega
theorem sg_bits (n : Int) : bits (sg n) ≤ 10 := bits_small (by have := sg_small n; omega) (by have := sg_small n; omega)
theorem ssq_bits {n : Int} {k : Nat} (h : bits n ≤ k) : bits (ssq n) ≤ k + k := bits_mul h (bits_abs h)
inductive spSign (vs : List V) (H : Hp) (Q : VK) (x_3 : XK) : Prop
  | mk : ∀ n : Int,(vs = [.int n]) → (Q (.int (sg n)) H) → spSign vs H Q x_3
inductive spSsq (vs : List V) (H : Hp) (Q : VK) (x_3 : XK) : Prop
  | mk : ∀ n : Int,(vs = [.int n]) → (bits n ≤ 20000) → (Q (.int (ssq n)) H) → spSsq vs H Q x_3
inductive spSwr (vs : List V) (H : Hp) (Q : VK) (x_3 : XK) : Prop
  | mk : ∀ w p u : Int,(vs = [.int w,.int p,.int u]) → ((bits w ≤ 8000 ∧ bits p ≤ 8000 ∧ bits u ≤ 8000)) → (Q (.int (swr w p u)) H) → spSwr vs H Q x_3
inductive spSwrs (vs : List V) (H : Hp) (Q : VK) (x_3 : XK) : Prop
  | mk : ∀ w p u s b : Int,(vs = [.int w,.int p,.int u,.int s,.int b]) → ((bits w ≤ 1000 ∧ bits p ≤ 1000 ∧ bits u ≤ 1000 ∧ bits s ≤ 1000 ∧ bits b ≤ 1000)) → (Q (.int (swrs w p u s b)) H) → spSwrs vs H Q x_3
structure Rt (K : PySem.W.Frag) (H : Hp) (p : Addr) (a0 a1 a2 a3 : Int) : Prop where
  at_ : SqT K H p [.int a0,.int a1,.int a2,.int a3]
  b0 : bits a0 ≤ 450
  b1 : bits a1 ≤ 450
  b2 : bits a2 ≤ 1000
  b3 : bits a3 ≤ 450
inductive spRo (K : PySem.W.Frag) (vs : List V) (H : Hp) (Q : VK) (x_3 : XK) : Prop
  | mk : ∀ (p q : Addr) (a0 a1 a2 a3 b0 b1 b2 b3 : Int),(vs = [.ref p,.ref q]) → (Rt K H p a0 a1 a2 a3) → (Rt K H q b0 b1 b2 b3) → (Q (.int (ro a0 a1 a2 a3 b0 b1 b2 b3)) H) → spRo K vs H Q x_3
end Sp24
namespace L2
open PySem PySem.Spec PyProof.Rows
end L2
namespace Sp7
open PySem PySem.Spec L2 Mth Sp1 Sp2 Sp3
end Sp7
namespace L2
open PySem PySem.Spec PyProof.Rows
theorem dec_t {p : Prop} [Decidable p] (h : decide p = true) : p := of_decide_eq_true h
theorem dec_f {p : Prop} [Decidable p] (h : decide p = false) : ¬ p := of_decide_eq_false h
theorem CM.of {i j : Int} {m n : Nat} (hi : bits i ≤ m) (hj : bits j ≤ n) (h : m ≤ 1000000 ∧ n ≤ 1000000) : CM i j := CM.b hi hj (by have : (2:Nat) ^ 20 = 1048576 := by decide
                                                                                                                                     omega) (by have : (2:Nat) ^ 20 = 1048576 := by decide
                                                                                                                                                omega)
end L2
namespace L2
open PySem PySem.Spec PyProof.Rows
section
variable {X : Cx} {scope : Scope} {cl : List (Str × Addr)} {x : Str} {fv : List (Str × Nat)} {elt iter : Expr} {px pos : Pos} {te : TE}
end
end L2
namespace L2
open PySem PySem.Spec PyProof.Rows
section
variable {X : Cx} {pos : Pos} {es : List Expr} {ta : TA}
inductive newO (f : List V → HO) (xs : List V) (H1 : Hp) (Q : VK) : Prop
  | mk (z : xs.length ≤ sizeLine) (q : ∀ p H2,Same H1 H2 → H2 p = some (f xs) → H1 p = none → Q (.ref p) H2) : newO f xs H1 Q
def tTupA (t : TA) : TE := fun σ H Q => t σ H fun xs H1 => newO .tup xs H1 Q
def tLstA (t : TA) : TE := fun σ H Q => t σ H fun xs H1 => newO .lst xs H1 Q
theorem pe_tupA {x1} (h : PA X es ta) : PE X (.Tuple es x1 pos) (tTupA ta) := by
  intro pins s σ H Q I hq
  refine wpAny_Tuple_spliced (thn (h pos pins s σ H _ I hq) fun us s1 ⟨xs,H1,I1,r,z,q⟩ => ⟨by rw [← r.length]; exact z,?_⟩)
  have hf : H1 s1.heap.objs.size = none := I1.hok.fresh (Nat.le_refl _)
  refine ⟨.ref s1.heap.objs.size,upd H1 s1.heap.objs.size (.tup xs),I1.laid (t' := s1.toks) (fun b u e => Heap.get?_push_of_some _ e) (Nat.le_refl _) ?_,rfl,q _ _ (Same.new hf) upd_same hf⟩
  exact ⟨z,us,r,⟨_,Heap.get?_push_size _ rfl,rfl,_,rfl⟩⟩
theorem pe_lstA (h : PA X es ta) : PE X (.List es pos) (tLstA ta) := by
  intro pins s σ H Q I hq
  refine wpAny_List_spliced (thn (h pos pins s σ H _ I hq) fun us s1 ⟨xs,H1,I1,r,z,q⟩ => ⟨by rw [← r.length]; exact z,?_⟩)
  have hf : H1 s1.heap.objs.size = none := I1.hok.fresh (Nat.le_refl _)
  refine ⟨.ref s1.heap.objs.size,upd H1 s1.heap.objs.size (.lst xs),I1.laid (t' := s1.toks) (fun b u e => Heap.get?_push_of_some _ e) (Nat.le_refl _) ?_,rfl,q _ _ (Same.new hf) upd_same hf⟩
  exact ⟨z,us,0,r,Heap.get?_push_size _ rfl⟩
inductive rSlLA (K : PySem.W.Frag) (x : V) (lo : Option Int) (hi : Option Int) (H : Hp) (Q : VK) : Prop
  | mk : ∀ a xs,(x = .ref a) → (SqL K H a xs) → (∀ p H2,Same H H2 → H2 p = some (.lst (cutV xs lo hi)) → H p = none → Q (.ref p) H2) → rSlLA K x lo hi H Q
theorem sl_listA : SlR X (rSlLA X.K) := fun pins s σ H x v vl vu lo hi sl Q I rx hs pl pu ⟨a,xs,e,hx,q⟩ =>
  sl_list pins s σ H x v vl vu lo hi sl Q I rx hs pl pu ⟨a,xs,e,hx,fun p hp => q p _ (Same.new hp) upd_same hp⟩
inductive rCatA (x : V) (y : V) (H : Hp) (Q : VK) : Prop
  | mk : ∀ l b xs zs,(x = .ref l) → (y = .ref b) → (H l = some (.lst xs)) → (H b = some (.lst zs)) → (xs.length + zs.length ≤ sizeLine) → (∀ p H2,Same H H2 → H2 p = some (.lst (xs ++ zs)) → H p = none → Q (.ref p) H2) → rCatA x y H Q
theorem op_catA : OpR X (binaryOp .Add) rCatA := fun pins s σ H x y v u Q I rx ry ⟨l,b,xs,zs,e1,e2,h1,h2,hz,q⟩ =>
  op_cat pins s σ H x y v u Q I rx ry ⟨l,b,xs,zs,e1,e2,h1,h2,hz,fun p hp => q p _ (Same.new hp) upd_same hp⟩
structure Upd (H H' : Hp) (l : Addr) (xs ys : List V) : Prop where
  was : H l = some (.lst xs)
  now : H' l = some (.lst ys)
  oth : ∀ b,b ≠ l → H' b = H b
theorem Upd.mk' {H : Hp} {l : Addr} {xs ys : List V} (h : H l = some (.lst xs)) : Upd H (L2.upd H l (.lst ys)) l xs ys := ⟨h,upd_same,fun _ n => upd_ne n⟩
theorem Upd.same {H0 H H' : Hp} {l : Addr} {xs ys : List V} (u : Upd H H' l xs ys) (s : Same H0 H) (h : H0 l = none) : Same H0 H' := fun b o e => by
  rw [u.oth b (ne_of_none e h)]
  exact s b o e
inductive rAppendA (x : V) (vs : List V) (H : Hp) (Q : VK) : Prop
  | mk : ∀ l xs y,(x = .ref l) → (vs = [y]) → (H l = some (.lst xs)) → (xs.length < sizeLine) → (∀ H',Upd H H' l xs (xs ++ [y]) → Q .non H') → rAppendA x vs H Q
theorem mt_appendA : MtM X "list.append" rAppendA := fun pins s σ H x xs v us Q I rx rs ⟨l,ys,y,e1,e2,h,hz,q⟩ =>
  mt_append pins s σ H x xs v us Q I rx rs ⟨l,ys,y,e1,e2,h,hz,q _ (.mk' h)⟩
end
end L2
namespace L2
open PySem PySem.Spec PyProof.Rows
theorem cells_int {ss : List Int} {lo hi : Option Int} {n : Int} {o : V} {i : Nat} (h : (cutV (ss.map V.int) lo hi ++ [V.int n])[i]? = some o) : ∃ c,o = V.int c := by
  have hm := List.mem_of_getElem? h
  rcases List.mem_append.mp hm with hm | hm
  · obtain ⟨c,_,e⟩ := List.mem_map.mp (mem_cutV hm)
    exact ⟨c,e.symm⟩
  · exact ⟨_,List.mem_singleton.mp hm⟩
theorem cells_len {ss : List Int} {lo hi : Option Int} {n : Int} (h : ss.length ≤ 63) : (cutV (ss.map V.int) lo hi).length + [V.int n].length ≤ sizeLine := by
  have lcut := cutV_length (ss.map V.int) lo hi
  rw [List.length_map] at lcut
  exact Sp1.sz (by show _ + 1 ≤ 1000; omega)
theorem len3 {α : Type} {xs : List α} (h : xs.length = 3) : ∃ a b c,xs = [a,b,c] := match xs,h with | [a,b,c],_ => ⟨a,b,c,rfl⟩
theorem len2 {α : Type} {xs : List α} (h : xs.length = 2) : ∃ a b,xs = [a,b] := match xs,h with | [a,b],_ => ⟨a,b,rfl⟩
theorem len4 {α : Type} {xs : List α} (h : xs.length = 4) : ∃ a b c d,xs = [a,b,c,d] := match xs,h with | [a,b,c,d],_ => ⟨a,b,c,d,rfl⟩
theorem len5 {α : Type} {xs : List α} (h : xs.length = 5) : ∃ a b c d e,xs = [a,b,c,d,e] := match xs,h with | [a,b,c,d,e],_ => ⟨a,b,c,d,e,rfl⟩
theorem len6 {α : Type} {xs : List α} (h : xs.length = 6) : ∃ a b c d e f,xs = [a,b,c,d,e,f] := match xs,h with | [a,b,c,d,e,f],_ => ⟨a,b,c,d,e,f,rfl⟩
end L2
namespace L2
open PySem PySem.Spec PyProof.Rows
section
variable {X : Cx} {pins : List (Addr × Obj)} {σ : St} {H : Hp} {s : Shared}
end
section
variable {X : Cx} {elts : List Expr} {kt : Nat} {tpos : Pos}
end
end L2
namespace L2
open PySem PySem.Spec PyProof.Rows
inductive D where
  | non | bl (b : Bool) | int (i : Int) | str (x : Str) | tup (ds : List D) | lst (ds : List D)
inductive Rp (H : Hp) : Nat → V → D → Prop where
  | non {n : Nat} : Rp H n .non .non
  | bl {n : Nat} {b : Bool} : Rp H n (.bl b) (.bl b)
  | int {n : Nat} {i : Int} : Rp H n (.int i) (.int i)
  | str {n : Nat} {x : Str} : Rp H n (.str x) (.str x)
  | tup {n : Nat} {p : Addr} {xs : List V} {ds : List D} (e : H p = some (.tup xs)) (hl : xs.length = ds.length) (h : ∀ (j : Nat) x d,xs[j]? = some x → ds[j]? = some d → Rp H n x d) : Rp H (n + 1) (.ref p) (.tup ds)
  | lst {n : Nat} {p : Addr} {xs : List V} {ds : List D} (e : H p = some (.lst xs)) (hl : xs.length = ds.length) (h : ∀ (j : Nat) x d,xs[j]? = some x → ds[j]? = some d → Rp H n x d) : Rp H (n + 1) (.ref p) (.lst ds)
mutual
def deq : D → D → Bool
  | .non,.non => true
  | .bl a,.bl b => a == b
  | .bl a,.int b => (if a then 1 else 0) == b
  | .int a,.bl b => a == (if b then 1 else 0)
  | .int a,.int b => a == b
  | .str a,.str b => a == b
  | .tup xs,.tup ys => deqs xs ys
  | .lst xs,.lst ys => deqs xs ys
  | _,_ => false
def deqs : List D → List D → Bool
  | [],[] => true
  | x :: xs,y :: ys => deq x y && deqs xs ys
  | _,_ => false
end
theorem deqs_all : ∀ (ds es : List D),((List.range (min ds.length es.length)).all (fun j => deq (ds.getD j .non) (es.getD j .non)) && ds.length == es.length) = deqs ds es
  | [],[] => by simp [deqs]
  | [],e :: es => by simp [deqs]
  | d :: ds,[] => by simp [deqs]
  | d :: ds,e :: es => by
    have ih := deqs_all ds es
    have hm : min (d :: ds).length (e :: es).length = min ds.length es.length + 1 := by simp only [List.length_cons]; omega
    rw [hm,List.range_succ_eq_map,List.all_cons,List.all_map]
    simp only [deqs,List.getD_cons_zero,List.length_cons]
    rw [← ih,Bool.and_assoc]
    congr 1
    simp [Function.comp_def]
theorem deqs_len {ds es : List D} (h : ds.length ≠ es.length) : deqs ds es = false := by
  rw [← deqs_all]
  simp [h]
theorem deqs_all' {ds es : List D} (h : ds.length = es.length) : (List.range ds.length).all (fun j => deq (ds.getD j .non) (es.getD j .non)) = deqs ds es := by
  rw [← deqs_all,h]
  simp
theorem deqs_of {ds es : List D} (hl : ds.length = es.length) (h : ∀ (j : Nat) d e,ds[j]? = some d → es[j]? = some e → deq d e = true) : deqs ds es = true := by
  rw [← deqs_all' hl,List.all_eq_true]
  intro j hj
  have hj' : j < ds.length := List.mem_range.mp hj
  have hj2 : j < es.length := by omega
  have e1 : ds[j]? = some ds[j] := List.getElem?_eq_getElem hj'
  have e2 : es[j]? = some es[j] := List.getElem?_eq_getElem hj2
  rw [List.getD_eq_getElem?_getD,List.getD_eq_getElem?_getD,e1,e2]
  exact h j _ _ e1 e2
theorem get_of_len {α β : Type} {xs : List α} {ds : List β} {j : Nat} {d : β} (hl : xs.length = ds.length) (h : ds[j]? = some d) : ∃ x,xs[j]? = some x := by
  have := (List.getElem?_eq_some_iff.mp h).1
  exact ⟨xs[j],List.getElem?_eq_getElem (by omega)⟩
theorem Rp.self {H : Hp} {n m : Nat} {v : V} {d e : D} (r : Rp H n v d) (q : Rp H m v e) : deq d e = true := by
  induction r generalizing m e with
  | non => cases q; rfl
  | bl => cases q; simp [deq]
  | int => cases q; simp [deq]
  | str => cases q; simp [deq]
  | tup e1 hl h ih =>
    cases q with
    | tup e2 hl2 h2 =>
      rw [e1] at e2
      cases e2
      refine deqs_of (by omega) fun j a b ea eb => ?_
      obtain ⟨x,hx⟩ := get_of_len hl ea
      exact ih j x a hx ea (h2 j x b hx eb)
    | lst e2 hl2 h2 => rw [e1] at e2; cases e2
  | lst e1 hl h ih =>
    cases q with
    | tup e2 hl2 h2 => rw [e1] at e2; cases e2
    | lst e2 hl2 h2 =>
      rw [e1] at e2
      cases e2
      refine deqs_of (by omega) fun j a b ea eb => ?_
      obtain ⟨x,hx⟩ := get_of_len hl ea
      exact ih j x a hx ea (h2 j x b hx eb)
section
variable {X : Cx} {pins : List (Addr × Obj)} {σ : St} {H : Hp} {s : Shared}
theorem elts_at {A : Around} {xs ys : List V} {us ws : List Value} {ds es : List D} (r : Vals xs us) (r' : Vals ys ws) (hl : xs.length = ds.length) (hl' : ys.length = es.length)
    (h : ∀ (j : Nat) x y d e u w,xs[j]? = some x → ys[j]? = some y → ds[j]? = some d → es[j]? = some e → RelV x u → RelV y w → SeqAt.EqAt A s u w (deq d e))
    (j : Nat) (h1 : j < us.toArray.size) (h2 : j < ws.toArray.size) : SeqAt.EqAt A s us.toArray[j] ws.toArray[j] (deq (ds.getD j .non) (es.getD j .non)) := by
  rw [List.size_toArray] at h1 h2
  obtain ⟨a,ea,ra⟩ := val_get r h1
  obtain ⟨c,ec,rc⟩ := val_get r' h2
  have g1 := (List.getElem?_eq_some_iff.mp ea).1
  have g2 := (List.getElem?_eq_some_iff.mp ec).1
  have e1 : ds[j]? = some ds[j] := List.getElem?_eq_getElem (by omega)
  have e2 : es[j]? = some es[j] := List.getElem?_eq_getElem (by omega)
  rw [List.getD_eq_getElem?_getD,List.getD_eq_getElem?_getD,e1,e2]
  exact h j a c _ _ _ _ ea ec e1 e2 ra rc
theorem Rp.eqAt {n : Nat} {x : V} {d : D} (r : Rp H n x d) : ∀ {m : Nat} {y : V} {e : D} {A : Around} {u v : Value},Rp H m y e → Inv X pins σ H s → RelV x u → RelV y v → A.units + n < cLine → SeqAt.EqAt A s u v (deq d e) := by
  induction r with
  | non =>
    intro m y e A u v q I ru rv hu
    cases ru
    cases q with
    | non => cases rv; exact SeqAt.EqAt.same _
    | bl => cases rv; exact SeqAt.EqAt.none_bool _
    | int => obtain ⟨_,rfl⟩ := rv; exact SeqAt.EqAt.none_int _ _
    | str => obtain ⟨_,rfl⟩ := rv; exact SeqAt.EqAt.none_str _ _
    | tup e1 hl h => cases rv; obtain ⟨its,_,pl,_⟩ := I.tuple (SqT.of e1); exact SeqAt.EqAt.none_tuple pl (by omega)
    | lst e1 hl h => cases rv; obtain ⟨its,_,pl,_⟩ := I.list (SqL.of e1); exact SeqAt.EqAt.none_list pl.isList (by omega)
  | bl =>
    intro m y e A u v q I ru rv hu
    cases ru
    cases q with
    | non => cases rv; exact SeqAt.EqAt.bool_none _
    | bl => cases rv; exact SeqAt.EqAt.bool_bool _ _
    | int => obtain ⟨_,rfl⟩ := rv; exact SeqAt.EqAt.bool_int _ _ _
    | str => obtain ⟨_,rfl⟩ := rv; exact SeqAt.EqAt.bool_str _ _ _
    | tup e1 hl h => cases rv; obtain ⟨its,_,pl,_⟩ := I.tuple (SqT.of e1); exact SeqAt.EqAt.bool_tuple _ pl (by omega)
    | lst e1 hl h => cases rv; obtain ⟨its,_,pl,_⟩ := I.list (SqL.of e1); exact SeqAt.EqAt.bool_list _ pl.isList (by omega)
  | int =>
    intro m y e A u v q I ru rv hu
    obtain ⟨_,rfl⟩ := ru
    cases q with
    | non => cases rv; exact SeqAt.EqAt.int_none _ _
    | bl => cases rv; exact SeqAt.EqAt.int_bool _ _ _
    | int => obtain ⟨_,rfl⟩ := rv; exact SeqAt.EqAt.int_int _ _ _ _
    | str => obtain ⟨_,rfl⟩ := rv; exact SeqAt.EqAt.int_str _ _ _ _
    | tup e1 hl h => cases rv; obtain ⟨its,_,pl,_⟩ := I.tuple (SqT.of e1); exact SeqAt.EqAt.int_tuple _ _ pl (by omega)
    | lst e1 hl h => cases rv; obtain ⟨its,_,pl,_⟩ := I.list (SqL.of e1); exact SeqAt.EqAt.int_list _ _ pl.isList (by omega)
  | str =>
    intro m y e A u v q I ru rv hu
    obtain ⟨_,rfl⟩ := ru
    cases q with
    | non => cases rv; exact SeqAt.EqAt.str_none _ _
    | bl => cases rv; exact SeqAt.EqAt.str_bool _ _ _
    | int => obtain ⟨_,rfl⟩ := rv; exact SeqAt.EqAt.str_int _ _ _ _
    | str => obtain ⟨_,rfl⟩ := rv; exact SeqAt.EqAt.str_str _ _ _ _
    | tup e1 hl h => cases rv; obtain ⟨its,_,pl,_⟩ := I.tuple (SqT.of e1); exact SeqAt.EqAt.str_tuple _ _ pl (by omega)
    | lst e1 hl h => cases rv; obtain ⟨its,_,pl,_⟩ := I.list (SqL.of e1); exact SeqAt.EqAt.str_list _ _ pl.isList (by omega)
  | @tup n p xs ds e0 hl h ih =>
    intro m y e A u v q I ru rv hu
    cases ru
    obtain ⟨its,r1,pl,_⟩ := I.tuple (SqT.of e0)
    cases q with
    | non => cases rv; exact SeqAt.EqAt.tuple_none pl (by omega)
    | bl => cases rv; exact SeqAt.EqAt.tuple_bool _ pl (by omega)
    | int => obtain ⟨_,rfl⟩ := rv; exact SeqAt.EqAt.tuple_int _ _ pl (by omega)
    | str => obtain ⟨_,rfl⟩ := rv; exact SeqAt.EqAt.tuple_str _ _ pl (by omega)
    | lst e1 hl1 h1 => cases rv; obtain ⟨jts,_,pl',_⟩ := I.list (SqL.of e1); exact SeqAt.EqAt.tuple_list pl pl'.isList (by omega)
    | @tup m p' ys es e1 hl1 h1 =>
      cases rv
      by_cases hne : p = p'
      · subst hne
        have z : deq (.tup ds) (.tup es) = true := Rp.self (Rp.tup e0 hl h) (Rp.tup e1 hl1 h1)
        rw [z]
        exact SeqAt.EqAt.same _
      · obtain ⟨jts,r2,pl',_⟩ := I.tuple (SqT.of e1)
        have y := SeqAt.RcAt.tuples (A := A) (e := fun j => deq (ds.getD j .non) (es.getD j .non)) pl pl' (by omega) (elts_at r1 r2 hl hl1 fun j x y d e u w a b c k ra rb => ih j x d a c (h1 j y e b k) I ra rb (by show A.units + 1 + n < cLine; omega))
        rw [List.size_toArray,List.size_toArray,← r1.length,← r2.length,hl,hl1,deqs_all] at y
        exact SeqAt.EqAt.of_refs hne y
  | @lst n p xs ds e0 hl h ih =>
    intro m y e A u v q I ru rv hu
    cases ru
    obtain ⟨its,r1,pl,_⟩ := I.list (SqL.of e0)
    cases q with
    | non => cases rv; exact SeqAt.EqAt.list_none pl.isList (by omega)
    | bl => cases rv; exact SeqAt.EqAt.list_bool _ pl.isList (by omega)
    | int => obtain ⟨_,rfl⟩ := rv; exact SeqAt.EqAt.list_int _ _ pl.isList (by omega)
    | str => obtain ⟨_,rfl⟩ := rv; exact SeqAt.EqAt.list_str _ _ pl.isList (by omega)
    | tup e1 hl1 h1 => cases rv; obtain ⟨jts,_,pl',_⟩ := I.tuple (SqT.of e1); exact SeqAt.EqAt.list_tuple pl.isList pl' (by omega)
    | @lst m p' ys es e1 hl1 h1 =>
      cases rv
      by_cases hne : p = p'
      · subst hne
        have z : deq (.lst ds) (.lst es) = true := Rp.self (Rp.lst e0 hl h) (Rp.lst e1 hl1 h1)
        rw [z]
        exact SeqAt.EqAt.same _
      · obtain ⟨jts,r2,pl',_⟩ := I.list (SqL.of e1)
        have g1 := r1.length
        have g2 := r2.length
        by_cases hz : ds.length = es.length
        · have y := SeqAt.RcAt.lists (A := A) (e := fun j => deq (ds.getD j .non) (es.getD j .non)) pl.isList pl'.isList (by rw [List.size_toArray,List.size_toArray]; omega) (by omega) (elts_at r1 r2 hl hl1 fun j x y d e u w a b c k ra rb => ih j x d a c (h1 j y e b k) I ra rb (by show A.units + 1 + n < cLine; omega))
          rw [List.size_toArray,← r1.length,hl,deqs_all' hz] at y
          exact SeqAt.EqAt.of_refs hne y
        · rw [show deq (.lst ds) (.lst es) = false from deqs_len hz]
          exact SeqAt.EqAt.of_refs hne (SeqAt.RcAt.lists_lengths pl.isList pl'.isList (by rw [List.size_toArray,List.size_toArray]; simp; omega) (by omega))
end
end L2
namespace L2
open PySem PySem.Spec PyProof.Rows
section
variable {X : Cx} {pins : List (Addr × Obj)} {σ : St} {H : Hp} {s : Shared}
theorem Rp.rcNeAt {A : Around} {n m : Nat} {x y : V} {d e : D} {u v : Value} (r : Rp H n x d) (q : Rp H m y e) (I : Inv X pins σ H s) (ru : RelV x u) (rv : RelV y v) (hu : A.units + n + 1 < cLine) : SeqAt.RcNeAt A s u v (!(deq d e)) := by
  cases r with
  | non =>
    cases q with
    | non =>
      cases ru
      cases rv
      exact SeqAt.RcNeAt.none_none
    | bl =>
      cases ru
      cases rv
      exact SeqAt.RcNeAt.none_bool _
    | int =>
      cases ru
      obtain ⟨_,rfl⟩ := rv
      exact SeqAt.RcNeAt.none_int _ _
    | str =>
      cases ru
      obtain ⟨_,rfl⟩ := rv
      exact SeqAt.RcNeAt.none_str _ _
    | @tup m p' ys es e1 hl1 h1 =>
      cases ru
      cases rv
      obtain ⟨jts,r2,pl',_⟩ := I.tuple (SqT.of e1)
      exact SeqAt.RcNeAt.none_tuple pl' (by omega)
    | @lst m p' ys es e1 hl1 h1 =>
      cases ru
      cases rv
      obtain ⟨jts,r2,pl',_⟩ := I.list (SqL.of e1)
      exact SeqAt.RcNeAt.none_list pl'.isList (by omega)
  | bl =>
    cases q with
    | non =>
      cases ru
      cases rv
      exact SeqAt.RcNeAt.bool_none _
    | bl =>
      cases ru
      cases rv
      exact SeqAt.RcNeAt.bool_bool _ _
    | int =>
      cases ru
      obtain ⟨_,rfl⟩ := rv
      exact SeqAt.RcNeAt.bool_int _ _ _
    | str =>
      cases ru
      obtain ⟨_,rfl⟩ := rv
      exact SeqAt.RcNeAt.bool_str _ _ _
    | @tup m p' ys es e1 hl1 h1 =>
      cases ru
      cases rv
      obtain ⟨jts,r2,pl',_⟩ := I.tuple (SqT.of e1)
      exact SeqAt.RcNeAt.bool_tuple _ pl' (by omega)
    | @lst m p' ys es e1 hl1 h1 =>
      cases ru
      cases rv
      obtain ⟨jts,r2,pl',_⟩ := I.list (SqL.of e1)
      exact SeqAt.RcNeAt.bool_list _ pl'.isList (by omega)
  | int =>
    cases q with
    | non =>
      obtain ⟨_,rfl⟩ := ru
      cases rv
      exact SeqAt.RcNeAt.int_none _ _
    | bl =>
      obtain ⟨_,rfl⟩ := ru
      cases rv
      exact SeqAt.RcNeAt.int_bool _ _ _
    | int =>
      obtain ⟨_,rfl⟩ := ru
      obtain ⟨_,rfl⟩ := rv
      exact SeqAt.RcNeAt.int_int _ _ _ _
    | str =>
      obtain ⟨_,rfl⟩ := ru
      obtain ⟨_,rfl⟩ := rv
      exact SeqAt.RcNeAt.int_str _ _ _ _
    | @tup m p' ys es e1 hl1 h1 =>
      obtain ⟨_,rfl⟩ := ru
      cases rv
      obtain ⟨jts,r2,pl',_⟩ := I.tuple (SqT.of e1)
      exact SeqAt.RcNeAt.int_tuple _ _ pl' (by omega)
    | @lst m p' ys es e1 hl1 h1 =>
      obtain ⟨_,rfl⟩ := ru
      cases rv
      obtain ⟨jts,r2,pl',_⟩ := I.list (SqL.of e1)
      exact SeqAt.RcNeAt.int_list _ _ pl'.isList (by omega)
  | str =>
    cases q with
    | non =>
      obtain ⟨_,rfl⟩ := ru
      cases rv
      exact SeqAt.RcNeAt.str_none _ _
    | bl =>
      obtain ⟨_,rfl⟩ := ru
      cases rv
      exact SeqAt.RcNeAt.str_bool _ _ _
    | int =>
      obtain ⟨_,rfl⟩ := ru
      obtain ⟨_,rfl⟩ := rv
      exact SeqAt.RcNeAt.str_int _ _ _ _
    | str =>
      obtain ⟨_,rfl⟩ := ru
      obtain ⟨_,rfl⟩ := rv
      exact SeqAt.RcNeAt.str_str _ _ _ _
    | @tup m p' ys es e1 hl1 h1 =>
      obtain ⟨_,rfl⟩ := ru
      cases rv
      obtain ⟨jts,r2,pl',_⟩ := I.tuple (SqT.of e1)
      exact SeqAt.RcNeAt.str_tuple _ _ pl' (by omega)
    | @lst m p' ys es e1 hl1 h1 =>
      obtain ⟨_,rfl⟩ := ru
      cases rv
      obtain ⟨jts,r2,pl',_⟩ := I.list (SqL.of e1)
      exact SeqAt.RcNeAt.str_list _ _ pl'.isList (by omega)
  | @tup n p xs ds e0 hl h =>
    cases q with
    | non =>
      cases ru
      cases rv
      obtain ⟨its,r1,pl,_⟩ := I.tuple (SqT.of e0)
      exact SeqAt.RcNeAt.tuple_none pl (by omega)
    | bl =>
      cases ru
      cases rv
      obtain ⟨its,r1,pl,_⟩ := I.tuple (SqT.of e0)
      exact SeqAt.RcNeAt.tuple_bool _ pl (by omega)
    | int =>
      cases ru
      obtain ⟨_,rfl⟩ := rv
      obtain ⟨its,r1,pl,_⟩ := I.tuple (SqT.of e0)
      exact SeqAt.RcNeAt.tuple_int _ _ pl (by omega)
    | str =>
      cases ru
      obtain ⟨_,rfl⟩ := rv
      obtain ⟨its,r1,pl,_⟩ := I.tuple (SqT.of e0)
      exact SeqAt.RcNeAt.tuple_str _ _ pl (by omega)
    | @tup m p' ys es e1 hl1 h1 =>
      cases ru
      cases rv
      obtain ⟨its,r1,pl,_⟩ := I.tuple (SqT.of e0)
      obtain ⟨jts,r2,pl',_⟩ := I.tuple (SqT.of e1)
      have y := SeqAt.RcNeAt.tuples (A := A) (e := fun j => deq (ds.getD j .non) (es.getD j .non)) pl pl' (by omega) (elts_at r1 r2 hl hl1 fun j x y d e u w a b c k ra rb => (h j x d a c).eqAt (h1 j y e b k) I ra rb (by show A.units + 1 + _ < cLine; omega))
      rw [List.size_toArray,List.size_toArray,← r1.length,← r2.length,hl,hl1,deqs_all] at y
      exact y
    | @lst m p' ys es e1 hl1 h1 =>
      cases ru
      cases rv
      obtain ⟨its,r1,pl,_⟩ := I.tuple (SqT.of e0)
      obtain ⟨jts,r2,pl',_⟩ := I.list (SqL.of e1)
      exact SeqAt.RcNeAt.tuple_list pl pl'.isList (by omega)
  | @lst n p xs ds e0 hl h =>
    cases q with
    | non =>
      cases ru
      cases rv
      obtain ⟨its,r1,pl,_⟩ := I.list (SqL.of e0)
      exact SeqAt.RcNeAt.list_none pl.isList (by omega)
    | bl =>
      cases ru
      cases rv
      obtain ⟨its,r1,pl,_⟩ := I.list (SqL.of e0)
      exact SeqAt.RcNeAt.list_bool _ pl.isList (by omega)
    | int =>
      cases ru
      obtain ⟨_,rfl⟩ := rv
      obtain ⟨its,r1,pl,_⟩ := I.list (SqL.of e0)
      exact SeqAt.RcNeAt.list_int _ _ pl.isList (by omega)
    | str =>
      cases ru
      obtain ⟨_,rfl⟩ := rv
      obtain ⟨its,r1,pl,_⟩ := I.list (SqL.of e0)
      exact SeqAt.RcNeAt.list_str _ _ pl.isList (by omega)
    | @tup m p' ys es e1 hl1 h1 =>
      cases ru
      cases rv
      obtain ⟨its,r1,pl,_⟩ := I.list (SqL.of e0)
      obtain ⟨jts,r2,pl',_⟩ := I.tuple (SqT.of e1)
      exact SeqAt.RcNeAt.list_tuple pl.isList pl' (by omega)
    | @lst m p' ys es e1 hl1 h1 =>
      cases ru
      cases rv
      obtain ⟨its,r1,pl,_⟩ := I.list (SqL.of e0)
      obtain ⟨jts,r2,pl',_⟩ := I.list (SqL.of e1)
      have g1 := r1.length
      have g2 := r2.length
      by_cases hz : ds.length = es.length
      · have y := SeqAt.RcNeAt.lists (A := A) (e := fun j => deq (ds.getD j .non) (es.getD j .non)) pl.isList pl'.isList (by rw [List.size_toArray,List.size_toArray]; omega) (by omega) (elts_at r1 r2 hl hl1 fun j x y d e u w a b c k ra rb => (h j x d a c).eqAt (h1 j y e b k) I ra rb (by show A.units + 1 + _ < cLine; omega))
        rw [List.size_toArray,← r1.length,hl,deqs_all' hz] at y
        exact y
      · rw [show deq (.lst ds) (.lst es) = false from deqs_len hz]
        exact SeqAt.RcNeAt.lists_lengths pl.isList pl'.isList (by rw [List.size_toArray,List.size_toArray]; simp; omega) (by omega)
end
section
variable {X : Cx}
inductive rEqD (neg : Bool) (x : V) (y : V) (H : Hp) (Q : VK) : Prop
  | mk : ∀ d e,(Rp H 9 x d) → (Rp H 9 y e) → (Q (.bl (if neg then !(deq d e) else deq d e)) H) → rEqD neg x y H Q
theorem op_neD (hu : X.A.units + 10 < cLine) : OpR X (compareOp .NotEq) (rEqD true) := by
  intro pins s σ H x y v u Q I rx ry h
  obtain ⟨d,e,rd,re,k⟩ := h
  exact rd.rcNeAt re I rx ry (by omega) _ _ _ _ ⟨.bl _,H,I,rfl,k⟩
end
section
variable {H : Hp} {n : Nat} {p : Addr} {x y z w : V} {a b c d : D}
mutual
theorem deq_self : ∀ d : D,deq d d = true
  | .non => rfl
  | .bl b => by simp [deq]
  | .int i => by simp [deq]
  | .str x => by simp [deq]
  | .tup ds => by simp only [deq]; exact deqs_same ds
  | .lst ds => by simp only [deq]; exact deqs_same ds
theorem deqs_same : ∀ ds : List D,deqs ds ds = true
  | [] => by simp [deqs]
  | d :: ds => by simp only [deqs,Bool.and_eq_true]; exact ⟨deq_self d,deqs_same ds⟩
end
end
end L2
namespace Dr
open PySem PySem.Spec L2 Mth Sp1 Sp2 Sp3 Sp7
end Dr
namespace Dr
open PySem PySem.Spec L2 Mth Sp1 Sp2 Sp3 Sp7
end Dr
namespace Dr
open PySem
end Dr
namespace PySem
namespace F
end F
section
variable {prog : Program} {w : World} {A : Around} {E : Value → Shared → Prop} {s : Shared}
end
end PySem
namespace L2
open PySem PySem.Spec PyProof.Rows
section
variable {X : Cx} {e : Expr} {te : TE} {p1 p2 q1 q2 : Pos}
theorem bt_reversed : bootBuiltins "reversed" = some (.type "reversed") := by decide +kernel
end
section
variable {X : Cx}
end
end L2
namespace L2
open PySem PySem.Spec PyProof.Rows
def ItR (K : PySem.W.Frag) (a : Addr) (n : Nat) : It := ⟨fun i H => ∃ xs x,SqL K H a xs ∧ xs.length = n ∧ i < n ∧ xs[n - 1 - i]? = some x,fun i H x H' => H' = H ∧ ∀ xs,SqL K H a xs → xs[n - 1 - i]? = some x,fun i _ => i = n⟩
theorem turn_rev {P : Program} {w : World} {K : PySem.W.Frag} {tg : Expr} (a it : Addr) (n : Nat) : Turn P w K tg (ItR K a n) [it] it (fun i h => h.IsRevIter it a ((n : Int) - 1 - (i : Int))) where
  mem := by simp
  obj := fun i h st b hb => by
    have e : b = it := by simpa using hb
    subst e
    obtain ⟨o,e,c,d⟩ := st
    exact ⟨o,e,fun v z => by rw [d] at z; cases z⟩
  keep := fun i h h' st k => st.at fun o e => k it (by simp) o e
  item := by
    intro X hP hw hK hc i pins s σ H E I hf st hg
    subst hP hw hK
    obtain ⟨xs,x,hq,hn,hi,hx⟩ := hg
    obtain ⟨its,rv,p,hz⟩ := I.list hq
    obtain ⟨u,hu,ru⟩ := rv.get hx
    obtain ⟨f0,f1,f2,f3,f4,f5⟩ := hf it (by simp)
    have e0 : (n : Int) - 1 - (i : Int) = ((n - 1 - i : Nat) : Int) := by omega
    have st0 : s.heap.IsRevIter it a ((n : Int) - 1 - (i : Int)) := st
    rw [e0] at st0
    refine wpAny_pyNext_rev_item st0 p.isList (x := u) (by simpa using hu) fun h' st' sb => ?_
    have I1 : Inv X pins σ H { s with heap := h' } := I.turned (t' := s.toks) (fun b o hb e => (sb.2 b hb).trans e) f0 f1 f3 f4 f5
    have e1 : ((n - 1 - i : Nat) : Int) - 1 = (n : Int) - 1 - ((i + 1 : Nat) : Int) := by omega
    rw [e1] at st'
    obtain ⟨o,e,c,d⟩ := id st'
    exact ⟨u,rfl,go_of (s := { s with heap := h' }) e c d (by decide) ⟨x,H,I1,ru,⟨rfl,fun ys hy => by rw [I.list_inj hy hq]; exact hx⟩,st',fun b hb => (hf b hb).1⟩⟩
  done := by
    intro X hP hw hK hc i pins s σ H E I hf st hg
    subst hP hw hK
    have hg : i = n := hg
    subst hg
    obtain ⟨f0,f1,f2,f3,f4,f5⟩ := hf it (by simp)
    have st0 : s.heap.IsRevIter it a ((i : Int) - 1 - (i : Int)) := st
    rw [show (i : Int) - 1 - (i : Int) = -1 by omega] at st0
    exact wpAny_pyNext_rev_end (I.ok.hd hc) st0 fun h' eb => ⟨rfl,I.turned (t' := s.toks) (fun b o hb e => eb b o hb e) f0 f1 f3 f4 f5⟩
  self := fun _ _ _ _ _ st h => wpAny_pyIter_revIter st h
def iRev (K : PySem.W.Frag) (te : TE) : TI := fun σ H R => te σ H fun x H1 => ∃ a xs,[x] = [.ref a] ∧ SqL K H1 a xs ∧ R (ItR K a xs.length) H1
theorem pi_rev {X : Cx} {tg e : Expr} {te : TE} {p1 q1 : Pos} (gr : Gl X "reversed") (mr : X.mg "reversed" = none) (he : PE X e te) (h2 : starEach [e] X.env = [(false,eval e X.env)] := by rfl) : PI X tg (.Call (.Name "reversed" p1) [e] [] q1) (iRev X.K te) := by
  intro pins s σ H R I h
  have h' : (tCons te tNil) σ H (fun vs H1 => ∃ a xs,vs = [.ref a] ∧ SqL X.K H1 a xs ∧ R (ItR X.K a xs.length) H1) := h
  refine wpAny_Call_Name_kw (ld_blt I gr mr bt_reversed (PyProof.Rows.callWith_type1 (thn ((pa_cons he pa_nil h2) q1 pins s σ H (fun vs H1 => ∃ a xs,vs = [.ref a] ∧ SqL X.K H1 a xs ∧ R (ItR X.K a xs.length) H1) I h') fun us s1 ⟨vs,H1,I1,r1,q⟩ => ?_) h2 rfl))
  obtain ⟨a,xs,rfl,hx,k⟩ := q
  obtain ⟨u,rfl,ru⟩ := vals1 r1
  cases ru
  obtain ⟨its,rv,pl,hz⟩ := I1.list hx
  have hl := rv.length
  refine call_reversed_list pl.isList ?_
  have al : a < s1.heap.objs.size := by obtain ⟨_,e,_⟩ := pl.isList; exact Heap.lt_size e
  have kp : ∀ b o,s1.heap.get? b = some o → (s1.heap.push (revObj a ((its.toArray.size : Int) - 1))).get? b = some o := fun b o e => Heap.get?_push_of_some _ e
  have it0 : (s1.heap.push (revObj a ((its.toArray.size : Int) - 1))).IsRevIter s1.heap.objs.size a ((its.toArray.size : Int) - 1) := ⟨_,Heap.get?_push_size _ rfl,rfl,rfl⟩
  refine wpAny_pyIter_revIter (i := (its.toArray.size : Int) - 1) it0 ?_
  refine ⟨_,[s1.heap.objs.size],_,_,H1,rfl,I1.kept (t' := s1.toks) kp,turn_rev a s1.heap.objs.size xs.length,?_,fun b hb => ?_,k⟩
  · show Heap.IsRevIter _ _ _ ((xs.length : Int) - 1 - ((0 : Nat) : Int))
    rw [show (xs.length : Int) - 1 - ((0 : Nat) : Int) = (its.toArray.size : Int) - 1 by rw [List.size_toArray]; omega]
    exact it0
  · have e : b = s1.heap.objs.size := by simpa using hb
    subst e
    exact I1.fpOk (Nat.le_refl _) (I1.hok.fresh (Nat.le_refl _))
theorem for_rev {K : PySem.W.Frag} {a : Addr} {xs : List V} {g : TG} {tb : TS} {D : Ends} {σ : St} {H : Hp} (Pv : Nat → St → Hp → Prop) (h0 : Pv 0 σ H) (hl : ∀ i σ H,i ≤ xs.length → Pv i σ H → SqL K H a xs)
    (hs : ∀ i x σ H,i < xs.length → xs[xs.length - 1 - i]? = some x → Pv i σ H → g x σ H fun σ2 H2 => tb { D with nx := Pv (i + 1),ct := Pv (i + 1),bk := D.nx } σ2 H2) (hd : ∀ σ H,Pv xs.length σ H → D.nx σ H) :
    ∃ W : Nat → Nat → St → Hp → Prop,(∃ m,W 0 m σ H) ∧ ∀ i m σ H,W i m σ H →
      ((ItR K a xs.length).stop i H ∧ D.nx σ H) ∨ ((ItR K a xs.length).go i H ∧ ∃ N : St → Hp → Prop,(∀ σ' H',N σ' H' → ∃ m',m' < m ∧ W (i + 1) m' σ' H') ∧ ∀ x H',(ItR K a xs.length).yld i H x H' → g x σ H' fun σ2 H2 => tb { D with nx := N,ct := N,bk := D.nx } σ2 H2) := by
  refine ⟨fun i m σ H => m = xs.length - i ∧ i ≤ xs.length ∧ Pv i σ H,⟨_,rfl,Nat.zero_le _,h0⟩,?_⟩
  rintro i m σ H ⟨rfl,hi,p⟩
  have q := hl i σ H hi p
  by_cases hlt : i < xs.length
  · refine .inr ⟨⟨xs,xs[xs.length - 1 - i],q,rfl,hlt,List.getElem?_eq_getElem (by omega)⟩,Pv (i + 1),fun σ' H' p' => ⟨xs.length - (i + 1),by omega,rfl,hlt,p'⟩,fun x H' ⟨e,y⟩ => ?_⟩
    subst e
    exact hs i x σ _ hlt (y xs q) p
  · have e : i = xs.length := by omega
    subst e
    exact .inl ⟨rfl,hd σ H p⟩
end L2
namespace L2
open PySem PySem.Spec PyProof.Rows
theorem sqT_same {K : PySem.W.Frag} {H H' : Hp} {a : Addr} {xs : List V} (h : SqT K H a xs) (s : Same H H') : SqT K H' a xs := by
  rcases h with (h | ⟨o,h⟩) | h
  · exact .inl (.inl (s _ _ h))
  · exact .inl (.inr ⟨o,s _ _ h⟩)
  · exact .inr h
end L2
namespace Sp5
open PySem PySem.Spec L2 Mth Sp1 Sp2 Sp3 Sp24
structure Rtf (T a A : Int) : Prop where
  nn : 0 ≤ A
  lo : A * A ≤ T * a
  hi : T * a < (A + 1) * (A + 1)
theorem sq_lt {x y : Int} (hx : 0 ≤ x) (h : x < y) : x * x < y * y := by
  have h1 : x * x ≤ y * x := Int.mul_le_mul_of_nonneg_right (by omega) hx
  have h2 : y * x < y * y := Int.mul_lt_mul_of_pos_left h (by omega)
  omega
theorem sq_le {x y : Int} (hy : 0 ≤ y) (h : x * x ≤ y * y) : x ≤ y := by
  by_cases hx : x ≤ y
  · exact hx
  · have := sq_lt hy (show y < x by omega)
    omega
theorem sq_mono {x y : Int} (hx : 0 ≤ x) (h : x ≤ y) : x * x ≤ y * y := Int.mul_le_mul h h hx (by omega)
theorem Rtf.uniq {T a A B : Int} (h : Rtf T a A) (k : Rtf T a B) : A = B := by
  have h1 : A ≤ B := by
    by_cases z : A ≤ B
    · exact z
    · have := sq_mono (x := B + 1) (y := A) (by have := k.nn; omega) (by omega)
      have := k.hi; have := h.lo; omega
  have h2 : B ≤ A := by
    by_cases z : B ≤ A
    · exact z
    · have := sq_mono (x := A + 1) (y := B) (by have := h.nn; omega) (by omega)
      have := h.hi; have := k.lo; omega
  omega
theorem Rtf.mono {T a c A C : Int} (hT : 0 ≤ T) (h : Rtf T a A) (k : Rtf T c C) (hac : a ≤ c) : A ≤ C := by
  by_cases z : A ≤ C
  · exact z
  · have := sq_mono (x := C + 1) (y := A) (by have := k.nn; omega) (by omega)
    have := k.hi; have := h.lo
    have : T * a ≤ T * c := Int.mul_le_mul_of_nonneg_left hac hT
    omega
structure Scl (S M : Int) : Prop where
  m1 : 1 ≤ M
  s : 216 * (M * (M * M)) ≤ S
theorem Scl.mm {S M : Int} (h : Scl S M) : M ≤ M * M ∧ M * M ≤ M * (M * M) := by
  have h1 := h.m1
  have a : 1 * M ≤ M * M := Int.mul_le_mul_of_nonneg_right h1 (by omega)
  have b : 1 * (M * M) ≤ M * (M * M) := Int.mul_le_mul_of_nonneg_right h1 (by omega)
  omega
theorem Scl.pos {S M : Int} (h : Scl S M) : 216 * M ≤ S := by
  have := h.mm; have := h.s; omega
theorem Scl.big {S M K : Int} (h : Scl S M) (hK : K ≤ 24 * (S * M)) : K < S * S := by
  have p := h.pos
  have m1 := h.m1
  have : S * (216 * M) ≤ S * S := Int.mul_le_mul_of_nonneg_left p (by omega)
  have e : S * (216 * M) = 216 * (S * M) := by grind
  have q : 0 < S * M := Int.mul_pos (by omega) (by omega)
  omega
theorem Scl.fin {S M K f : Int} (h : Scl S M) (f0 : 0 ≤ f) (hf : f ≤ 2 * (M * M)) (k0 : 0 ≤ K) (hK : K ≤ 24 * (S * M)) : 2 * ((S * S) * (f * K)) + K * K < (S * S) * (S * S) := by
  have m1 := h.m1
  have p := h.pos
  have s0 : 0 < S := by omega
  have mm := h.mm
  have q : 0 < S * M := Int.mul_pos s0 (by omega)
  have a1 : f * K ≤ 2 * (M * M) * (24 * (S * M)) := Int.mul_le_mul hf hK k0 (by omega)
  have a2 : 2 * (M * M) * (24 * (S * M)) = 48 * (S * (M * (M * M))) := by grind
  have a3 : S * (216 * (M * (M * M))) ≤ S * S := Int.mul_le_mul_of_nonneg_left h.s (by omega)
  have a4 : S * (216 * (M * (M * M))) = 216 * (S * (M * (M * M))) := by grind
  have a5 : 9 * (f * K) ≤ 2 * (S * S) := by omega
  have b1 : K * K ≤ (24 * (S * M)) * (24 * (S * M)) := Int.mul_le_mul hK hK k0 (by omega)
  have b2 : (24 * (S * M)) * (24 * (S * M)) = (S * S) * (576 * (M * M)) := by grind
  have b3 : 216 * (M * M) ≤ S := by have := h.s; omega
  have b4 : 1 * S ≤ S * S := Int.mul_le_mul_of_nonneg_right (by omega) (by omega)
  have t0 : 0 < S * S := Int.mul_pos s0 s0
  have b5 : 3 * (576 * (M * M)) ≤ S * S := by
    have : 216 * S ≤ S * S := by
      have : 216 * S ≤ S * S := Int.mul_le_mul_of_nonneg_right (by omega) (by omega)
      exact this
    omega
  have c1 : (S * S) * (9 * (f * K)) ≤ (S * S) * (2 * (S * S)) := Int.mul_le_mul_of_nonneg_left a5 (by omega)
  have c2 : (S * S) * (3 * (576 * (M * M))) ≤ (S * S) * (S * S) := Int.mul_le_mul_of_nonneg_left b5 (by omega)
  have d1 : (S * S) * (9 * (f * K)) = 9 * ((S * S) * (f * K)) := by grind
  have d2 : (S * S) * (2 * (S * S)) = 2 * ((S * S) * (S * S)) := by grind
  have d3 : (S * S) * (3 * (576 * (M * M))) = 3 * ((S * S) * (576 * (M * M))) := by grind
  have t1 : 0 < (S * S) * (S * S) := Int.mul_pos t0 t0
  omega
theorem Rtf.le {S M a A : Int} (h : Scl S M) (r : Rtf (S * S) a A) (ha : a ≤ M * M) : A ≤ S * M := by
  have m1 := h.m1
  have p := h.pos
  refine sq_le (Int.mul_nonneg (by omega) (by omega)) ?_
  have : (S * S) * a ≤ (S * S) * (M * M) := Int.mul_le_mul_of_nonneg_left ha (Int.mul_nonneg (by omega) (by omega))
  have e : (S * M) * (S * M) = (S * S) * (M * M) := by grind
  have := r.lo
  omega
theorem Rtf.ge {S M a A : Int} (h : Scl S M) (r : Rtf (S * S) a A) (ha : 1 ≤ a) : S ≤ A := by
  have m1 := h.m1
  have p := h.pos
  by_cases z : S ≤ A
  · exact z
  · have := sq_mono (x := A + 1) (y := S) (by have := r.nn; omega) (by omega)
    have : (S * S) * 1 ≤ (S * S) * a := Int.mul_le_mul_of_nonneg_left ha (Int.mul_nonneg (by omega) (by omega))
    have := r.hi
    omega
theorem D1 {S M a c A C : Int} (h : Scl S M) (ra : Rtf (S * S) a A) (rc : Rtf (S * S) c C) (hc : c ≤ M * M) (hac : c + 1 ≤ a) : C + 2 < A := by
  have m1 := h.m1
  have p := h.pos
  by_cases z : C + 2 < A
  · exact z
  · have c0 := rc.nn
    have h1 := sq_mono (x := A + 1) (y := C + 3) (by have := ra.nn; omega) (by omega)
    have e1 : (C + 3) * (C + 3) = C * C + 6 * C + 9 := by grind
    have h2 : (S * S) * (c + 1) ≤ (S * S) * a := Int.mul_le_mul_of_nonneg_left hac (Int.mul_nonneg (by omega) (by omega))
    have e2 : (S * S) * (c + 1) = (S * S) * c + S * S := by grind
    have := ra.hi
    have := rc.lo
    have hC := rc.le h hc
    have q : S * 1 ≤ S * M := Int.mul_le_mul_of_nonneg_left m1 (by omega)
    have := h.big (K := 6 * C + 9) (by omega)
    omega
theorem Rtf.prod {T a c A C : Int} (hT : 0 ≤ T) (ha : 0 ≤ a) (hc : 0 ≤ c) (ra : Rtf T a A) (rc : Rtf T c C) : (2 * (A * C)) * (2 * (A * C)) ≤ T * T * (4 * (a * c)) ∧ T * T * (4 * (a * c)) ≤ (2 * ((A + 1) * (C + 1))) * (2 * ((A + 1) * (C + 1))) := by
  have a0 := ra.nn
  have c0 := rc.nn
  have ta : 0 ≤ T * a := Int.mul_nonneg hT ha
  have tc : 0 ≤ T * c := Int.mul_nonneg hT hc
  have h1 : (A * A) * (C * C) ≤ (T * a) * (T * c) := Int.mul_le_mul ra.lo rc.lo (Int.mul_nonneg c0 c0) ta
  have h2 : (T * a) * (T * c) ≤ ((A + 1) * (A + 1)) * ((C + 1) * (C + 1)) := Int.mul_le_mul (Int.le_of_lt ra.hi) (Int.le_of_lt rc.hi) tc (Int.mul_nonneg (by omega) (by omega))
  have e1 : (2 * (A * C)) * (2 * (A * C)) = 4 * ((A * A) * (C * C)) := by grind
  have e2 : (2 * ((A + 1) * (C + 1))) * (2 * ((A + 1) * (C + 1))) = 4 * (((A + 1) * (A + 1)) * ((C + 1) * (C + 1))) := by grind
  have e3 : T * T * (4 * (a * c)) = 4 * ((T * a) * (T * c)) := by grind
  rw [e1,e2,e3]
  omega
theorem low_no {S M a c A C f K : Int} (h : Scl S M) (ha : 0 ≤ a) (hc : 0 ≤ c) (ra : Rtf (S * S) a A) (rc : Rtf (S * S) c C) (f1 : 1 ≤ f) (hf : f ≤ 2 * (M * M)) (k0 : 0 ≤ K) (hK : K ≤ 24 * (S * M)) (hfc : 4 * (a * c) + 1 ≤ f * f) (hle : (S * S) * f ≤ 2 * (A * C) + K) : False := by
  have m1 := h.m1
  have p := h.pos
  have t0 : 0 < S * S := Int.mul_pos (by omega) (by omega)
  have big := h.big hK
  have g1 : (S * S) * 1 ≤ (S * S) * f := Int.mul_le_mul_of_nonneg_left f1 (by omega)
  have y0 : 0 ≤ (S * S) * f - K := by omega
  have y1 := sq_mono (x := (S * S) * f - K) (y := 2 * (A * C)) y0 (by omega)
  have y2 := (Rtf.prod (by omega) ha hc ra rc).1
  have y3 : (S * S) * (S * S) * (4 * (a * c) + 1) ≤ (S * S) * (S * S) * (f * f) := Int.mul_le_mul_of_nonneg_left hfc (Int.mul_nonneg (by omega) (by omega))
  have y4 := h.fin (by omega) hf k0 hK
  have e1 : ((S * S) * f - K) * ((S * S) * f - K) = (S * S) * (S * S) * (f * f) - 2 * ((S * S) * (f * K)) + K * K := by grind
  have e2 : (S * S) * (S * S) * (4 * (a * c) + 1) = (S * S) * (S * S) * (4 * (a * c)) + (S * S) * (S * S) := by grind
  have kk : 0 ≤ K * K := Int.mul_nonneg k0 k0
  omega
theorem hi_no {S M a c A C f K : Int} (h : Scl S M) (ha : 0 ≤ a) (hc : 0 ≤ c) (ra : Rtf (S * S) a A) (rc : Rtf (S * S) c C) (f0 : 0 ≤ f) (hf : f ≤ 2 * (M * M)) (k0 : 0 ≤ K) (hK : K ≤ 24 * (S * M)) (hfc : f * f + 1 ≤ 4 * (a * c)) (hle : 2 * ((A + 1) * (C + 1)) ≤ (S * S) * f + K) : False := by
  have m1 := h.m1
  have p := h.pos
  have t0 : 0 < S * S := Int.mul_pos (by omega) (by omega)
  have a0 := ra.nn
  have c0 := rc.nn
  have z0 : 0 ≤ 2 * ((A + 1) * (C + 1)) := by
    have : 0 ≤ (A + 1) * (C + 1) := Int.mul_nonneg (by omega) (by omega)
    omega
  have y1 := sq_mono z0 hle
  have y2 := (Rtf.prod (by omega) ha hc ra rc).2
  have y3 : (S * S) * (S * S) * (f * f + 1) ≤ (S * S) * (S * S) * (4 * (a * c)) := Int.mul_le_mul_of_nonneg_left hfc (Int.mul_nonneg (by omega) (by omega))
  have y4 := h.fin f0 hf k0 hK
  have e1 : ((S * S) * f + K) * ((S * S) * f + K) = (S * S) * (S * S) * (f * f) + 2 * ((S * S) * (f * K)) + K * K := by grind
  have e2 : (S * S) * (S * S) * (f * f + 1) = (S * S) * (S * S) * (f * f) + (S * S) * (S * S) := by grind
  omega
section
variable {S M a c A C v : Int}
theorem L1 (h : Scl S M) (ha : 0 ≤ a) (hc : 0 ≤ c) (haM : a ≤ M * M) (hcM : c ≤ M * M) (ra : Rtf (S * S) a A) (rc : Rtf (S * S) c C) (v0 : 0 ≤ v) (hv : v ≤ M) (he : 0 < v * v - a - c) (hd : 4 * (a * c) + 1 ≤ (v * v - a - c) * (v * v - a - c)) : 2 < v * S - A - C := by
  by_cases z : 2 < v * S - A - C
  · exact z
  exfalso
  have m1 := h.m1
  have p := h.pos
  have a0 := ra.nn
  have c0 := rc.nn
  have hA := ra.le h haM
  have hC := rc.le h hcM
  have q : S * 1 ≤ S * M := Int.mul_le_mul_of_nonneg_left m1 (by omega)
  have vv : v * v ≤ M * M := sq_mono v0 hv
  have s1 := sq_mono (x := v * S) (y := A + C + 2) (Int.mul_nonneg v0 (by omega)) (by omega)
  have e1 : (v * S) * (v * S) = (S * S) * (v * v) := by grind
  have e2 : (A + C + 2) * (A + C + 2) = A * A + C * C + 2 * (A * C) + 4 * A + 4 * C + 4 := by grind
  have e3 : (S * S) * (v * v - a - c) = (S * S) * (v * v) - (S * S) * a - (S * S) * c := by grind
  have := ra.lo
  have := rc.lo
  exact low_no h ha hc ra rc (f := v * v - a - c) (K := 4 * A + 4 * C + 4) (by omega) (by omega) (by omega) (by omega) hd (by omega)
theorem L2 (h : Scl S M) (ha : 0 ≤ a) (hc : 0 ≤ c) (ra : Rtf (S * S) a A) (rc : Rtf (S * S) c C) (v0 : 0 ≤ v) (hv : v ≤ M) (hd : v * v - a - c < 0 ∨ (0 ≤ v * v - a - c ∧ (v * v - a - c) * (v * v - a - c) + 1 ≤ 4 * (a * c))) : v * S - A - C < -2 := by
  by_cases z : v * S - A - C < -2
  · exact z
  exfalso
  have m1 := h.m1
  have p := h.pos
  have a0 := ra.nn
  have c0 := rc.nn
  have q : S * 1 ≤ S * M := Int.mul_le_mul_of_nonneg_left m1 (by omega)
  have vs : v * S ≤ M * S := Int.mul_le_mul_of_nonneg_right hv (by omega)
  have ms : M * S = S * M := Int.mul_comm _ _
  have vv : v * v ≤ M * M := sq_mono v0 hv
  have s1 := sq_mono (x := A + 1 + (C + 1)) (y := v * S + 4) (by omega) (by omega)
  have e1 : (v * S + 4) * (v * S + 4) = (S * S) * (v * v) + 8 * (v * S) + 16 := by grind
  have e2 : (A + 1 + (C + 1)) * (A + 1 + (C + 1)) = (A + 1) * (A + 1) + (C + 1) * (C + 1) + 2 * ((A + 1) * (C + 1)) := by grind
  have e3 : (S * S) * (v * v - a - c) = (S * S) * (v * v) - (S * S) * a - (S * S) * c := by grind
  have := ra.hi
  have := rc.hi
  have vs0 : 0 ≤ v * S := Int.mul_nonneg v0 (by omega)
  have z0 : 0 ≤ (A + 1) * (C + 1) := Int.mul_nonneg (by omega) (by omega)
  rcases hd with hd | ⟨hd0,hd⟩
  · have g : (S * S) * (v * v - a - c) ≤ (S * S) * (-1) := Int.mul_le_mul_of_nonneg_left (by omega) (Int.mul_nonneg (by omega) (by omega))
    have := h.big (K := 8 * (v * S) + 16) (by omega)
    omega
  · exact hi_no h ha hc ra rc (f := v * v - a - c) (K := 8 * (v * S) + 16) hd0 (by omega) (by omega) (by omega) hd (by omega)
theorem L3 (h : Scl S M) (ha : 0 ≤ a) (hc : 0 ≤ c) (ra : Rtf (S * S) a A) (rc : Rtf (S * S) c C) (v0 : 0 ≤ v) (he : 0 ≤ v * v - a - c) (hd : (v * v - a - c) * (v * v - a - c) = 4 * (a * c)) : -2 ≤ v * S - A - C ∧ v * S - A - C ≤ 2 := by
  have m1 := h.m1
  have p := h.pos
  have a0 := ra.nn
  have c0 := rc.nn
  have t0 : 0 ≤ S * S := Int.mul_nonneg (by omega) (by omega)
  have vs0 : 0 ≤ v * S := Int.mul_nonneg v0 (by omega)
  have pr := Rtf.prod t0 ha hc ra rc
  have e0 : (S * S * (v * v - a - c)) * (S * S * (v * v - a - c)) = S * S * (S * S) * (4 * (a * c)) := by rw [← hd]; grind
  have te : 0 ≤ S * S * (v * v - a - c) := Int.mul_nonneg t0 he
  have k1 : 2 * (A * C) ≤ S * S * (v * v - a - c) := sq_le te (by omega)
  have z0 : 0 ≤ (A + 1) * (C + 1) := Int.mul_nonneg (by omega) (by omega)
  have k2 : S * S * (v * v - a - c) ≤ 2 * ((A + 1) * (C + 1)) := sq_le (by omega) (by omega)
  have e3 : (S * S) * (v * v - a - c) = (S * S) * (v * v) - (S * S) * a - (S * S) * c := by grind
  have e4 : (v * S) * (v * S) = (S * S) * (v * v) := by grind
  have e5 : (A + C) * (A + C) = A * A + C * C + 2 * (A * C) := by grind
  have e6 : (A + 1 + (C + 1)) * (A + 1 + (C + 1)) = (A + 1) * (A + 1) + (C + 1) * (C + 1) + 2 * ((A + 1) * (C + 1)) := by grind
  have := ra.lo; have := rc.lo; have := ra.hi; have := rc.hi
  have h1 : A + C ≤ v * S := sq_le vs0 (by omega)
  have h2 : v * S ≤ A + 1 + (C + 1) := sq_le (by omega) (by omega)
  omega
theorem L4 (h : Scl S M) (ha : 0 ≤ a) (hc : 0 ≤ c) (haM : a ≤ M * M) (hcM : c ≤ M * M) (ra : Rtf (S * S) a A) (rc : Rtf (S * S) c C) (v0 : 0 < v) (hd : 0 < v * v - a - c ∨ (v * v - a - c ≤ 0 ∧ (v * v - a - c) * (v * v - a - c) + 1 ≤ 4 * (a * c))) : 2 < v * S + A - C := by
  by_cases z : 2 < v * S + A - C
  · exact z
  exfalso
  have m1 := h.m1
  have p := h.pos
  have a0 := ra.nn
  have c0 := rc.nn
  have hA := ra.le h haM
  have hC := rc.le h hcM
  have q : S * 1 ≤ S * M := Int.mul_le_mul_of_nonneg_left m1 (by omega)
  have s1 := sq_mono (x := v * S) (y := C - A + 2) (Int.mul_nonneg (by omega) (by omega)) (by omega)
  have e1 : (v * S) * (v * S) = (S * S) * (v * v) := by grind
  have e2 : (C - A + 2) * (C - A + 2) = A * A + C * C - 2 * (A * C) + 4 * C - 4 * A + 4 := by grind
  have e3 : (S * S) * (v * v - a - c) = (S * S) * (v * v) - (S * S) * a - (S * S) * c := by grind
  have e4 : (A + 1) * (C + 1) = A * C + A + C + 1 := by grind
  have := ra.lo
  have := rc.lo
  have ac0 : 0 ≤ A * C := Int.mul_nonneg a0 c0
  rcases hd with hd | ⟨hd0,hd⟩
  · have g : (S * S) * 1 ≤ (S * S) * (v * v - a - c) := Int.mul_le_mul_of_nonneg_left (by omega) (Int.mul_nonneg (by omega) (by omega))
    have := h.big (K := 4 * C + 4) (by omega)
    omega
  · have e5 : (S * S) * (-(v * v - a - c)) = -((S * S) * (v * v - a - c)) := by grind
    have vv : 0 ≤ v * v := Int.mul_nonneg (by omega) (by omega)
    have e6 : -(v * v - a - c) * -(v * v - a - c) = (v * v - a - c) * (v * v - a - c) := by grind
    exact hi_no h ha hc ra rc (f := -(v * v - a - c)) (K := 6 * C + 2 * A + 6) (by omega) (by omega) (by omega) (by omega) (by rw [e6]; exact hd) (by omega)
theorem L5 (h : Scl S M) (ha : 0 ≤ a) (hc : 0 ≤ c) (haM : a ≤ M * M) (hcM : c ≤ M * M) (hac : a ≤ c) (ra : Rtf (S * S) a A) (rc : Rtf (S * S) c C) (v0 : 0 < v) (hv : v ≤ M) (he : v * v - a - c < 0) (hd : 4 * (a * c) + 1 ≤ (v * v - a - c) * (v * v - a - c)) : v * S + A - C < -2 := by
  by_cases z : v * S + A - C < -2
  · exact z
  exfalso
  have m1 := h.m1
  have p := h.pos
  have a0 := ra.nn
  have c0 := rc.nn
  have hA := ra.le h haM
  have hC := rc.le h hcM
  have q : S * 1 ≤ S * M := Int.mul_le_mul_of_nonneg_left m1 (by omega)
  have vs : v * S ≤ M * S := Int.mul_le_mul_of_nonneg_right hv (by omega)
  have ms : M * S = S * M := Int.mul_comm _ _
  have t0 : 0 ≤ S * S := Int.mul_nonneg (by omega) (by omega)
  have hAC := Rtf.mono t0 ra rc hac
  have vs0 : 0 ≤ v * S := Int.mul_nonneg (by omega) (by omega)
  have s1 := sq_mono (x := C - A) (y := v * S + 2) (by omega) (by omega)
  have e1 : (v * S + 2) * (v * S + 2) = (S * S) * (v * v) + 4 * (v * S) + 4 := by grind
  have e2 : (C - A) * (C - A) = A * A + C * C - 2 * (A * C) := by grind
  have e3 : (S * S) * (v * v - a - c) = (S * S) * (v * v) - (S * S) * a - (S * S) * c := by grind
  have e5 : (S * S) * (-(v * v - a - c)) = -((S * S) * (v * v - a - c)) := by grind
  have e6 : -(v * v - a - c) * -(v * v - a - c) = (v * v - a - c) * (v * v - a - c) := by grind
  have e7 : (A + 1) * (A + 1) = A * A + 2 * A + 1 := by grind
  have e8 : (C + 1) * (C + 1) = C * C + 2 * C + 1 := by grind
  have vv : 0 ≤ v * v := Int.mul_nonneg (by omega) (by omega)
  have := ra.hi
  have := rc.hi
  exact low_no h ha hc ra rc (f := -(v * v - a - c)) (K := 4 * (v * S) + 4 + 2 * A + 2 * C) (by omega) (by omega) (by omega) (by omega) (by rw [e6]; exact hd) (by omega)
theorem L6 (h : Scl S M) (ha : 0 ≤ a) (hc : 0 ≤ c) (hac : a ≤ c) (ra : Rtf (S * S) a A) (rc : Rtf (S * S) c C) (v0 : 0 < v) (he : v * v - a - c ≤ 0) (hd : (v * v - a - c) * (v * v - a - c) = 4 * (a * c)) : -2 ≤ v * S + A - C ∧ v * S + A - C ≤ 2 := by
  have m1 := h.m1
  have p := h.pos
  have a0 := ra.nn
  have c0 := rc.nn
  have t0 : 0 < S * S := Int.mul_pos (by omega) (by omega)
  have vs0 : 0 < v * S := Int.mul_pos (by omega) (by omega)
  have aa : a * a ≤ a * c := Int.mul_le_mul_of_nonneg_left hac ha
  have f2 : 2 * a ≤ -(v * v - a - c) := sq_le (by omega) (by
    have e1 : (2 * a) * (2 * a) = 4 * (a * a) := by grind
    have e2 : -(v * v - a - c) * -(v * v - a - c) = (v * v - a - c) * (v * v - a - c) := by grind
    rw [e1,e2,hd]
    omega)
  have g0 : 0 ≤ c - a - v * v := by omega
  have gg : (c - a - v * v) * (c - a - v * v) = 4 * (v * v * a) := by
    have : (c - a - v * v) * (c - a - v * v) - 4 * (v * v * a) = (v * v - a - c) * (v * v - a - c) - 4 * (a * c) := by grind
    omega
  have := ra.lo; have := rc.lo; have := ra.hi; have := rc.hi
  have e3 : (S * S) * (c - a - v * v) = (S * S) * c - (S * S) * a - (S * S) * (v * v) := by grind
  have sg0 : 0 ≤ S * (c - a - v * v) := Int.mul_nonneg (by omega) g0
  have k1 : C ≤ v * S + A := by
    by_cases z : C ≤ v * S + A
    · exact z
    exfalso
    have s1 := sq_mono (x := v * S + (A + 1)) (y := C) (by omega) (by omega)
    have e1 : (v * S + (A + 1)) * (v * S + (A + 1)) = (S * S) * (v * v) + S * (2 * (v * (A + 1))) + (A + 1) * (A + 1) := by grind
    have e2 : (S * S) * (c - a - v * v) = S * (S * (c - a - v * v)) := by grind
    have l1 : S * (2 * (v * (A + 1))) < S * (S * (c - a - v * v)) := by omega
    have l2 : 2 * (v * (A + 1)) < S * (c - a - v * v) := Int.lt_of_mul_lt_mul_left l1 (by omega)
    have va : 0 ≤ v * (A + 1) := Int.mul_nonneg (by omega) (by omega)
    have l3 := sq_mono (x := 2 * (v * (A + 1))) (y := S * (c - a - v * v)) (by omega) (by omega)
    have e4 : (S * (c - a - v * v)) * (S * (c - a - v * v)) = 4 * (v * v * (S * S * a)) := by
      have : (S * (c - a - v * v)) * (S * (c - a - v * v)) = (S * S) * ((c - a - v * v) * (c - a - v * v)) := by grind
      rw [this,gg]; grind
    have e5 : (2 * (v * (A + 1))) * (2 * (v * (A + 1))) = 4 * (v * v * ((A + 1) * (A + 1))) := by grind
    have l4 : v * v * (S * S * a) < v * v * ((A + 1) * (A + 1)) := Int.mul_lt_mul_of_pos_left ra.hi (Int.mul_pos v0 v0)
    omega
  have k2 : v * S + A ≤ C + 1 := by
    by_cases z : v * S + A ≤ C + 1
    · exact z
    exfalso
    have s1 := sq_mono (x := C + 1) (y := v * S + A) (by omega) (by omega)
    have e1 : (v * S + A) * (v * S + A) = (S * S) * (v * v) + S * (2 * (v * A)) + A * A := by grind
    have e2 : (S * S) * (c - a - v * v) = S * (S * (c - a - v * v)) := by grind
    have l1 : S * (S * (c - a - v * v)) < S * (2 * (v * A)) := by omega
    have l2 : S * (c - a - v * v) < 2 * (v * A) := Int.lt_of_mul_lt_mul_left l1 (by omega)
    have l3 : (S * (c - a - v * v)) * (S * (c - a - v * v)) < (2 * (v * A)) * (2 * (v * A)) := sq_lt sg0 l2
    have e4 : (S * (c - a - v * v)) * (S * (c - a - v * v)) = 4 * (v * v * (S * S * a)) := by
      have : (S * (c - a - v * v)) * (S * (c - a - v * v)) = (S * S) * ((c - a - v * v) * (c - a - v * v)) := by grind
      rw [this,gg]; grind
    have e5 : (2 * (v * A)) * (2 * (v * A)) = 4 * (v * v * (A * A)) := by grind
    have l4 : v * v * (A * A) ≤ v * v * (S * S * a) := Int.mul_le_mul_of_nonneg_left ra.lo (Int.mul_nonneg (by omega) (by omega))
    omega
  omega
end
end Sp5
namespace Sp5
open PySem PySem.Spec L2 Mth Sp1 Sp2 Sp3 Sp24
theorem sg_p {x : Int} (h : 0 < x) : sg x = 1 := by unfold sg; rw [if_pos h]
theorem sg_n {x : Int} (h : x < 0) : sg x = -1 := by unfold sg; rw [if_neg (by omega),if_pos h]
theorem sg_z {x : Int} (h : x = 0) : sg x = 0 := by subst h; rfl
theorem sg_neg (x : Int) : sg (-x) = -sg x := by
  rcases Int.lt_trichotomy x 0 with h | h | h
  · rw [sg_n h,sg_p (by omega)]; rfl
  · subst h; rfl
  · rw [sg_p h,sg_n (by omega)]
def told (x : Int) : Int := (if decide (x > 2) = true then 1 else 0) - (if decide (x < -2) = true then 1 else 0)
theorem told_p {x : Int} (h : 2 < x) : told x = 1 := by
  unfold told
  rw [decide_eq_true (show x > 2 from h),decide_eq_false (show ¬ x < -2 by omega)]; rfl
theorem told_n {x : Int} (h : x < -2) : told x = -1 := by
  unfold told
  rw [decide_eq_false (show ¬ x > 2 by omega),decide_eq_true h]; rfl
theorem told_z {x : Int} (h : -2 ≤ x ∧ x ≤ 2) : told x = 0 := by
  unfold told
  rw [decide_eq_false (show ¬ x > 2 by omega),decide_eq_false (show ¬ x < -2 by omega)]; rfl
theorem told_neg (x : Int) : told (-x) = -told x := by
  by_cases h : 2 < x
  · rw [told_p h,told_n (by omega)]
  by_cases h2 : x < -2
  · rw [told_n h2,told_p (by omega)]; rfl
  · rw [told_z (x := x) (by omega),told_z (by omega)]; rfl
theorem ssq_p {x : Int} (h : 0 ≤ x) : ssq x = x * x := by unfold ssq; rw [if_neg (by omega)]
theorem ssq_n {x : Int} (h : x < 0) : ssq x = -(x * x) := by unfold ssq; rw [if_pos h,Int.mul_neg]
section
variable {S M a c A C w : Int}
def Gp (w a c : Int) : Int := if sg w * sg (a + c) ≥ 0 then sg (sg w + sg (a + c)) else sg w * sg (ssq (w * w - a - c) - 4 * (a * c))
def Gm (w a c : Int) : Int := if sg w * sg (a - c) ≥ 0 then sg (sg w + sg (a - c)) else sg w * sg (ssq (w * w - a - c) + 4 * (a * c))
theorem rt0 (h : Scl S M) (r : Rtf (S * S) 0 A) : A = 0 := by
  have h0 : Rtf (S * S) 0 0 := ⟨Int.le_refl _,by simp,by simp⟩
  exact r.uniq h0
theorem pp (h : Scl S M) (ha : 0 ≤ a) (hc : 0 ≤ c) (haM : a ≤ M * M) (hcM : c ≤ M * M) (ra : Rtf (S * S) a A) (rc : Rtf (S * S) c C) (hw0 : -M ≤ w) (hw1 : w ≤ M) : told (w * S + A + C) = Gp w a c := by
  have m1 := h.m1
  have p := h.pos
  have a0 := ra.nn
  have c0 := rc.nn
  unfold Gp
  by_cases w0 : 0 < w
  · have : 1 * S ≤ w * S := Int.mul_le_mul_of_nonneg_right (by omega) (by omega)
    rw [told_p (by omega),sg_p w0]
    rcases Int.lt_or_eq_of_le (show 0 ≤ a + c by omega) with g | g
    · rw [sg_p g]; rfl
    · rw [sg_z g.symm]; rfl
  by_cases wz : w = 0
  · subst wz
    by_cases a1 : 1 ≤ a
    · have := ra.ge h a1
      rw [told_p (by omega),sg_p (show 0 < a + c by omega)]; rfl
    by_cases c1 : 1 ≤ c
    · have := rc.ge h c1
      rw [told_p (by omega),sg_p (show 0 < a + c by omega)]; rfl
    have ea : a = 0 := by omega
    have ec : c = 0 := by omega
    subst ea ec
    rw [rt0 h ra,rt0 h rc,Int.zero_mul]
    rfl
  have wn : w < 0 := by omega
  have ws : w * S ≤ -1 * S := Int.mul_le_mul_of_nonneg_right (by omega) (by omega)
  rw [sg_n wn]
  by_cases ac : a + c = 0
  · have ea : a = 0 := by omega
    have ec : c = 0 := by omega
    subst ea ec
    rw [rt0 h ra,rt0 h rc,told_n (by omega)]
    rfl
  rw [sg_p (show 0 < a + c by omega),if_neg (by decide)]
  have e1 : w * S + A + C = -(-w * S - A - C) := by grind
  have e2 : w * w - a - c = -w * -w - a - c := by grind
  rw [e1,told_neg,e2]
  have hac : 0 ≤ a * c := Int.mul_nonneg ha hc
  generalize ee : -w * -w - a - c = e at *
  rcases Int.lt_trichotomy (ssq e - 4 * (a * c)) 0 with g | g | g
  · have k : e < 0 ∨ (0 ≤ e ∧ e * e + 1 ≤ 4 * (a * c)) := by
      by_cases e0 : e < 0
      · exact .inl e0
      · rw [ssq_p (by omega)] at g
        exact .inr ⟨by omega,by omega⟩
    rw [sg_n g,told_n (L2 h ha hc ra rc (by omega) (by omega) (by rw [ee]; exact k))]
    rfl
  · have e0 : 0 ≤ e := by
      by_cases e0 : e < 0
      · rw [ssq_n e0] at g
        have : 0 < e * e := Int.mul_pos_of_neg_of_neg e0 e0
        omega
      · omega
    rw [ssq_p e0] at g
    rw [sg_z (show ssq e - 4 * (a * c) = 0 by rw [ssq_p e0]; exact g),told_z (L3 h ha hc ra rc (by omega) (by rw [ee]; exact e0) (by rw [ee]; omega))]
    rfl
  · have e0 : 0 < e := by
      by_cases e0 : e < 0
      · rw [ssq_n e0] at g
        have : 0 < e * e := Int.mul_pos_of_neg_of_neg e0 e0
        omega
      · by_cases e1 : e = 0
        · subst e1
          rw [show ssq 0 = 0 from rfl] at g
          omega
        · omega
    rw [sg_p g]
    rw [ssq_p (by omega)] at g
    rw [told_p (L1 h ha hc haM hcM ra rc (by omega) (by omega) (by rw [ee]; exact e0) (by rw [ee]; omega))]
    rfl
theorem Gm_neg (w a c : Int) : Gm (-w) c a = -Gm w a c := by
  unfold Gm
  rw [sg_neg,show c - a = -(a - c) by omega,sg_neg,Int.neg_mul_neg,show -w * -w - c - a = w * w - a - c by grind,Int.mul_comm c a]
  by_cases g : sg w * sg (a - c) ≥ 0
  · rw [if_pos g,if_pos g,show -sg w + -sg (a - c) = -(sg w + sg (a - c)) by omega,sg_neg]
  · rw [if_neg g,if_neg g,Int.neg_mul]
theorem pm1 (h : Scl S M) (ha : 0 ≤ a) (hc : 0 ≤ c) (haM : a ≤ M * M) (hcM : c ≤ M * M) (ra : Rtf (S * S) a A) (rc : Rtf (S * S) c C) (w0 : 0 < w) (hw1 : w ≤ M) (hac : a < c) : told (w * S + A - C) = sg (ssq (w * w - a - c) + 4 * (a * c)) := by
  have hp : 0 ≤ a * c := Int.mul_nonneg ha hc
  generalize ee : w * w - a - c = e at *
  rcases Int.lt_trichotomy (ssq e + 4 * (a * c)) 0 with g | g | g
  · have e0 : e < 0 := by
      by_cases e0 : e < 0
      · exact e0
      · rw [ssq_p (by omega)] at g
        have : 0 ≤ e * e := Int.mul_nonneg (by omega) (by omega)
        omega
    rw [sg_n g]
    rw [ssq_n e0] at g
    exact told_n (L5 h ha hc haM hcM (by omega) ra rc w0 hw1 (by rw [ee]; exact e0) (by rw [ee]; omega))
  · have e0 : e ≤ 0 := by
      by_cases e0 : e ≤ 0
      · exact e0
      · rw [ssq_p (by omega)] at g
        have : 0 < e * e := Int.mul_pos (by omega) (by omega)
        omega
    rw [sg_z g]
    have g2 : e * e = 4 * (a * c) := by
      by_cases e1 : e < 0
      · rw [ssq_n e1] at g; omega
      · have : e = 0 := by omega
        subst this
        rw [show ssq 0 = 0 from rfl] at g
        omega
    exact told_z (L6 h ha hc (by omega) ra rc w0 (by rw [ee]; exact e0) (by rw [ee]; exact g2))
  · rw [sg_p g]
    refine told_p (L4 h ha hc haM hcM ra rc w0 ?_)
    rw [ee]
    by_cases e0 : 0 < e
    · exact .inl e0
    · refine .inr ⟨by omega,?_⟩
      by_cases e1 : e < 0
      · rw [ssq_n e1] at g; omega
      · have : e = 0 := by omega
        subst this
        rw [show ssq 0 = 0 from rfl] at g
        omega
theorem pm2 (h : Scl S M) (ha : 0 ≤ a) (hc : 0 ≤ c) (haM : a ≤ M * M) (hcM : c ≤ M * M) (ra : Rtf (S * S) a A) (rc : Rtf (S * S) c C) (w0 : 0 ≤ w) (hw1 : w ≤ M) (hz : 0 < w ∨ c ≤ a) : told (w * S + A - C) = Gm w a c := by
  have m1 := h.m1
  have p := h.pos
  have t0 : 0 ≤ S * S := Int.mul_nonneg (by omega) (by omega)
  by_cases hac : a < c
  · have w1 : 0 < w := by omega
    rw [pm1 h ha hc haM hcM ra rc w1 hw1 hac]
    unfold Gm
    rw [sg_p w1,sg_n (show a - c < 0 by omega),if_neg (by decide),Int.one_mul]
  have hle := Rtf.mono t0 rc ra (show c ≤ a by omega)
  unfold Gm
  by_cases w1 : 0 < w
  · have : 1 * S ≤ w * S := Int.mul_le_mul_of_nonneg_right (by omega) (by omega)
    rw [told_p (by omega),sg_p w1]
    rcases Int.lt_or_eq_of_le (show 0 ≤ a - c by omega) with g | g
    · rw [sg_p g]; rfl
    · rw [sg_z g.symm]; rfl
  have wz : w = 0 := by omega
  subst wz
  by_cases hlt : c + 1 ≤ a
  · have := D1 h ra rc hcM hlt
    rw [told_p (by omega),sg_p (show 0 < a - c by omega)]; rfl
  · have e : a = c := by omega
    subst e
    have e2 := ra.uniq rc
    subst e2
    rw [told_z (by omega),sg_z (show a - a = 0 by omega)]; rfl
theorem pm (h : Scl S M) (ha : 0 ≤ a) (hc : 0 ≤ c) (haM : a ≤ M * M) (hcM : c ≤ M * M) (ra : Rtf (S * S) a A) (rc : Rtf (S * S) c C) (hw0 : -M ≤ w) (hw1 : w ≤ M) : told (w * S + A - C) = Gm w a c := by
  by_cases g : 0 < w ∨ (w = 0 ∧ c ≤ a)
  · exact pm2 h ha hc haM hcM ra rc (by omega) hw1 (by omega)
  · have k := pm2 h hc ha hcM haM rc ra (w := -w) (by omega) (by omega) (by omega)
    rw [Gm_neg,show -w * S + C - A = -(w * S + A - C) by grind,told_neg] at k
    omega
end
theorem told_eq {S M w m u n l A C : Int} (h : Scl S M) (hu : 0 ≤ u) (hl : 0 ≤ l) (haM : m * m * u ≤ M * M) (hcM : n * n * l ≤ M * M) (ra : Rtf (S * S) (m * m * u) A) (rc : Rtf (S * S) (n * n * l) C) (hw0 : -M ≤ w) (hw1 : w ≤ M) :
    told (w * S + A * sg m - C * sg n) = swrs w m u (-n) l := by
  have mm : 0 ≤ m * m := by
    rcases Int.lt_or_le m 0 with g | g
    · exact Int.le_of_lt (Int.mul_pos_of_neg_of_neg g g)
    · exact Int.mul_nonneg g g
  have nn : 0 ≤ n * n := by
    rcases Int.lt_or_le n 0 with g | g
    · exact Int.le_of_lt (Int.mul_pos_of_neg_of_neg g g)
    · exact Int.mul_nonneg g g
  have ha : 0 ≤ m * m * u := Int.mul_nonneg mm hu
  have hc : 0 ≤ n * n * l := Int.mul_nonneg nn hl
  have key : ∀ (x y z : Int),ssq m * u + ssq (-n) * l = x → ssq (-2 * m * -n) * (u * l) = y → swrs w m u (-n) l = if sg w * sg x ≥ 0 then sg (sg w + sg x) else sg w * sg (ssq (w * w - m * m * u - n * n * l) + y) := by
    intro x y z hx hy
    unfold swrs swr
    rw [hx,hy,show -n * -n * l = n * n * l by grind]
  have s1 : ∀ {x : Int},0 ≤ x → ssq x = x * x := fun h => ssq_p h
  have s2 : ∀ {x : Int},x ≤ 0 → ssq x = -(x * x) := fun {x} h => by
    by_cases g : x < 0
    · exact ssq_n g
    · have : x = 0 := by omega
      subst this; rfl
  have sA : m = 0 → A = 0 := fun e => by subst e; exact rt0 h (by simpa using ra)
  have sC : n = 0 → C = 0 := fun e => by subst e; exact rt0 h (by simpa using rc)
  have A1 : 0 ≤ m → A * sg m = A := fun g => by
    by_cases e : m = 0
    · rw [sA e]; simp
    · rw [sg_p (by omega),Int.mul_one]
  have A2 : m ≤ 0 → A * sg m = -A := fun g => by
    by_cases e : m = 0
    · rw [sA e]; simp
    · rw [sg_n (by omega),Int.mul_neg,Int.mul_one]
  have C1 : 0 ≤ n → C * sg n = C := fun g => by
    by_cases e : n = 0
    · rw [sC e]; simp
    · rw [sg_p (by omega),Int.mul_one]
  have C2 : n ≤ 0 → C * sg n = -C := fun g => by
    by_cases e : n = 0
    · rw [sC e]; simp
    · rw [sg_n (by omega),Int.mul_neg,Int.mul_one]
  rcases Int.le_total 0 m with gm | gm
  · rcases Int.le_total 0 n with gn | gn
    · -- + -
      have hp : 0 ≤ m * n := Int.mul_nonneg gm gn
      rw [A1 gm,C1 gn,key (m * m * u - n * n * l) (4 * (m * m * u * (n * n * l))) 0 (by rw [s1 gm,s2 (by omega)]; grind) (by rw [show -2 * m * -n = 2 * (m * n) by grind,s1 (by omega)]; grind)]
      exact pm h ha hc haM hcM ra rc hw0 hw1
    · -- + +
      have hp : m * n ≤ 0 := Int.mul_nonpos_of_nonneg_of_nonpos gm gn
      rw [A1 gm,C2 gn,key (m * m * u + n * n * l) (-(4 * (m * m * u * (n * n * l)))) 0 (by rw [s1 gm,s1 (by omega)]; grind) (by rw [show -2 * m * -n = 2 * (m * n) by grind,s2 (by omega)]; grind),show w * S + A - -C = w * S + A + C by omega]
      have k := pp h ha hc haM hcM ra rc hw0 hw1
      rw [k]
      rfl
  · rcases Int.le_total 0 n with gn | gn
    · -- - -
      have hp : m * n ≤ 0 := Int.mul_nonpos_of_nonpos_of_nonneg gm gn
      rw [A2 gm,C1 gn,key (-(m * m * u + n * n * l)) (-(4 * (m * m * u * (n * n * l)))) 0 (by rw [s2 gm,s2 (by omega)]; grind) (by rw [show -2 * m * -n = 2 * (m * n) by grind,s2 (by omega)]; grind),show w * S + -A - C = -(-w * S + A + C) by grind,told_neg]
      have k := pp h ha hc haM hcM ra rc (w := -w) (by omega) (by omega)
      rw [k]
      unfold Gp
      rw [show -w * -w = w * w by grind,sg_neg w,sg_neg (m * m * u + n * n * l),Int.neg_mul,Int.mul_neg]
      by_cases g : -(sg w * sg (m * m * u + n * n * l)) ≥ 0
      · rw [if_pos g,if_pos g,show sg w + -sg (m * m * u + n * n * l) = -(-sg w + sg (m * m * u + n * n * l)) by omega,sg_neg]
      · rw [if_neg g,if_neg g,Int.neg_mul,Int.neg_neg]
        rfl
    · -- - +
      have hp : 0 ≤ m * n := Int.mul_nonneg_of_nonpos_of_nonpos gm gn
      rw [A2 gm,C2 gn,key (n * n * l - m * m * u) (4 * (m * m * u * (n * n * l))) 0 (by rw [s2 gm,s1 (by omega)]; grind) (by rw [show -2 * m * -n = 2 * (m * n) by grind,s1 (by omega)]; grind),show w * S + -A - -C = w * S + C - A by omega]
      have k := pm h hc ha hcM haM rc ra hw0 hw1
      rw [k]
      unfold Gm
      rw [show w * w - n * n * l - m * m * u = w * w - m * m * u - n * n * l by omega,Int.mul_comm (n * n * l)]
end Sp5
namespace Sp6
open PySem PySem.Spec L2 Mth Sp1 Sp2 Sp3 Sp24 Sp5
def sh : Nat → Int → Int → Int → Int → Option (List Int)
  | 0,_,_,_,_ => none
  | n + 1,lo,hi,b,l => if lo / b * b = lo then some [lo / b] else if (lo / b + 1) * l ≤ hi then some [lo / b + 1] else (sh n l b (hi - lo / b * l) (lo - lo / b * b)).map (lo / b :: ·)
theorem sh_succ : ∀ {n : Nat} {lo hi b l : Int} {ts : List Int},sh n lo hi b l = some ts → sh (n + 1) lo hi b l = some ts
  | 0,_,_,_,_,_,h => by cases h
  | n + 1,lo,hi,b,l,ts,h => by
    unfold sh at h ⊢
    by_cases h1 : lo / b * b = lo
    · rw [if_pos h1] at h ⊢; exact h
    · rw [if_neg h1] at h ⊢
      by_cases h2 : (lo / b + 1) * l ≤ hi
      · rw [if_pos h2] at h ⊢; exact h
      · rw [if_neg h2] at h ⊢
        obtain ⟨us,hu,rfl⟩ := Option.map_eq_some_iff.mp h
        rw [sh_succ hu]
        rfl
theorem sh_le {n m : Nat} {lo hi b l : Int} {ts : List Int} (h : sh n lo hi b l = some ts) (hm : n ≤ m) : sh m lo hi b l = some ts := by
  induction m with
  | zero => rw [Nat.le_zero.mp hm] at h; exact h
  | succ m ih =>
    rcases Nat.lt_or_eq_of_le hm with g | g
    · exact sh_succ (ih (by omega))
    · rw [← g]; exact h
theorem sh_uniq {n m : Nat} {lo hi b l : Int} {ts us : List Int} (h : sh n lo hi b l = some ts) (k : sh m lo hi b l = some us) : ts = us := by
  have a := sh_le h (Nat.le_max_left n m)
  have c := sh_le k (Nat.le_max_right n m)
  rw [a] at c
  exact Option.some.inj c
def fr : List Int → Int × Int
  | [] => (0,1)
  | [c] => (c,1)
  | c :: d :: r => (c * (fr (d :: r)).1 + (fr (d :: r)).2,(fr (d :: r)).1)
theorem fr_cons {c : Int} {r : List Int} (h : r ≠ []) : fr (c :: r) = (c * (fr r).1 + (fr r).2,(fr r).1) := by
  cases r with
  | nil => exact absurd rfl h
  | cons d r => rfl
theorem sh_in : ∀ {n : Nat} {lo hi b l : Int} {ts : List Int},0 < b → 0 < l → lo * l < hi * b → sh n lo hi b l = some ts → ts ≠ [] ∧ 0 < (fr ts).2 ∧ lo * (fr ts).2 ≤ (fr ts).1 * b ∧ (fr ts).1 * l ≤ hi * (fr ts).2 ∧ (fr ts).2 ≤ b ∧ (fr ts).2 ≤ l ∧ (0 < lo → 0 < (fr ts).1 ∧ (fr ts).1 ≤ lo ∧ (fr ts).1 ≤ hi)
  | 0,_,_,_,_,_,_,_,_,h => by cases h
  | n + 1,lo,hi,b,l,ts,hb,hl,hd,h => by
    unfold sh at h
    generalize hq : lo / b = q at h
    have m0 := Int.emod_nonneg lo (show b ≠ 0 by omega)
    have m1 := Int.emod_lt_of_pos lo hb
    have m2 : q * b + lo % b = lo := by rw [← hq]; have := Int.ediv_mul_add_emod lo b; omega
    by_cases h1 : q * b = lo
    · rw [if_pos h1] at h
      cases h
      have e1 : q * l < hi := by
        have : q * l * b < hi * b := by rw [show q * l * b = q * b * l by grind,h1]; exact hd
        exact Int.lt_of_mul_lt_mul_right this (by omega)
      refine ⟨by simp,by show (0 : Int) < 1; decide,?_,?_,by show (1 : Int) ≤ b; omega,by show (1 : Int) ≤ l; omega,fun h0 => ?_⟩
      · show lo * 1 ≤ q * b
        omega
      · show q * l ≤ hi * 1
        omega
      · have q0 : 0 < q := by
          rcases Int.lt_or_le 0 q with g | g
          · exact g
          · have := Int.mul_nonpos_of_nonpos_of_nonneg g (show 0 ≤ b by omega)
            omega
        have q1 : q * 1 ≤ q * b := Int.mul_le_mul_of_nonneg_left (by omega) (by omega)
        have q2 : q * 1 ≤ q * l := Int.mul_le_mul_of_nonneg_left (by omega) (by omega)
        exact ⟨q0,by show q ≤ lo; omega,by show q ≤ hi; omega⟩
    · rw [if_neg h1] at h
      by_cases h2 : (q + 1) * l ≤ hi
      · rw [if_pos h2] at h
        cases h
        have e2 : (q + 1) * b = q * b + b := by grind
        refine ⟨by simp,by show (0 : Int) < 1; decide,?_,?_,by show (1 : Int) ≤ b; omega,by show (1 : Int) ≤ l; omega,fun h0 => ?_⟩
        · show lo * 1 ≤ (q + 1) * b
          omega
        · show (q + 1) * l ≤ hi * 1
          omega
        · have q0 : 0 ≤ q := by rw [← hq]; exact Int.ediv_nonneg (by omega) (by omega)
          have q1 : q * 1 ≤ q * b := Int.mul_le_mul_of_nonneg_left (by omega) q0
          have q2 : (q + 1) * 1 ≤ (q + 1) * l := Int.mul_le_mul_of_nonneg_left (by omega) (by omega)
          exact ⟨by show 0 < q + 1; omega,by show q + 1 ≤ lo; omega,by show q + 1 ≤ hi; omega⟩
      · rw [if_neg h2] at h
        obtain ⟨us,hu,rfl⟩ := Option.map_eq_some_iff.mp h
        have e2 : (q + 1) * l = q * l + l := by grind
        have hh : 0 < hi - q * l := by
          have a1 : q * b * l < lo * l := Int.mul_lt_mul_of_pos_right (by omega) hl
          have a2 : q * l * b < hi * b := by rw [show q * l * b = q * b * l by grind]; omega
          have := Int.lt_of_mul_lt_mul_right a2 (by omega)
          omega
        have hlr : 0 < lo - q * b := by omega
        have hdet : l * (lo - q * b) < b * (hi - q * l) := by
          have e3 : l * (lo - q * b) = lo * l - q * b * l := by grind
          have e4 : b * (hi - q * l) = hi * b - q * b * l := by grind
          omega
        obtain ⟨i1,i2,i3,i4,i5,i6,i7⟩ := sh_in hh hlr hdet hu
        obtain ⟨j1,j2,j3⟩ := i7 hl
        rw [fr_cons i1]
        generalize (fr us).1 = t at *
        generalize (fr us).2 = u at *
        refine ⟨by simp,j1,?_,?_,j3,j2,fun h0 => ?_⟩
        · show lo * t ≤ (q * t + u) * b
          have e5 : (q * t + u) * b = q * b * t + b * u := by grind
          have e6 : t * (lo - q * b) = lo * t - q * b * t := by grind
          omega
        · show (q * t + u) * l ≤ hi * t
          have e5 : (q * t + u) * l = q * l * t + l * u := by grind
          have e6 : t * (hi - q * l) = hi * t - q * l * t := by grind
          omega
        · have q0 : 0 ≤ q := by rw [← hq]; exact Int.ediv_nonneg (by omega) (by omega)
          have p0 : 0 ≤ q * t := Int.mul_nonneg q0 (by omega)
          have p1 : q * t ≤ q * b := Int.mul_le_mul_of_nonneg_left j3 q0
          have p2 : q * t ≤ q * l := Int.mul_le_mul_of_nonneg_left j2 q0
          exact ⟨by show 0 < q * t + u; omega,by show q * t + u ≤ lo; omega,by show q * t + u ≤ hi; omega⟩
theorem st {lo hi b l : Int} (hb : 0 < b) (hl : 0 < l) (hd : lo * l < hi * b) (h1 : ¬ lo / b * b = lo) (h2 : ¬ (lo / b + 1) * l ≤ hi) :
    (0 < hi - lo / b * l ∧ hi - lo / b * l < l) ∧ (0 < lo - lo / b * b ∧ lo - lo / b * b < b) ∧ l * (lo - lo / b * b) < b * (hi - lo / b * l) := by
  have m0 := Int.emod_nonneg lo (show b ≠ 0 by omega)
  have m1 := Int.emod_lt_of_pos lo hb
  have m2 : lo / b * b + lo % b = lo := by have := Int.ediv_mul_add_emod lo b; omega
  generalize lo / b = q at *
  have e2 : (q + 1) * l = q * l + l := by grind
  have hh : 0 < hi - q * l := by
    have a1 : q * b * l < lo * l := Int.mul_lt_mul_of_pos_right (by omega) hl
    have a2 : q * l * b < hi * b := by rw [show q * l * b = q * b * l by grind]; omega
    have := Int.lt_of_mul_lt_mul_right a2 (by omega)
    omega
  refine ⟨⟨hh,by omega⟩,⟨by omega,by omega⟩,?_⟩
  have e3 : l * (lo - q * b) = lo * l - q * b * l := by grind
  have e4 : b * (hi - q * l) = hi * b - q * b * l := by grind
  omega
structure Bd (N : Int) (ts : List Int) : Prop where
  f : ∀ j,j < ts.length → (-N ≤ (fr (ts.drop j)).1 ∧ (fr (ts.drop j)).1 ≤ N) ∧ 0 < (fr (ts.drop j)).2 ∧ (fr (ts.drop j)).2 ≤ N
  c : ∀ x ∈ ts,-N ≤ x ∧ x ≤ N
theorem mid_bd {N lo hi b l t u : Int} (hb : 0 < b) (hl : 0 < l) (hu : 0 < u) (ub : u ≤ b) (ul : u ≤ l) (h1 : lo * u ≤ t * b) (h2 : t * l ≤ hi * u) (lN : -N ≤ lo) (hN : hi ≤ N) (N0 : 0 ≤ N) : -N ≤ t ∧ t ≤ N := by
  constructor
  · refine Int.le_of_mul_le_mul_right (a := b) ?_ hb
    have a1 : -N * u ≤ lo * u := Int.mul_le_mul_of_nonneg_right lN (by omega)
    have a2 : N * u ≤ N * b := Int.mul_le_mul_of_nonneg_left ub N0
    have e1 : -N * u = -(N * u) := by grind
    have e2 : -N * b = -(N * b) := by grind
    omega
  · refine Int.le_of_mul_le_mul_right (a := l) ?_ hl
    have a1 : hi * u ≤ N * u := Int.mul_le_mul_of_nonneg_right hN (by omega)
    have a2 : N * u ≤ N * l := Int.mul_le_mul_of_nonneg_left ul N0
    omega
theorem div_bd {N lo b : Int} (hb : 0 < b) (h1 : -N ≤ lo) (h2 : lo ≤ N) (N0 : 0 ≤ N) : -N ≤ lo / b ∧ lo / b ≤ N := by
  constructor
  · refine Int.le_ediv_of_mul_le hb ?_
    have : N * 1 ≤ N * b := Int.mul_le_mul_of_nonneg_left (by omega) N0
    have e2 : -N * b = -(N * b) := by grind
    omega
  · have := Int.ediv_le_ediv hb h2
    have a : N / b ≤ N := Int.ediv_le_self b N0
    omega
theorem sh_bd : ∀ {n : Nat} {N lo hi b l : Int} {ts : List Int},0 < b → 0 < l → lo * l < hi * b → (-N ≤ lo ∧ lo ≤ N) → (-N ≤ hi ∧ hi ≤ N) → b ≤ N → l ≤ N → sh n lo hi b l = some ts → Bd (N + 1) ts
  | 0,_,_,_,_,_,_,_,_,_,_,_,_,_,h => by cases h
  | n + 1,N,lo,hi,b,l,ts,hb,hl,hd,hlo,hhi,bN,lN,h => by
    obtain ⟨i1,i2,i3,i4,i5,i6,_⟩ := sh_in hb hl hd h
    have top : (-(N + 1) ≤ (fr ts).1 ∧ (fr ts).1 ≤ N + 1) ∧ 0 < (fr ts).2 ∧ (fr ts).2 ≤ N + 1 := by
      have := mid_bd (N := N) hb hl i2 i5 i6 i3 i4 hlo.1 hhi.2 (by omega)
      exact ⟨⟨by omega,by omega⟩,i2,by omega⟩
    have hq := div_bd hb hlo.1 hlo.2 (show 0 ≤ N by omega)
    unfold sh at h
    by_cases h1 : lo / b * b = lo
    · rw [if_pos h1] at h
      cases h
      refine ⟨fun j hj => ?_,fun x hx => ?_⟩
      · have : j = 0 := by simpa using hj
        subst this
        exact top
      · rw [List.mem_singleton.mp hx]
        omega
    · rw [if_neg h1] at h
      by_cases h2 : (lo / b + 1) * l ≤ hi
      · rw [if_pos h2] at h
        cases h
        refine ⟨fun j hj => ?_,fun x hx => ?_⟩
        · have : j = 0 := by simpa using hj
          subst this
          exact top
        · rw [List.mem_singleton.mp hx]
          omega
      · rw [if_neg h2] at h
        obtain ⟨us,hu,rfl⟩ := Option.map_eq_some_iff.mp h
        obtain ⟨⟨s1,s2⟩,⟨s3,s4⟩,s5⟩ := st hb hl hd h1 h2
        have ih := sh_bd (N := N) s1 s3 s5 ⟨by omega,by omega⟩ ⟨by omega,by omega⟩ (by omega) (by omega) hu
        refine ⟨fun j hj => ?_,fun x hx => ?_⟩
        · cases j with
          | zero => exact top
          | succ j => exact ih.f j (by simpa using hj)
        · rcases List.mem_cons.mp hx with rfl | hx
          · omega
          · exact ih.c x hx
def flr (m u R : Int) : Int := if m < 0 then (if R * R = u then -R else -R - 1) else R
def SF (a0 a1 a2 a3 sc F : Int) : Prop := ∃ R,Rtf 1 (sc * sc * a1 * a1 * a2) R ∧ F = (sc * a0 + flr a1 (sc * sc * a1 * a1 * a2) R) / a3
theorem SF.uniq {a0 a1 a2 a3 sc F G : Int} (h : SF a0 a1 a2 a3 sc F) (k : SF a0 a1 a2 a3 sc G) : F = G := by
  obtain ⟨R,h1,rfl⟩ := h
  obtain ⟨S,k1,rfl⟩ := k
  rw [h1.uniq k1]
theorem ssq_mono {x y : Int} (h : x ≤ y) : ssq x ≤ ssq y := by
  rcases Int.lt_or_le x 0 with hx | hx
  · rcases Int.lt_or_le y 0 with hy | hy
    · rw [ssq_n hx,ssq_n hy]
      have := sq_mono (x := -y) (y := -x) (by omega) (by omega)
      have e1 : -y * -y = y * y := by grind
      have e2 : -x * -x = x * x := by grind
      omega
    · rw [ssq_n hx,ssq_p hy]
      have a := Int.mul_nonneg hy hy
      have b : 0 ≤ x * x := by have := Int.mul_nonneg (show 0 ≤ -x by omega) (show 0 ≤ -x by omega); have e2 : -x * -x = x * x := by grind
                               omega
      omega
  · rw [ssq_p hx,ssq_p (by omega)]
    exact sq_mono hx h
theorem ssq_mul {k x : Int} (hk : 0 ≤ k) : ssq (k * x) = k * k * ssq x := by
  rcases Int.lt_or_le x 0 with hx | hx
  · rcases Int.lt_or_eq_of_le hk with h | h
    · rw [ssq_n (Int.mul_neg_of_pos_of_neg h hx),ssq_n hx]; grind
    · subst h; simp [ssq]
  · rw [ssq_p (Int.mul_nonneg hk hx),ssq_p hx]; grind
theorem below {W m u R : Int} (hu : 0 ≤ u) (r : Rtf 1 (m * m * u) R) (h : W + flr m (m * m * u) R + 1 ≤ 0) : ssq W + ssq m * u < 0 := by
  have lo := r.lo
  have hi := r.hi
  have nn := r.nn
  rw [Int.one_mul] at lo hi
  unfold flr at h
  by_cases hm : m < 0
  · rw [if_pos hm] at h
    have em : ssq m * u = -(m * m * u) := by rw [ssq_n hm]; grind
    rw [em]
    by_cases hx : R * R = m * m * u
    · rw [if_pos hx] at h
      have a : ssq W ≤ ssq (R - 1) := ssq_mono (by omega)
      rcases Int.lt_or_le (R - 1) 0 with g | g
      · rw [ssq_n g] at a
        have : R = 0 := by omega
        subst this
        simp at a hx
        omega
      · rw [ssq_p g] at a
        have := sq_lt (x := R - 1) (y := R) g (by omega)
        omega
    · rw [if_neg hx] at h
      have a : ssq W ≤ ssq R := ssq_mono (by omega)
      rw [ssq_p nn] at a
      omega
  · rw [if_neg hm] at h
    have em : ssq m * u = m * m * u := by rw [ssq_p (by omega)]
    rw [em]
    have a : ssq W ≤ ssq (-(R + 1)) := ssq_mono (by omega)
    rw [ssq_n (by omega : -(R + 1) < 0)] at a
    have e1 : -(R + 1) * -(R + 1) = (R + 1) * (R + 1) := by grind
    omega
theorem SF.lt {a0 a1 a2 a3 sc F : Int} (h : SF a0 a1 a2 a3 sc F) (h2 : 0 ≤ a2) (h3 : 0 < a3) (hs : 0 < sc) : ssq (a0 * sc - (F + 1) * a3) + ssq (a1 * sc) * a2 < 0 := by
  obtain ⟨R,r,rfl⟩ := h
  have e : sc * sc * a1 * a1 * a2 = a1 * sc * (a1 * sc) * a2 := by grind
  rw [e] at r ⊢
  have hf : flr a1 (a1 * sc * (a1 * sc) * a2) R = flr (a1 * sc) (a1 * sc * (a1 * sc) * a2) R := by
    unfold flr
    by_cases g : a1 < 0
    · rw [if_pos g,if_pos (Int.mul_neg_of_neg_of_pos g hs)]
    · rw [if_neg g,if_neg (by have := Int.mul_nonneg (show 0 ≤ a1 by omega) (show 0 ≤ sc by omega); omega)]
  rw [hf]
  refine below h2 r ?_
  generalize flr (a1 * sc) (a1 * sc * (a1 * sc) * a2) R = f
  have q := Int.lt_ediv_add_one_mul_self (sc * a0 + f) h3
  have e2 : sc * a0 = a0 * sc := Int.mul_comm _ _
  omega
theorem on_from {a0 a1 a2 a3 sc L t u : Int} (hs : 0 < sc) (hu : 0 < u) (h3 : 0 < a3) (h : ssq (a0 * sc - L * a3) + ssq (a1 * sc) * a2 < 0) (hL : L * u ≤ t * sc) : ssq (a0 * u - t * a3) + ssq (a1 * u) * a2 < 0 := by
  have e1 : ssq (a1 * u * sc) = u * u * ssq (a1 * sc) := by rw [show a1 * u * sc = u * (a1 * sc) by grind,ssq_mul (by omega)]
  have e2 : ssq (a1 * u * sc) = sc * sc * ssq (a1 * u) := by rw [show a1 * u * sc = sc * (a1 * u) by grind,ssq_mul (by omega)]
  have e3 : ssq ((a0 * u - t * a3) * sc) = sc * sc * ssq (a0 * u - t * a3) := by rw [Int.mul_comm,ssq_mul (by omega)]
  have m : (a0 * u - t * a3) * sc ≤ u * (a0 * sc - L * a3) := by
    have := Int.mul_le_mul_of_nonneg_right hL (show 0 ≤ a3 by omega)
    have f1 : (a0 * u - t * a3) * sc = a0 * u * sc - t * sc * a3 := by grind
    have f2 : u * (a0 * sc - L * a3) = a0 * u * sc - L * u * a3 := by grind
    omega
  have m2 := ssq_mono m
  rw [e3,ssq_mul (k := u) (by omega)] at m2
  have pos : 0 < sc * sc := Int.mul_pos hs hs
  have pu : 0 < u * u := Int.mul_pos hu hu
  have key : sc * sc * (ssq (a0 * u - t * a3) + ssq (a1 * u) * a2) < 0 := by
    have g1 : sc * sc * (ssq (a0 * u - t * a3) + ssq (a1 * u) * a2) = sc * sc * ssq (a0 * u - t * a3) + sc * sc * ssq (a1 * u) * a2 := by grind
    rw [g1,← e2,e1]
    have g2 : u * u * (ssq (a0 * sc - L * a3) + ssq (a1 * sc) * a2) < 0 := Int.mul_neg_of_pos_of_neg pu h
    have g3 : u * u * (ssq (a0 * sc - L * a3) + ssq (a1 * sc) * a2) = u * u * ssq (a0 * sc - L * a3) + u * u * ssq (a1 * sc) * a2 := by grind
    omega
  rcases Int.lt_or_le (ssq (a0 * u - t * a3) + ssq (a1 * u) * a2) 0 with g | g
  · exact g
  · have := Int.mul_nonneg (show 0 ≤ sc * sc by omega) g
    omega
def scl (j : Nat) : Int := 2 ^ (2 ^ j)
theorem scl_pos (j : Nat) : 0 < scl j := Int.pow_pos (by decide)
def Rm (a0 a1 a2 a3 b0 b1 b2 b3 : Int) (j : Nat) (F G : Int) : Prop := SF a0 a1 a2 a3 (scl j) F ∧ SF (-b0) (-b1) b2 b3 (scl j) G
def Wi (a0 a1 a2 a3 b0 b1 b2 b3 t u : Int) : Prop := ∃ (j : Nat) (F G : Int) (ts : List Int) (m : Nat),Rm a0 a1 a2 a3 b0 b1 b2 b3 j F G ∧ F + 1 + 2 ≤ -G - 1 ∧ (∀ i,i < j → ∀ F' G',Rm a0 a1 a2 a3 b0 b1 b2 b3 i F' G' → ¬ F' + 1 + 2 ≤ -G' - 1) ∧ sh m (F + 1) (-G - 1) (scl j) (scl j) = some ts ∧ Frac (fr ts).1 (fr ts).2 t u
theorem Wi.uniq {a0 a1 a2 a3 b0 b1 b2 b3 t u t' u' : Int} (h : Wi a0 a1 a2 a3 b0 b1 b2 b3 t u) (k : Wi a0 a1 a2 a3 b0 b1 b2 b3 t' u') : t = t' ∧ u = u' := by
  obtain ⟨j,F,G,ts,m,h1,h2,h3,h4,h5⟩ := h
  obtain ⟨j',F',G',ts',m',k1,k2,k3,k4,k5⟩ := k
  have e : j = j' := by
    rcases Nat.lt_trichotomy j j' with g | g | g
    · exact absurd h2 (k3 j g F G h1)
    · exact g
    · exact absurd k2 (h3 j' g F' G' k1)
  subst e
  have eF := h1.1.uniq k1.1
  have eG := h1.2.uniq k1.2
  subst eF eG
  have et := sh_uniq h4 k4
  subst et
  obtain ⟨_,pos,_⟩ := sh_in (scl_pos j) (scl_pos j) (Int.mul_lt_mul_of_pos_right (show F + 1 < -G - 1 by omega) (scl_pos j)) h4
  refine low_unique h5.low k5.low ?_
  have e1 := h5.eq
  have e2 := k5.eq
  refine Int.eq_of_mul_eq_mul_right (a := (fr ts).2) (by omega) ?_
  have f1 : t * u' * (fr ts).2 = t * (fr ts).2 * u' := by grind
  have f2 : t' * u * (fr ts).2 = t' * (fr ts).2 * u := by grind
  rw [f1,f2,← e1,← e2]
  grind
theorem Wi.mid {a0 a1 a2 a3 b0 b1 b2 b3 t u : Int} (h : Wi a0 a1 a2 a3 b0 b1 b2 b3 t u) (a2n : 0 ≤ a2) (a3p : 0 < a3) (b2n : 0 ≤ b2) (b3p : 0 < b3) : ssq (a0 * u - t * a3) + ssq (a1 * u) * a2 < 0 ∧ ssq (t * b3 - b0 * u) + ssq (-b1 * u) * b2 < 0 := by
  obtain ⟨j,F,G,ts,m,h1,h2,h3,h4,h5⟩ := h
  have sp := scl_pos j
  obtain ⟨_,pos,i3,i4,_⟩ := sh_in sp sp (Int.mul_lt_mul_of_pos_right (show F + 1 < -G - 1 by omega) sp) h4
  have up := h5.low.pos
  have e := h5.eq
  generalize (fr ts).1 = x at *
  generalize (fr ts).2 = y at *
  constructor
  · refine on_from (sc := scl j) (L := F + 1) sp up a3p (h1.1.lt a2n a3p sp) ?_
    refine Int.le_of_mul_le_mul_right (a := y) ?_ pos
    have q := Int.mul_le_mul_of_nonneg_right i3 (show 0 ≤ u by omega)
    have f1 : (F + 1) * u * y = (F + 1) * y * u := by grind
    have f2 : t * scl j * y = x * scl j * u := by
      rw [show t * scl j * y = t * y * scl j by grind,← e]
      grind
    omega
  · have q := on_from (a0 := -b0) (a1 := -b1) (a2 := b2) (a3 := b3) (sc := scl j) (L := G + 1) (t := -t) sp up b3p (h1.2.lt b2n b3p sp) (by
      refine Int.le_of_mul_le_mul_right (a := y) ?_ pos
      have q := Int.mul_le_mul_of_nonneg_right i4 (show 0 ≤ u by omega)
      have f1 : (G + 1) * u * y = -((-G - 1) * y * u) := by grind
      have f2 : -t * scl j * y = -(x * scl j * u) := by
        rw [show -t * scl j * y = -(t * y * scl j) by grind,← e]
        grind
      omega)
    have f : -b0 * u - -t * b3 = t * b3 - b0 * u := by grind
    rw [f] at q
    exact q
theorem root_ex (n : Nat) : ∃ r : Nat,r * r ≤ n ∧ n < (r + 1) * (r + 1) := by
  induction n with
  | zero => exact ⟨0,by decide,by decide⟩
  | succ n ih =>
    obtain ⟨r,h1,h2⟩ := ih
    by_cases h : (r + 1) * (r + 1) ≤ n + 1
    · refine ⟨r + 1,h,?_⟩
      have e : (r + 1 + 1) * (r + 1 + 1) = (r + 1) * (r + 1) + (r + 1) + (r + 1) + 1 := by grind
      omega
    · exact ⟨r,by omega,by omega⟩
theorem rtf_ex {T a : Int} (h : 0 ≤ T * a) : ∃ A,Rtf T a A := by
  obtain ⟨r,h1,h2⟩ := root_ex (T * a).toNat
  have e : (((T * a).toNat : Nat) : Int) = T * a := by omega
  have h1' : ((r * r : Nat) : Int) ≤ T * a := by omega
  have h2' : T * a < (((r + 1) * (r + 1) : Nat) : Int) := by omega
  have e2 : (((r + 1) * (r + 1) : Nat) : Int) = ((r : Int) + 1) * ((r : Int) + 1) := by rw [Int.natCast_mul]; norm_cast
  rw [e2] at h2'
  rw [Int.natCast_mul] at h1'
  exact ⟨(r : Int),by omega,h1',h2'⟩
theorem le_of_sq {x y : Int} (hy : 0 ≤ y) (h : x * x < y * y) : x < y := by
  rcases Int.lt_or_le x y with g | g
  · exact g
  · have := sq_mono hy g
    omega
theorem root_part {K S sc a1 a2 b3 R A : Int} (hK : 0 < K) (e : sc = K * S) (h3 : 0 < b3) (r : Rtf 1 (sc * sc * a1 * a1 * a2) R) (ra : Rtf (S * S) (a1 * b3 * (a1 * b3) * a2) A) : b3 * flr a1 (sc * sc * a1 * a1 * a2) R ≤ K * (A * sg (a1 * b3) + 1) := by
  have lo := r.lo
  have hi := r.hi
  have nn := r.nn
  rw [Int.one_mul] at lo hi
  have la := ra.lo
  have ha := ra.hi
  have na := ra.nn
  have key : b3 * b3 * (sc * sc * a1 * a1 * a2) = K * K * (S * S * (a1 * b3 * (a1 * b3) * a2)) := by rw [e]; grind
  have pK : 0 < K * K := Int.mul_pos hK hK
  have p3 : 0 < b3 * b3 := Int.mul_pos h3 h3
  unfold flr
  rcases Int.lt_trichotomy a1 0 with g | g | g
  · rw [if_pos g,sg_n (Int.mul_neg_of_neg_of_pos g h3)]
    have main : ∀ x : Int,0 ≤ x → sc * sc * a1 * a1 * a2 ≤ x * x → b3 * -x ≤ K * (A * -1 + 1) := fun x hx hx2 => by
      have q1 : K * A ≤ b3 * x := by
        refine Int.not_lt.mp fun h => ?_
        have h4 := sq_lt (Int.mul_nonneg (show 0 ≤ b3 by omega) hx) h
        have f1 : b3 * x * (b3 * x) = b3 * b3 * (x * x) := by grind
        have f2 : K * A * (K * A) = K * K * (A * A) := by grind
        have f3 := Int.mul_le_mul_of_nonneg_left hx2 (show 0 ≤ b3 * b3 by omega)
        have f4 := Int.mul_le_mul_of_nonneg_left la (show 0 ≤ K * K by omega)
        omega
      have f5 : b3 * -x = -(b3 * x) := by grind
      have f6 : K * (A * -1 + 1) = K - K * A := by grind
      omega
    by_cases hx : R * R = sc * sc * a1 * a1 * a2
    · rw [if_pos hx]
      exact main R nn (by omega)
    · rw [if_neg hx,show -R - 1 = -(R + 1) by omega]
      exact main (R + 1) (by omega) (by omega)
  · subst g
    rw [if_neg (by omega)]
    have : R = 0 := by
      have : R * R ≤ 0 := by simpa using lo
      rcases Int.lt_or_eq_of_le nn with h | h
      · have := Int.mul_pos h h
        omega
      · exact h.symm
    subst this
    rw [Int.zero_mul,sg_z rfl]
    omega
  · rw [if_neg (by omega),sg_p (Int.mul_pos g h3)]
    have q1 : b3 * R < K * (A + 1) := by
      refine le_of_sq (Int.mul_nonneg (by omega) (by omega)) ?_
      have f1 : b3 * R * (b3 * R) = b3 * b3 * (R * R) := by grind
      have f2 : K * (A + 1) * (K * (A + 1)) = K * K * ((A + 1) * (A + 1)) := by grind
      have f3 := Int.mul_le_mul_of_nonneg_left lo (show 0 ≤ b3 * b3 by omega)
      have f4 := Int.mul_lt_mul_of_pos_left ha pK
      omega
    have f6 : K * (A * 1 + 1) = K * (A + 1) := by grind
    omega
theorem told_low {x : Int} (h : told x = -1) : x < -2 := by
  rcases Int.lt_or_le x (-2) with g | g
  · exact g
  · rcases Int.lt_or_le 2 x with g2 | g2
    · rw [told_p g2] at h; cases h
    · rw [told_z ⟨g,g2⟩] at h; cases h
theorem room {a0 a1 a2 a3 b0 b1 b2 b3 K S M : Int} {j : Nat} (a2n : 0 ≤ a2) (a3p : 0 < a3) (b2n : 0 ≤ b2) (b3p : 0 < b3) (ho : ro a0 a1 a2 a3 b0 b1 b2 b3 = -1) (hK : 0 < K) (e : scl j = K * S) (hS : Scl S M) (hW : -M ≤ a0 * b3 - b0 * a3 ∧ a0 * b3 - b0 * a3 ≤ M)
    (hm : a1 * b3 * (a1 * b3) * a2 ≤ M * M) (hn : b1 * a3 * (b1 * a3) * b2 ≤ M * M) (h4 : 4 * (a3 * b3) ≤ K) : ∀ F G,Rm a0 a1 a2 a3 b0 b1 b2 b3 j F G → F + 1 + 2 ≤ -G - 1 := by
  rintro F G ⟨⟨R1,r1,rfl⟩,⟨R2,r2,rfl⟩⟩
  have sqn : ∀ x : Int,0 ≤ x * x := fun x => by
    rcases Int.lt_or_le x 0 with g | g
    · exact Int.le_of_lt (Int.mul_pos_of_neg_of_neg g g)
    · exact Int.mul_nonneg g g
  obtain ⟨A,ra⟩ := rtf_ex (T := S * S) (a := a1 * b3 * (a1 * b3) * a2) (Int.mul_nonneg (sqn S) (Int.mul_nonneg (sqn _) a2n))
  obtain ⟨C,rc⟩ := rtf_ex (T := S * S) (a := b1 * a3 * (b1 * a3) * b2) (Int.mul_nonneg (sqn S) (Int.mul_nonneg (sqn _) b2n))
  have t := told_eq hS a2n b2n hm hn ra rc hW.1 hW.2
  unfold ro at ho
  rw [show -(b1 * a3) = -b1 * a3 by grind,ho] at t
  have lowt := told_low t
  have rc' : Rtf (S * S) (-b1 * a3 * (-b1 * a3) * b2) C := by rw [show -b1 * a3 * (-b1 * a3) * b2 = b1 * a3 * (b1 * a3) * b2 by grind]; exact rc
  have x1 := root_part hK e b3p r1 ra
  have x2 := root_part hK e a3p r2 rc'
  have sn : sg (-b1 * a3) = -sg (b1 * a3) := by rw [show -b1 * a3 = -(b1 * a3) by grind,sg_neg]
  rw [sn] at x2
  generalize flr a1 (scl j * scl j * a1 * a1 * a2) R1 = f1 at *
  generalize flr (-b1) (scl j * scl j * -b1 * -b1 * b2) R2 = g1 at *
  have y1 := Int.ediv_mul_le (scl j * a0 + f1) (show a3 ≠ 0 by omega)
  have y2 := Int.ediv_mul_le (scl j * -b0 + g1) (show b3 ≠ 0 by omega)
  generalize (scl j * a0 + f1) / a3 = F at *
  generalize (scl j * -b0 + g1) / b3 = G at *
  have z1 := Int.mul_le_mul_of_nonneg_right y1 (show 0 ≤ b3 by omega)
  have z2 := Int.mul_le_mul_of_nonneg_right y2 (show 0 ≤ a3 by omega)
  have pos : 0 < a3 * b3 := Int.mul_pos a3p b3p
  have tot : (F + G) * (a3 * b3) ≤ K * -1 := by
    have e1 : (F + G) * (a3 * b3) = F * a3 * b3 + G * b3 * a3 := by grind
    have e2 : (scl j * a0 + f1) * b3 + (scl j * -b0 + g1) * a3 = K * (S * (a0 * b3 - b0 * a3)) + b3 * f1 + a3 * g1 := by rw [e]; grind
    have e3 : K * (A * sg (a1 * b3) + 1) + K * (C * -sg (b1 * a3) + 1) + K * (S * (a0 * b3 - b0 * a3)) = K * ((a0 * b3 - b0 * a3) * S + A * sg (a1 * b3) - C * sg (b1 * a3) + 2) := by grind
    have e4 : K * ((a0 * b3 - b0 * a3) * S + A * sg (a1 * b3) - C * sg (b1 * a3) + 2) ≤ K * -1 := Int.mul_le_mul_of_nonneg_left (by omega) (by omega)
    omega
  have fin : (F + G) * (a3 * b3) ≤ -4 * (a3 * b3) := by omega
  have := Int.le_of_mul_le_mul_right fin pos
  omega
end Sp6
namespace Sp5
open PySem PySem.Spec L2 Mth Sp1 Sp2 Sp3 Sp24
end Sp5
namespace Sp11
open PySem PySem.Spec L2 Mth Sp1 Sp2
inductive spRatioN (C : Addr) (vs : List V) (H : Hp) (Q : VK) (E : XK) : Prop
  | mk : ∀ (a b : Int) (n : Nat),(vs = [.int a,.int b]) → ((bits a ≤ n ∧ bits b ≤ n ∧ n ≤ 4500)) → ((b = 0 → E (.ref C) none H)) → ((b ≠ 0 → ∀ (p : Addr) (t u : Int),Frac a b t u → bits t ≤ n → bits u ≤ n → H p = none → Q (.ref p) (upd H p (.tup [.int t,.int u])))) → spRatioN C vs H Q E
end Sp11
namespace Sp11
open PySem PySem.Spec L2 Mth Sp1 Sp2
end Sp11
namespace Sp11
open PySem PySem.Spec L2 Mth Sp1 Sp2
end Sp11
namespace Hd
open PySem PySem.W PySem.Spec L2
def live (o : Obj) : Bool := match o.data with
  | .freed => false
  | _ => true
def nums : Nat → List Obj → Frag
  | _,[] => []
  | n,a :: r => bif live a then (n,a) :: nums (n + 1) r else nums (n + 1) r
theorem nums_at : ∀ (l : List Obj) (n a : Nat) (o : Obj),(nums n l).lookup a = some o → n ≤ a ∧ l[a - n]? = some o ∧ live o = true
  | [],_,_,_,e => by cases e
  | x :: r,n,a,o,e => by
    have up : (nums (n + 1) r).lookup a = some o → n ≤ a ∧ (x :: r)[a - n]? = some o ∧ live o = true := fun e => by
      obtain ⟨h1,h2,h3⟩ := nums_at r (n + 1) a o e
      refine ⟨by omega,?_,h3⟩
      have : a - n = (a - (n + 1)) + 1 := by omega
      rw [this]
      exact h2
    unfold nums at e
    cases hl : live x with
    | false =>
      rw [hl] at e
      exact up e
    | true =>
      rw [hl,cond_true,List.lookup_cons] at e
      cases hb : a == n with
      | true =>
        rw [hb] at e
        have hb := beq_iff_eq.mp hb
        subst hb
        cases e
        exact ⟨Nat.le_refl _,by simp,hl⟩
      | false =>
        rw [hb] at e
        exact up e
def frag (h : Heap) : Frag := nums 0 h.objs.toList
theorem frag_in (h : Heap) : (frag h).In h := by
  intro a o e
  obtain ⟨_,q,hl⟩ := nums_at _ _ _ _ e
  have q : h.objs[a]? = some o := by simpa using q
  unfold Heap.get?
  rw [q]
  obtain ⟨c,d,dt,sl⟩ := o
  cases dt <;> first | rfl | cases hl
def fnFact (K : Frag) (x : Str) : Option (Arguments × List Stmt × Scope × Value) := match nsIn K mainGlobals x with
  | some (some (.ref f)) => (match K.lookup f with
    | some ⟨_,_,.func fd,_⟩ => (match fd.body,fd.closure with
      | .stmts b,[] => bif (fd.name == x && (fd.qualname == x && (Nat.beq fd.globals mainGlobals && (Nat.beq fd.builtins builtinsNs && codeIn K fd.code x)))) then some (fd.params,b,fd.scope,fd.defaults) else none
      | _,_ => none)
    | _ => none)
  | _ => none
theorem fnFact_spec {K : Frag} {x : Str} {a : Arguments} {b : List Stmt} {sc : Scope} {dv : Value} (e : fnFact K x = some (a,b,sc,dv)) :
    ∃ (f : Addr) (oc : Value) (od : Option Addr) (kV doc pm : Value) (an : Option Addr) (cdv ct : Value) (osl : Array (Option Value)),
      nsIn K mainGlobals x = some (some (.ref f)) ∧ K.lookup f = some ⟨oc,od,.func (fnOf x x a b sc dv kV doc pm an cdv ct),osl⟩ ∧ codeIn K cdv x = true ∧ keepIn K (.ref f) = true := by
  unfold fnFact at e
  split at e
  · rename_i f hf
    split at e
    · rename_i oc od fd osl hl
      split at e
      · rename_i b' hb hc
        cases hq : (fd.name == x && (fd.qualname == x && (Nat.beq fd.globals mainGlobals && (Nat.beq fd.builtins builtinsNs && codeIn K fd.code x)))) with
        | false => rw [hq] at e; cases e
        | true =>
          rw [hq] at e
          simp only [Bool.and_eq_true] at hq
          obtain ⟨h1,h2,h3,h4,h5⟩ := hq
          replace h1 := eq_of_beq h1
          replace h2 := eq_of_beq h2
          replace h3 := Nat.eq_of_beq_eq_true h3
          replace h4 := Nat.eq_of_beq_eq_true h4
          simp only [cond_true,Option.some.injEq,Prod.mk.injEq] at e
          obtain ⟨e1,e2,e3,e4⟩ := e
          obtain ⟨n,qn,ps,bd,s,gl,cl,df,kw,dc,pm,an,cd,ct,bl⟩ := fd
          simp only at h1 h2 h3 h4 h5 e1 e2 e3 e4 hb hc
          subst h1 h2 h3 h4 e1 e2 e3 e4 hb hc
          refine ⟨f,oc,od,kw,dc,pm,an,cd,ct,osl,hf,hl,h5,?_⟩
          unfold keepIn
          dsimp only
          rw [hl]
      · cases e
    · cases e
  · cases e
theorem df_of {K : Frag} {mg : Str → Option Value} {h : Heap} {x : Str} {st : Stmt} (X : K.In h) (G : h.Ns mainGlobals mg) (e : fnFact K x = some (defArgs st,defBody st,defScope st,.none)) : Df K mg x st := by
  obtain ⟨f,oc,od,kV,doc,pm,an,cdv,ct,osl,h1,h2,h3,h4⟩ := fnFact_spec e
  exact df_mk X G h1 h2 h3 h4
def bareV : Value → V
  | .none => .non
  | .bool b => .bl b
  | .int i _ => .int i
  | .str x _ => .str x
  | .bytes b _ => .byt b
  | .float b _ => .flt b
  | .ref a => .ref a
  | .type n => .ty n
  | _ => .ty "no plain value"
def plainV : Value → Bool
  | .ellipsis | .notImplemented | .builtin _ => false
  | _ => true
theorem bareV_rel : ∀ {v : Value},plainV v = true → RelV (bareV v) v
  | .none,_ => rfl
  | .bool _,_ => rfl
  | .int _ t,_ => ⟨t,rfl⟩
  | .str _ t,_ => ⟨t,rfl⟩
  | .bytes _ t,_ => ⟨t,rfl⟩
  | .float _ t,_ => ⟨t,rfl⟩
  | .ref _,_ => rfl
  | .type _,_ => rfl
  | .ellipsis,h => by cases h
  | .notImplemented,h => by cases h
  | .builtin _,h => by cases h
theorem vals_bare : ∀ {l : List Value},l.all plainV = true → Vals (l.map bareV) l
  | [],_ => .nil
  | _ :: _,h => by
    rw [List.all_cons,Bool.and_eq_true] at h
    exact .cons (bareV_rel h.1) (vals_bare h.2)
def seqAt (K : Frag) (v : Value) : Option (List V) := match v with
  | .ref a => (match K.lookup a with
    | some ⟨_,_,.seq its _,_⟩ => bif its.toList.all plainV then some (its.toList.map bareV) else none
    | _ => none)
  | _ => none
theorem seqAt_spec {K : Frag} {v : Value} {ds : List V} (e : seqAt K v = some ds) : ∃ (a : Addr) (o : Obj) (its : List Value) (n : Nat),v = .ref a ∧ K.lookup a = some o ∧ o.data = .seq its.toArray n ∧ Vals ds its := by
  unfold seqAt at e
  split at e
  · rename_i a
    split at e
    · rename_i oc od its n osl hl
      cases hq : its.toList.all plainV with
      | false => rw [hq] at e; cases e
      | true =>
        rw [hq] at e
        cases e
        exact ⟨a,_,its.toList,n,rfl,hl,rfl,vals_bare hq⟩
    · cases e
  · cases e
def fnFactD (K : Frag) (x : Str) : Option (Arguments × List Stmt × Scope × List V) := match fnFact K x with
  | some (a,b,s,dv) => (match seqAt K dv with
    | some ds => some (a,b,s,ds)
    | none => none)
  | none => none
theorem dfd_of {K : Frag} {mg : Str → Option Value} {h : Heap} {x : Str} {st : Stmt} {ds : List V} (X : K.In h) (G : h.Ns mainGlobals mg) (e : fnFactD K x = some (defArgs st,defBody st,defScope st,ds)) : DfD K mg x st ds := by
  unfold fnFactD at e
  split at e
  · rename_i a b s dv hf
    split at e
    · rename_i ds' hs
      simp only [Option.some.injEq,Prod.mk.injEq] at e
      obtain ⟨e1,e2,e3,e4⟩ := e
      subst e1 e2 e3 e4
      obtain ⟨f,oc,od,kV,doc,pm,an,cdv,ct,osl,h1,h2,h3,h4⟩ := fnFact_spec hf
      obtain ⟨T,oT,its,n,rfl,hl,hd,hv⟩ := seqAt_spec hs
      exact dfd_mk X G h1 h2 h3 h4 hl hd hv
    · cases e
  · cases e
def cls (K : Frag) (x : Str) : Addr := match nsIn K mainGlobals x with
  | some (some (.ref C)) => C
  | _ => 0
def excFact (K : Frag) (x : Str) : Bool := match nsIn K mainGlobals x with
  | some (some (.ref C)) => excIn K C [.type "ValueError",.type "Exception",.type "BaseException",.type "object"] "ValueError.__new__"
  | _ => false
theorem exc_of {K : Frag} {mg : Str → Option Value} {h : Heap} {x : Str} (X : K.In h) (G : h.Ns mainGlobals mg) (e : excFact K x = true) : ExcC K mg x (cls K x) := by
  unfold excFact at e
  split at e
  · rename_i C hC
    have : cls K x = C := by unfold cls; rw [hC]
    rw [this]
    exact exc_mk X G hC e
  · cases e
def tupFact (K : Frag) (x : Str) : Option (List V) := match nsIn K mainGlobals x with
  | some (some (.ref a)) => (match K.lookup a with
    | some ⟨.type "tuple",_,.seq its _,_⟩ => bif its.toList.all plainV then some (its.toList.map bareV) else none
    | _ => none)
  | _ => none
def noFact (K : Frag) (x : Str) : Bool := match nsIn K mainGlobals x with
  | some none => true
  | _ => false
theorem no_of {K : Frag} {x : Str} (e : noFact K x = true) : nsIn K mainGlobals x = some none := by
  unfold noFact at e
  split at e
  · rename_i h
    exact h
  · cases e
theorem at_map {α β : Type} {f g : α → β} {l : List α} (e : l.map f = l.map g) (i : Nat) {a : α} (h : l[i]? = some a) : f a = g a := by
  have q := congrArg (fun l : List β => l[i]?) e
  simp only [List.getElem?_map,h,Option.map_some,Option.some.injEq] at q
  exact q
theorem at_all {α : Type} {f : α → Bool} {l : List α} (e : l.all f = true) (i : Nat) {a : α} (h : l[i]? = some a) : f a = true :=
  List.all_eq_true.mp e a (List.mem_of_getElem? h)
def hook {α : Type} (facts : Frag → α) (val : α) : Hook :=
  ⟨α,fun s => facts (frag s.heap),fun _ => val,fun _ h => ∃ K : Frag,K.In h ∧ facts K = val,fun _ s e => ⟨_,frag_in s.heap,e⟩,fun _ _ _ ⟨K,hi,e⟩ k => ⟨K,Frag.In.keeps hi k,e⟩⟩
theorem law_walk {l : OpenLaw} {k : Nat} {q : Program} {loose : List Str} {XP : (Str → Option Value) → Heap → Prop} {d : DefRec} {α : Type} {facts : Frag → α} {val : α} (hk : Room k callerA) (hn : l.most = some 63) (hdf : d.params.defaults = [])
    (F : ∀ (K : Frag),facts K = val → ∀ (w : World) (mg : Str → Option Value) (fa : Addr) (h : Heap),K.In h → h.Ns mainGlobals mg → mg d.name = some (.ref fa) →
      ∃ fd : FuncData,(∀ (s : Shared) (u : Value),BindsTo s fd ⟨[u],[]⟩ [("script",u)]) ∧ ∀ base : Heap,K.In base → base.Ns mainGlobals mg → FnOk l.prog w K mg base CX0 k fa fd ["script"] (spLaw K)) :
    WalkO q loose XP (Hook.says (hook facts val)) l.row.toRowW d [] (fun f vs => PySem.call f vs) := by
  intro w s₀ s₁ mg mb G Y
  obtain ⟨K,hin,hf⟩ := Y
  exact L2.law_walk (l := l) (k := k) (q := q) (loose := loose) (XP := XP) (YP := fun _ h => K.In h) (d := d) (K := fun _ => K) hk hn hdf (fun _ _ y => y) (fun w mg fa h => F K hf w mg fa h) w s₀ s₁ mg mb G hin
end Hd
namespace Hd
open PySem PySem.W PySem.Spec L2
end Hd
namespace L2
open PySem PySem.Spec PyProof.Rows
end L2
namespace Hd
open PySem PySem.W PySem.Spec L2
theorem pair2 {α β : Type _} {a a' : α} {b b' : β} (h : a = a') (g : b = b') : (a,b) = (a',b') := by rw [h,g]
end Hd
namespace Hd
open PySem PySem.W PySem.Spec L2
end Hd
local macro_rules | `(tactic| walk_at "bt") => `(tactic| first
  | assumption
  | (apply L2.bits_mul <;> walk_at "bt")
  | (apply L2.bits_add2 <;> walk_at "bt")
  | (apply L2.bits_sub2 <;> walk_at "bt")
  | (apply L2.bits_neg; walk_at "bt")
  | (apply L2.bits_abs; walk_at "bt")
  | exact L2.bits_lit)
local macro_rules | `(tactic| walk_at "bl") => `(tactic| (apply L2.bits_of_le; (walk_at "bt"); decide))
local macro_rules | `(tactic| walk_at "cm") => `(tactic| first
  | exact L2.CM.l ⟨by decide,by decide⟩
  | exact L2.CM.r ⟨by decide,by decide⟩
  | (apply L2.CM.of; (walk_at "bt"); (walk_at "bt"); decide))
local macro_rules | `(tactic| walk_at "at") => `(tactic| first
  | assumption
  | exact L2.upd_same
  | (refine L2.Same.at (by assumption) ?_; walk_at "at")
  | (refine L2.SameT.at (by assumption) ?_; walk_at "at"))
local macro_rules | `(tactic| walk_at "sm") => `(tactic| first
  | assumption
  | exact L2.Same.rfl'
  | (refine L2.Same.trans ?_ (by assumption); walk_at "sm"))
local macro_rules | `(tactic| walk_at "kn") => `(tactic| first
  | assumption
  | exact ⟨_,.int _⟩ | exact ⟨_,.bl _⟩ | exact ⟨_,.str _⟩ | exact ⟨_,.non⟩
  | exact ⟨_,.tup (by walk_at "at")⟩ | exact ⟨_,.lst (by walk_at "at")⟩ | exact ⟨_,.dict (by walk_at "at")⟩)
local macro_rules | `(tactic| walk_at "nice") => `(tactic| first
  | exact L2.nice_int | exact L2.nice_bool | exact L2.nice_tuple | exact L2.nice_list | exact L2.nice_str)
local macro_rules | `(tactic| walk_at "th") => `(tactic| first
  | assumption
  | exact Sp1.th_flat .non (fun p e => nomatch e) | exact Sp1.th_flat (.int _) (fun p e => nomatch e) | exact Sp1.th_flat (.bl _) (fun p e => nomatch e) | exact Sp1.th_flat (.str _) (fun p e => nomatch e)
  | exact Sp1.th_lst (by walk_at "at")
  | (refine' Sp1.th_tup ?hat ?hkn; (case hat => walk_at "at"); (case hkn => (simp only [List.mem_cons,List.not_mem_nil,or_false,forall_eq_or_imp,forall_eq,false_imp_iff,implies_true]; (try (first | (walk_at "kn") | (repeat' apply And.intro) <;> walk_at "kn")))))
  )
local macro_rules | `(tactic| walk_at "r1") => `(tactic| first
  | (refine ⟨_,rfl,?_⟩)
  | (refine ⟨_,_,rfl,rfl,?_⟩)
  | (refine ⟨_,_,rfl,rfl,by walk_at "cm",?_⟩)
  | (refine ⟨_,_,rfl,rfl,(by show (0 : Int) < _; decide),?_⟩)
  | (refine ⟨_,_,rfl,rfl,⟨by decide,by decide⟩,?_⟩)
  | (refine ⟨_,_,rfl,rfl,⟨by decide,by decide,by decide⟩,?_⟩)
  | (refine' ⟨_,_,_,_,rfl,rfl,L2.SqT.of ?hat,?hix,?nxt⟩; (case hat => walk_at "at"); (case hix => exact rfl))
  | (refine' ⟨_,_,_,_,rfl,rfl,L2.SqL.of ?hat,?hix,?nxt⟩; (case hat => walk_at "at"); (case hix => exact rfl))
  | (refine ⟨by walk_at "cm",?_⟩)
  | (refine ⟨(by show (0 : Int) < _; decide),?_⟩)
  | (refine ⟨⟨by decide,by decide⟩,?_⟩)
  | (refine ⟨⟨by decide,by decide,by decide⟩,?_⟩)
  | (refine ⟨Sp1.sz (by simp),fun _ _ _ _ _ => ?_⟩)
  | (refine ⟨Sp1.sz (by simp),L2.alloc fun _ _ _ _ => ?_⟩)
  | (refine' ⟨_,_,_,_,rfl,rfl,?hat,?hbt,Sp1.sz ?hsz,fun _ _ _ _ _ => ?nxt⟩; (case hat => walk_at "at"); (case hbt => walk_at "at"); (case hsz => simp))
  | (refine' ⟨_,_,_,_,rfl,rfl,?hat,?hbt,Sp1.sz ?hsz,L2.alloc fun _ _ _ _ => ?nxt⟩; (case hat => walk_at "at"); (case hbt => walk_at "at"); (case hsz => simp))
  | (refine' ⟨_,_,rfl,.inl (L2.SqL.of ?hat),?nxt⟩; (case hat => walk_at "at"))
  | (refine' ⟨_,_,rfl,.inr (L2.SqT.of ?hat),?nxt⟩; (case hat => walk_at "at"))
  | (refine' L2.alloc fun _ _ _ _ => ?nxt))
local macro_rules | `(tactic| walk_at "rd") => `(tactic| repeat (walk_at "r1"))
namespace K6
open PySem PySem.Spec L2 Mth Sp1 Sp2 Sp11 Sp24 Sp5 Sp6
def top (i : Nat) : Stmt := PySem.Challenge.pw_oneleash_k06_whole_roots_parted.main.body.getD i (.Pass ⟨0,0,0,0⟩)
def hNames0 : List (Str × Nat) := [(Str.ofString "is_whole",4),(Str.ofString "common_divisor",5),(Str.ofString "sign_of",8),(Str.ofString "signed_square",9),(Str.ofString "sign_with_root",10),(Str.ofString "sign_with_roots",11),(Str.ofString "root_order",12),(Str.ofString "floor_root",13),(Str.ofString "own_fraction",14),(Str.ofString "scaled_floor",15),(Str.ofString "below_all",16),(Str.ofString "shared_terms",17),(Str.ofString "fraction_of_terms",18),(Str.ofString "fraction_within",19),(Str.ofString "root_between",20),(Str.ofString "_law_mixed",22),(Str.ofString "_law_numbers",23),(Str.ofString "_law_whole",24),(Str.ofString "_law_common",25),(Str.ofString "_law_lowest",26),(Str.ofString "_law_root",27),(Str.ofString "_law_side",28),(Str.ofString "_law_sign",29),(Str.ofString "_law_order",30),(Str.ofString "_law_single",31),(Str.ofString "_law_beside",32),(Str.ofString "_law_pair",33),(Str.ofString "_law_is_that",34),(Str.ofString "_law_parted",35),(Str.ofString "law",36)]
def hNamesD : List (Str × Nat × List V) := [(Str.ofString "ratio",6,[.int 1])]
def hExc : List Str := [Str.ofString "NoRatio"]
def hNo : List Str := [Str.ofString "abs",Str.ofString "bool",Str.ofString "int",Str.ofString "isinstance",Str.ofString "len",Str.ofString "range",Str.ofString "reversed",Str.ofString "tuple"]
def hTup : List (Str × List V) := []
def hF0 (K : PySem.W.Frag) : List (Option (Arguments × List Stmt × Scope × Value)) := hNames0.map (fun p => Hd.fnFact K p.1)
def hG0 : List (Option (Arguments × List Stmt × Scope × Value)) := hNames0.map (fun p => some (defArgs (top p.2),defBody (top p.2),defScope (top p.2),.none))
def hF1 (K : PySem.W.Frag) : List (Option (Arguments × List Stmt × Scope × List V)) × Bool × Bool × List (Option (List V)) := (hNamesD.map (fun p => Hd.fnFactD K p.1),hExc.all (Hd.excFact K),hNo.all (Hd.noFact K),hTup.map (fun p => Hd.tupFact K p.1))
def hG1 : List (Option (Arguments × List Stmt × Scope × List V)) × Bool × Bool × List (Option (List V)) := (hNamesD.map (fun p => some (defArgs (top p.2.1),defBody (top p.2.1),defScope (top p.2.1),p.2.2)),true,true,hTup.map (fun p => some p.2))
def hFacts (K : PySem.W.Frag) : (List (Option (Arguments × List Stmt × Scope × Value))) × (List (Option (Arguments × List Stmt × Scope × List V)) × Bool × Bool × List (Option (List V))) := (hF0 (K),hF1 (K))
def hGood : (List (Option (Arguments × List Stmt × Scope × Value))) × (List (Option (Arguments × List Stmt × Scope × List V)) × Bool × Bool × List (Option (List V))) := (hG0,hG1)
def hView : Program := PySem.W.view PySem.Challenge.pw_oneleash_k06_whole_roots_parted [36]
def hLoose : List Str := [Str.ofString "LeashError",Str.ofString "NoRatio",Str.ofString "is_whole",Str.ofString "common_divisor",Str.ofString "ratio",Str.ofString "sign_of",Str.ofString "signed_square",Str.ofString "sign_with_root",Str.ofString "sign_with_roots",Str.ofString "root_order",Str.ofString "floor_root",Str.ofString "own_fraction",Str.ofString "scaled_floor",Str.ofString "below_all",Str.ofString "shared_terms",Str.ofString "fraction_of_terms",Str.ofString "fraction_within",Str.ofString "root_between",Str.ofString "_law_mixed",Str.ofString "_law_numbers",Str.ofString "_law_whole",Str.ofString "_law_common",Str.ofString "_law_lowest",Str.ofString "_law_root",Str.ofString "_law_side",Str.ofString "_law_sign",Str.ofString "_law_order",Str.ofString "_law_single",Str.ofString "_law_beside",Str.ofString "_law_pair",Str.ofString "_law_is_that",Str.ofString "_law_parted"]
noncomputable def hRunS (w : World) := (PySem.W.openEnds treeTable PySem.Challenge.pw_oneleash_k06_whole_roots_parted w 100000).map (fun s => (PySem.W.openSeen hView hLoose (importedModules PySem.Challenge.pw_oneleash_k06_whole_roots_parted.main.body) (fun _ => true) true s,hF0 (Hd.frag s.heap),hF1 (Hd.frag s.heap)))
noncomputable def hEndS := some ((PySem.W.openGood hView hLoose,hG0,hG1))
theorem hRunS_self : @hRunS = @hRunS := rfl
theorem hEndS_self : @hEndS = @hEndS := rfl
set_option maxHeartbeats 0 in
lay_quick K6.hRunS K6.hEndS
name_quick hRunSQ for K6.hRunS by K6.hRunS_self
name_quick hEndSQ for K6.hEndS by K6.hEndS_self
set_option maxHeartbeats 0 in
theorem hQuickS (w : World) : PySem.W.Fast.hRunSQ w = PySem.W.Fast.hEndSQ := by kernel_rfl
theorem hOneS (w : World) : hRunS w = hEndS := (congrFun PySem.W.Fast.hRunSQ_eq w).trans ((hQuickS w).trans PySem.W.Fast.hEndSQ_eq.symm)
theorem hAll (w : World) : (PySem.W.openEnds treeTable PySem.Challenge.pw_oneleash_k06_whole_roots_parted w 100000).map (fun s => (PySem.W.openSeen hView hLoose (importedModules PySem.Challenge.pw_oneleash_k06_whole_roots_parted.main.body) (fun _ => true) true s,hFacts (Hd.frag s.heap))) = some (PySem.W.openGood hView hLoose,hGood) := by
  have rS : (PySem.W.openEnds treeTable PySem.Challenge.pw_oneleash_k06_whole_roots_parted w 100000).map (fun s => (PySem.W.openSeen hView hLoose (importedModules PySem.Challenge.pw_oneleash_k06_whole_roots_parted.main.body) (fun _ => true) true s,hF0 (Hd.frag s.heap),hF1 (Hd.frag s.heap))) = some ((PySem.W.openGood hView hLoose,hG0,hG1)) := hOneS w
  skip
  generalize (PySem.W.openEnds treeTable PySem.Challenge.pw_oneleash_k06_whole_roots_parted w 100000) = x at *
  cases x with
  | none => cases rS
  | some s =>
    have zS := Option.some.inj rS
    show some (PySem.W.openSeen hView hLoose (importedModules PySem.Challenge.pw_oneleash_k06_whole_roots_parted.main.body) (fun _ => true) true s,hFacts (Hd.frag s.heap)) = _
    unfold hFacts hGood
    have z := (congrArg Prod.fst zS)
    have q0 := (congrArg Prod.fst (congrArg Prod.snd zS))
    have q1 := (congrArg Prod.snd (congrArg Prod.snd zS))
    exact congrArg some (Hd.pair2 z (Hd.pair2 q0 q1))
structure Txt (mg : Str → Option Value) : Prop where
  z_abs : mg "abs" = none
  z_bool : mg "bool" = none
  z_int : mg "int" = none
  z_isinstance : mg "isinstance" = none
  z_len : mg "len" = none
  z_range : mg "range" = none
  z_reversed : mg "reversed" = none
  z_tuple : mg "tuple" = none
section
variable {P : Program} {w : World} {K : PySem.W.Frag} {mg : Str → Option Value} {base : Heap}
theorem S_is_whole : FnScope ["thing"] ["thing"] (defScope (top 4)) := ⟨rfl,rfl,rfl,by decide +kernel,rfl,by decide +kernel,by decide +kernel⟩
theorem fn_is_whole (D_is_whole : Df K mg "is_whole" (top 4)) (T : Txt mg) : Fn P w K mg base "is_whole" ["thing"] 1 spWhole := by
  refine D_is_whole.fn S_is_whole (fun _ _ _ _ _ _ us hl => match us,hl with | [_],_ => rfl) (fun vs H Q E h => ?_) (fun f cdv A outer s H vs Q E hr h => ?_)
  · obtain ⟨x,t,rfl,_⟩ := h
    rfl
  · obtain ⟨x,t,rfl,k,q⟩ := h
    refine ⟨_,(pss_one (ps_ret (pe_and (pe_callB call_isinst (by rfl) T.z_isinstance bt_isinstance (pa_cons (pv 0) (pa_cons (pe_ty T.z_int bt_int) pa_nil))) (pe_one (pe_not (pe_callB call_isinst (by rfl) T.z_isinstance bt_isinstance (pa_cons (pv 0) (pa_cons (pe_ty T.z_bool bt_bool) pa_nil)))))))),?_⟩
    refine ⟨_,rfl,x,t,"int",rfl,k,.inl rfl,_,rfl,?_⟩
    refine ite3 (fun hc => ?_) (fun hc => ?_)
    · refine ⟨_,rfl,x,t,"bool",rfl,k,.inr (.inl rfl),_,rfl,?_⟩
      rw [(whole_sub k).1 hc]
      exact q
    · rw [(whole_sub k).2 hc] at q
      exact q
theorem S_common_divisor : FnScope ["one","other","rest"] ["one","other"] (defScope (top 5)) := ⟨rfl,rfl,rfl,by decide +kernel,rfl,by decide +kernel,by decide +kernel⟩
theorem fn_common_divisor (D_common_divisor : Df K mg "common_divisor" (top 5)) (T : Txt mg) : Fn P w K mg base "common_divisor" ["one","other"] 1 spGcd := by
  refine D_common_divisor.fn S_common_divisor (fun _ _ _ _ _ _ us hl => match us,hl with | [_,_],_ => rfl) (fun vs H Q E h => ?_) (fun f cdv A outer s H vs Q E hr h => ?_)
  · obtain ⟨a,b,rfl,_⟩ := h
    rfl
  · obtain ⟨a,b,rfl,q⟩ := h
    refine ⟨_,(pss_cons (ps_set (i := 0) S_common_divisor.nd rfl (Or.inl rfl) (pe_callB call_abs (by rfl) T.z_abs bt_abs (pa_cons (pv 0) pa_nil))) (pss_cons (ps_set (i := 1) S_common_divisor.nd rfl (Or.inl rfl) (pe_callB call_abs (by rfl) T.z_abs bt_abs (pa_cons (pv 1) pa_nil))) (pss_cons (ps_while PassesOwn.never (pt_cmpR op_ne (pv 1) pe_int (nomark _)) (pss_cons (ps_set (i := 2) S_common_divisor.nd rfl (Or.inl rfl) (pe_op op_mod (pv 0) (pv 1))) (pss_cons (ps_set (i := 0) S_common_divisor.nd rfl (Or.inl rfl) (pv 1)) (pss_one (ps_set (i := 1) S_common_divisor.nd rfl (Or.inl rfl) (pv 2)))))) (pss_one (ps_ret (pv 0)))))),?_⟩
    refine ⟨_,rfl,a,rfl,_,rfl,b,rfl,?_⟩
    refine while_by (fun σ H' => ∃ x y r,σ = [some (.int x),some (.int y),r] ∧ H' = H ∧ 0 ≤ x ∧ 0 ≤ y ∧ Int.gcd x y = Int.gcd a b)
      (fun σ _ => match σ with | [_,some (.int y),_] => y.toNat | _ => 0) ⟨_,_,_,rfl,rfl,abs_nonneg a,abs_nonneg b,by rw [gcd_abs,gcd_abs']⟩ ?_ ?_
    · rintro σ H' ⟨x,y,r,rfl,rfl,hx,hy,hg⟩
      refine ⟨_,rfl,rfl,_,rfl,?_⟩
      refine ite3 (fun hc => ?_) (fun hc => ?_)
      · have hy0 : ¬ y = 0 := by simpa using hc
        have hy1 : 0 < y := by omega
        refine ⟨_,rfl,_,rfl,x,y,rfl,rfl,hy1,_,rfl,_,rfl,⟨y,x % y,_,rfl,rfl,hy,Int.emod_nonneg _ hy0,?_⟩,?_⟩
        · rw [gcd_step hx hy1]
          exact hg
        · have h1 := Int.emod_lt_of_pos x hy1
          have h2 := Int.emod_nonneg x hy0
          show (x % y).toNat < y.toNat
          omega
      · have hy0 : y = 0 := by simpa using hc
        subst hy0
        refine ⟨_,rfl,?_⟩
        have e : (Int.gcd a b : Int) = x := by rw [← hg]; exact gcd_zero hx
        rw [e] at q
        exact q
    · rintro σ H' Q1 Q2 hq ⟨v,e,hs,k,ek,r⟩
      exact ⟨v,e,hs,k,ek,hq _ _ r⟩
theorem S_ratio : FnScope ["top","bottom","divisor"] ["top","bottom"] (defScope (top 6)) := ⟨rfl,rfl,rfl,by decide +kernel,rfl,by decide +kernel,by decide +kernel⟩
theorem fn_ratio {C : Addr} (D_ratio : DfD K mg "ratio" (top 6) [.int 1]) (O_NoRatio : ExcC K mg "NoRatio" C) (F_is_whole : Fn P w K mg base "is_whole" ["thing"] 1 spWhole) (F_common_divisor : Fn P w K mg base "common_divisor" ["one","other"] 1 spGcd) : Fx P w K mg base "ratio" ["top","bottom"] 2 [.int 1] (spRatioN C) := by
  refine D_ratio.fx S_ratio (fun T kV doc pm an cdv ct us its oT n s hv hl ho hs => ?_) (fun T kV doc pm an cdv ct us its oT n s hv hl ho hs => ?_) (fun vs H Q E h => ?_) (fun f cdv A outer s H vs Q E hr h => ?_)
  · obtain ⟨u,rfl,_⟩ := vals1 hv
    match us,hl with
    | [_,_],_ => exact BindsTo.of_defaults rfl ho hs rfl rfl
  · obtain ⟨u,rfl,_⟩ := vals1 hv
    have hl1 : us.length = 1 := by simpa using hl
    match us,hl1 with
    | [_],_ => exact BindsTo.of_defaults rfl ho hs rfl rfl
  · obtain ⟨a,b,nb,rfl,_⟩ := h
    rfl
  · obtain ⟨a,b,nb,rfl,⟨ba,bb,hnb⟩,k0,k1⟩ := h
    refine ⟨_,(pss_cons (ps_if (pw_or (pt_not (pt_val (pe_fn F_is_whole (hr.mono (by decide)) (by rfl) (pa_cons (pv 0) pa_nil)))) (pw_or (pt_not (pt_val (pe_fn F_is_whole (hr.mono (by decide)) (by rfl) (pa_cons (pv 1) pa_nil)))) (pw_or1 (pt_cmpR op_eq (pv 1) pe_int (nomark _))))).pt (pss_one (ps_raise O_NoRatio (by rfl))) pss_nil) (pss_cons (ps_set (i := 2) S_ratio.nd rfl (Or.inl rfl) (pe_fn F_common_divisor (hr.mono (by decide)) (by rfl) (pa_cons (pv 0) (pa_cons (pv 1) pa_nil)))) (pss_cons (ps_if (pt_cmpR op_lt (pv 1) pe_int (nomark _)) (pss_one (ps_set (i := 2) S_ratio.nd rfl (Or.inl rfl) (pe_un un_neg (pv 2)))) pss_nil) (pss_one (ps_ret (pe_tup (pa_cons (pe_op op_fdivZ (pv 0) (pv 2)) (pa_cons (pe_op op_fdivZ (pv 1) (pv 2)) pa_nil)))))))),?_⟩
    refine ⟨_,rfl,_,_,rfl,.int a,_,rfl,iteF ?_⟩
    refine ⟨_,rfl,_,_,rfl,.int b,_,rfl,iteF ?_⟩
    refine ⟨_,rfl,rfl,_,rfl,?_⟩
    refine ite3 (fun hc => ?_) (fun hc => ?_)
    · exact k0 (by simpa using hc)
    · have hb : b ≠ 0 := by simpa using hc
      have hg := gcd_pos (a := a) (b := b) hb
      have bg : bits (Int.gcd a b : Int) ≤ 8000 := bits_le (gcd_bits2 hb bb) (by omega)
      refine ⟨_,rfl,_,rfl,a,b,rfl,?_⟩
      refine ⟨_,rfl,_,_,rfl,rfl,_,rfl,?_⟩
      refine ite3 (fun hd => ?_) (fun hd => ?_)
      · have hlt : b < 0 := by simpa using hd
        refine ⟨_,rfl,_,rfl,?_⟩
        refine ⟨_,rfl,_,rfl,_,_,rfl,rfl,⟨by omega,bits_neg bg⟩,_,rfl,_,rfl,_,_,rfl,rfl,⟨by omega,bits_neg bg⟩,sz (by simp),fun p hp => ?_⟩
        exact k1 hb p _ _ (frac_fdiv hb _ (by rw [if_pos hlt])) (bits_fdiv ba) (bits_fdiv bb) hp
      · have hlt : ¬ b < 0 := by simpa using hd
        refine ⟨_,rfl,_,rfl,_,_,rfl,rfl,⟨by omega,bg⟩,_,rfl,_,rfl,_,_,rfl,rfl,⟨by omega,bg⟩,sz (by simp),fun p hp => ?_⟩
        exact k1 hb p _ _ (frac_fdiv hb _ (by rw [if_neg hlt])) (bits_fdiv ba) (bits_fdiv bb) hp
theorem S_sign_of : FnScope ["number"] ["number"] (defScope (top 8)) := ⟨rfl,rfl,rfl,by decide +kernel,rfl,by decide +kernel,by decide +kernel⟩
theorem fn_sign_of (D_sign_of : Df K mg "sign_of" (top 8)) : Fn P w K mg base "sign_of" ["number"] 1 spSign := by
  refine D_sign_of.fn S_sign_of (fun _ _ _ _ _ _ us hl => match us,hl with | [_],_ => rfl) (fun vs H Q E h => ?_) (fun f cdv A outer s H vs Q E hr h => ?_)
  · obtain ⟨n,rfl,_⟩ := h
    rfl
  · obtain ⟨n,rfl,q⟩ := h
    refine ⟨_,(pss_cons (ps_if (pt_cmpR op_gt (pv 0) pe_int (nomark _)) (pss_one (ps_ret pe_int)) pss_nil) (pss_cons (ps_if (pt_cmpR op_lt (pv 0) pe_int (nomark _)) (pss_one (ps_ret (pe_un un_neg pe_int))) pss_nil) (pss_one (ps_ret pe_int)))),?_⟩
    unfold sg at q
    refine ⟨_,rfl,_,_,rfl,rfl,_,rfl,ite3 (fun h1 => ?_) (fun h1 => ?_)⟩
    · rw [if_pos (by simpa using h1)] at q
      exact q
    · rw [if_neg (by simpa using h1)] at q
      refine ⟨_,rfl,_,_,rfl,rfl,_,rfl,ite3 (fun h2 => ?_) (fun h2 => ?_)⟩
      · rw [if_pos (by simpa using h2)] at q
        exact ⟨_,rfl,q⟩
      · rw [if_neg (by simpa using h2)] at q
        exact q
theorem S_signed_square : FnScope ["number"] ["number"] (defScope (top 9)) := ⟨rfl,rfl,rfl,by decide +kernel,rfl,by decide +kernel,by decide +kernel⟩
theorem fn_signed_square (D_signed_square : Df K mg "signed_square" (top 9)) (T : Txt mg) : Fn P w K mg base "signed_square" ["number"] 1 spSsq := by
  refine D_signed_square.fn S_signed_square (fun _ _ _ _ _ _ us hl => match us,hl with | [_],_ => rfl) (fun vs H Q E h => ?_) (fun f cdv A outer s H vs Q E hr h => ?_)
  · obtain ⟨n,rfl,_⟩ := h
    rfl
  · obtain ⟨n,rfl,bn,q⟩ := h
    refine ⟨_,(pss_one (ps_ret (pe_op op_mulX (pv 0) (pe_callB call_abs (by rfl) T.z_abs bt_abs (pa_cons (pv 0) pa_nil))))),?_⟩
    exact ⟨_,rfl,_,rfl,_,rfl,_,_,rfl,rfl,CM.b bn (bits_abs bn) (by decide) (by decide),q⟩
theorem S_sign_with_root : FnScope ["whole","part","under"] ["whole","part","under"] (defScope (top 10)) := ⟨rfl,rfl,rfl,by decide +kernel,rfl,by decide +kernel,by decide +kernel⟩
theorem fn_sign_with_root (D_sign_with_root : Df K mg "sign_with_root" (top 10)) (F_sign_of : Fn P w K mg base "sign_of" ["number"] 1 spSign) (F_signed_square : Fn P w K mg base "signed_square" ["number"] 1 spSsq) : Fn P w K mg base "sign_with_root" ["whole","part","under"] 2 spSwr := by
  refine D_sign_with_root.fn S_sign_with_root (fun _ _ _ _ _ _ us hl => match us,hl with | [_,_,_],_ => rfl) (fun vs H Q E h => ?_) (fun f cdv A outer s H vs Q E hr h => ?_)
  · obtain ⟨a,p,u,rfl,_⟩ := h
    rfl
  · obtain ⟨a,p,u,rfl,⟨ba,bp,bu⟩,q⟩ := h
    refine ⟨_,(pss_one (ps_ret (pe_fn F_sign_of (hr.mono (by decide)) (by rfl) (pa_cons (pe_op op_add (pe_fn F_signed_square (hr.mono (by decide)) (by rfl) (pa_cons (pv 0) pa_nil)) (pe_op op_mulX (pe_fn F_signed_square (hr.mono (by decide)) (by rfl) (pa_cons (pv 1) pa_nil)) (pv 2))) pa_nil)))),?_⟩
    exact ⟨_,rfl,a,rfl,bits_le ba (by decide),_,rfl,p,rfl,bits_le bp (by decide),_,rfl,_,_,rfl,rfl,CM.b (ssq_bits bp) bu (by decide) (by decide),_,_,rfl,rfl,_,rfl,q⟩
theorem S_sign_with_roots : FnScope ["whole","part","under","share","below","roots","even"] ["whole","part","under","share","below"] (defScope (top 11)) := ⟨rfl,rfl,rfl,by decide +kernel,rfl,by decide +kernel,by decide +kernel⟩
theorem fn_sign_with_roots (D_sign_with_roots : Df K mg "sign_with_roots" (top 11)) (F_sign_of : Fn P w K mg base "sign_of" ["number"] 1 spSign) (F_signed_square : Fn P w K mg base "signed_square" ["number"] 1 spSsq) (F_sign_with_root : Fn P w K mg base "sign_with_root" ["whole","part","under"] 2 spSwr) : Fn P w K mg base "sign_with_roots" ["whole","part","under","share","below"] 3 spSwrs := by
  refine D_sign_with_roots.fn S_sign_with_roots (fun _ _ _ _ _ _ us hl => match us,hl with | [_,_,_,_,_],_ => rfl) (fun vs H Q E h => ?_) (fun f cdv A outer s H vs Q E hr h => ?_)
  · obtain ⟨a,p,u,c,b,rfl,_⟩ := h
    rfl
  · obtain ⟨a,p,u,c,b,rfl,⟨ba,bp,bu,bc,bb⟩,q⟩ := h
    refine ⟨_,(pss_cons (ps_set (i := 5) S_sign_with_roots.nd rfl (Or.inl rfl) (pe_fn F_sign_of (hr.mono (by decide)) (by rfl) (pa_cons (pe_op op_add (pe_op op_mulX (pe_fn F_signed_square (hr.mono (by decide)) (by rfl) (pa_cons (pv 1) pa_nil)) (pv 2)) (pe_op op_mulX (pe_fn F_signed_square (hr.mono (by decide)) (by rfl) (pa_cons (pv 3) pa_nil)) (pv 4))) pa_nil))) (pss_cons (ps_if (pt_cmpR op_ge (pe_op op_mulX (pe_fn F_sign_of (hr.mono (by decide)) (by rfl) (pa_cons (pv 0) pa_nil)) (pv 5)) pe_int (nomark _)) (pss_one (ps_ret (pe_fn F_sign_of (hr.mono (by decide)) (by rfl) (pa_cons (pe_op op_add (pe_fn F_sign_of (hr.mono (by decide)) (by rfl) (pa_cons (pv 0) pa_nil)) (pv 5)) pa_nil)))) pss_nil) (pss_cons (ps_set (i := 6) S_sign_with_roots.nd rfl (Or.inl rfl) (pe_op op_sub (pe_op op_sub (pe_op op_mulX (pv 0) (pv 0)) (pe_op op_mulX (pe_op op_mulX (pv 1) (pv 1)) (pv 2))) (pe_op op_mulX (pe_op op_mulX (pv 3) (pv 3)) (pv 4)))) (pss_one (ps_ret (pe_op op_mulX (pe_fn F_sign_of (hr.mono (by decide)) (by rfl) (pa_cons (pv 0) pa_nil)) (pe_fn F_sign_with_root (hr.mono (by decide)) (by rfl) (pa_cons (pv 6) (pa_cons (pe_op op_mulX (pe_op op_mulX (pe_un un_neg pe_int) (pv 1)) (pv 3)) (pa_cons (pe_op op_mulX (pv 2) (pv 4)) pa_nil)))))))))),?_⟩
    refine ⟨_,rfl,p,rfl,bits_le bp (by decide),_,rfl,_,_,rfl,rfl,CM.b (ssq_bits bp) bu (by decide) (by decide),_,rfl,c,rfl,bits_le bc (by decide),_,rfl,_,_,rfl,rfl,CM.b (ssq_bits bc) bb (by decide) (by decide),_,_,rfl,rfl,_,rfl,?_⟩
    unfold swrs at q
    refine ⟨_,rfl,a,rfl,_,rfl,_,_,rfl,rfl,CM.b (sg_bits _) (sg_bits _) (by decide) (by decide),_,_,rfl,rfl,_,rfl,ite3 (fun h1 => ?_) (fun h1 => ?_)⟩
    · rw [if_pos (by simpa using h1)] at q
      exact ⟨_,rfl,a,rfl,_,rfl,_,_,rfl,rfl,_,rfl,q⟩
    · rw [if_neg (by simpa using h1)] at q
      have m2 : ∀ {i j : Int},bits i ≤ 1000 → bits j ≤ 1000 → bits (i * j) ≤ 2000 := fun hi hj => bits_mul hi hj
      have m3 : ∀ {i j : Int},bits i ≤ 2000 → bits j ≤ 1000 → bits (i * j) ≤ 3000 := fun hi hj => bits_mul hi hj
      have cm : ∀ {i j : Int},bits i ≤ 5000 → bits j ≤ 5000 → CM i j := fun hi hj => CM.b hi hj (by decide) (by decide)
      have w : ∀ {i : Int} {m : Nat},bits i ≤ m → m ≤ 5000 → bits i ≤ 5000 := fun h hm => bits_le h hm
      have ba' := w ba (by decide)
      have bp' := w bp (by decide)
      have bc' := w bc (by decide)
      have bu' := w bu (by decide)
      have bb' := w bb (by decide)
      refine ⟨_,rfl,_,rfl,_,_,rfl,rfl,cm ba' ba',_,rfl,_,rfl,_,_,rfl,rfl,cm bp' bp',_,rfl,_,_,rfl,rfl,cm (w (m2 bp bp) (by decide)) bu',_,_,rfl,rfl,_,rfl,_,rfl,_,_,rfl,rfl,cm bc' bc',_,rfl,_,_,rfl,rfl,cm (w (m2 bc bc) (by decide)) bb',_,_,rfl,rfl,?_⟩
      have b2 : bits (-2 : Int) ≤ 1000 := bits_le (bits_small (by decide) (by decide)) (by decide)
      have be : bits (a * a - p * p * u - c * c * b) ≤ 8000 := bits_le (bits_sub (n := 3001) (bits_sub (n := 3000) (bits_le (m2 ba ba) (by decide)) (m3 (m2 bp bp) bu)) (bits_le (m3 (m2 bc bc) bb) (by decide))) (by decide)
      refine ⟨_,rfl,a,rfl,_,rfl,_,rfl,_,rfl,_,_,rfl,rfl,cm (w b2 (by decide)) bp',_,rfl,_,_,rfl,rfl,cm (w (m2 b2 bp) (by decide)) bc',_,rfl,_,rfl,_,_,rfl,rfl,cm bu' bb',_,_,_,rfl,⟨be,bits_le (m3 (m2 b2 bp) bc) (by decide),bits_le (m2 bu bb) (by decide)⟩,_,_,rfl,rfl,?_,q⟩
      exact CM.l (by have := sg_small a; exact lt64s (by omega) (by omega))
theorem S_root_order : FnScope ["one","other","whole"] ["one","other"] (defScope (top 12)) := ⟨rfl,rfl,rfl,by decide +kernel,rfl,by decide +kernel,by decide +kernel⟩
theorem fn_root_order (D_root_order : Df K mg "root_order" (top 12)) (F_sign_with_roots : Fn P w K mg base "sign_with_roots" ["whole","part","under","share","below"] 3 spSwrs) : Fn P w K mg base "root_order" ["one","other"] 4 (spRo K) := by
  refine D_root_order.fn S_root_order (fun _ _ _ _ _ _ us hl => match us,hl with | [_,_],_ => rfl) (fun vs H Q E h => ?_) (fun f cdv A outer s H vs Q E hr h => ?_)
  · obtain ⟨p,q,a0,a1,a2,a3,b0,b1,b2,b3,rfl,_⟩ := h
    rfl
  · obtain ⟨p,q,a0,a1,a2,a3,b0,b1,b2,b3,rfl,ra,rb,k⟩ := h
    have cm : ∀ {i j : Int},bits i ≤ 450 → bits j ≤ 450 → CM i j := fun hi hj => CM.b hi hj (by decide) (by decide)
    have m2 : ∀ {i j : Int},bits i ≤ 450 → bits j ≤ 450 → bits (i * j) ≤ 900 := fun hi hj => bits_mul hi hj
    refine ⟨_,(pss_cons (ps_set (i := 2) S_root_order.nd rfl (Or.inl rfl) (pe_op op_sub (pe_op op_mulX (pe_ix ix_tup (pv 0) pe_int (fun _ _ => rfl)) (pe_ix ix_tup (pv 1) pe_int (fun _ _ => rfl))) (pe_op op_mulX (pe_ix ix_tup (pv 1) pe_int (fun _ _ => rfl)) (pe_ix ix_tup (pv 0) pe_int (fun _ _ => rfl))))) (pss_one (ps_ret (pe_fn F_sign_with_roots (hr.mono (by decide)) (by rfl) (pa_cons (pv 2) (pa_cons (pe_op op_mulX (pe_ix ix_tup (pv 0) pe_int (fun _ _ => rfl)) (pe_ix ix_tup (pv 1) pe_int (fun _ _ => rfl))) (pa_cons (pe_ix ix_tup (pv 0) pe_int (fun _ _ => rfl)) (pa_cons (pe_op op_mulX (pe_un un_neg (pe_ix ix_tup (pv 1) pe_int (fun _ _ => rfl))) (pe_ix ix_tup (pv 0) pe_int (fun _ _ => rfl))) (pa_cons (pe_ix ix_tup (pv 1) pe_int (fun _ _ => rfl)) pa_nil))))))))),?_⟩
    refine ⟨_,rfl,p,_,_,_,rfl,rfl,ra.at_,rfl,_,rfl,q,_,_,_,rfl,rfl,rb.at_,rfl,_,_,rfl,rfl,cm ra.b0 rb.b3,_,rfl,q,_,_,_,rfl,rfl,rb.at_,rfl,_,rfl,p,_,_,_,rfl,rfl,ra.at_,rfl,_,_,rfl,rfl,cm rb.b0 ra.b3,_,_,rfl,rfl,?_⟩
    refine ⟨_,rfl,_,rfl,p,_,_,_,rfl,rfl,ra.at_,rfl,_,rfl,q,_,_,_,rfl,rfl,rb.at_,rfl,_,_,rfl,rfl,cm ra.b1 rb.b3,_,rfl,p,_,_,_,rfl,rfl,ra.at_,rfl,_,rfl,q,_,_,_,rfl,rfl,rb.at_,rfl,_,rfl,_,rfl,p,_,_,_,rfl,rfl,ra.at_,rfl,_,_,rfl,rfl,cm (bits_neg rb.b1) ra.b3,_,rfl,q,_,_,_,rfl,rfl,rb.at_,rfl,?_⟩
    exact ⟨_,_,_,_,_,rfl,⟨bits_le (bits_sub (m2 ra.b0 rb.b3) (m2 rb.b0 ra.b3)) (by decide),bits_le (m2 ra.b1 rb.b3) (by decide),bits_le ra.b2 (by decide),bits_le (m2 (bits_neg rb.b1) ra.b3) (by decide),bits_le rb.b2 (by decide)⟩,k⟩
theorem S_law_mixed : FnScope ["cell","k","number"] ["cell","k"] (defScope (top 22)) := ⟨rfl,rfl,rfl,by decide +kernel,rfl,by decide +kernel,by decide +kernel⟩
theorem fn_law_mixed (D_law_mixed : Df K mg "_law_mixed" (top 22)) : Fn P w K mg base "_law_mixed" ["cell","k"] 1 spMixed := by
  refine D_law_mixed.fn S_law_mixed (fun _ _ _ _ _ _ us hl => match us,hl with | [_,_],_ => rfl) (fun vs H Q E h => ?_) (fun f cdv A outer s H vs Q E hr h => ?_)
  · obtain ⟨c,k,rfl,_⟩ := h
    rfl
  · obtain ⟨c,k,rfl,q⟩ := h
    refine ⟨_,(pss_cons (ps_set (i := 2) S_law_mixed.nd rfl (Or.inl rfl) (pe_op op_mod (pe_op op_mulX (pe_op op_add (pe_op op_add (pe_op op_mod (pv 0) pe_int) (pe_op op_mulX pe_int (pv 1))) pe_int) pe_int) pe_int)) (pss_cons (ps_set (i := 2) S_law_mixed.nd rfl (Or.inl rfl) (pe_op op_mod (pe_op op_add (pe_op op_mod (pe_op op_mulX (pv 2) (pv 2)) pe_int) (pe_op op_mulX pe_int (pv 1))) pe_int)) (pss_one (ps_ret (pe_op op_mod (pe_op op_mulX (pv 2) pe_int) pe_int))))),?_⟩
    refine ⟨_,rfl,c,_,rfl,rfl,(by show (0 : Int) < 2147483629; decide),_,rfl,_,_,rfl,rfl,CM.l ⟨by decide,by decide⟩,_,_,rfl,rfl,_,_,rfl,rfl,_,_,rfl,rfl,CM.r ⟨by decide,by decide⟩,_,_,rfl,rfl,(by show (0 : Int) < 2147483647; decide),?_⟩
    refine ⟨_,rfl,_,rfl,_,_,rfl,rfl,CM.l (lt64 (Int.emod_nonneg _ (by decide)) (Int.emod_lt_of_pos _ (by decide))),_,_,rfl,rfl,(by show (0 : Int) < 2147483629; decide),_,rfl,_,_,rfl,rfl,CM.l ⟨by decide,by decide⟩,_,_,rfl,rfl,_,_,rfl,rfl,(by show (0 : Int) < 2147483629; decide),?_⟩
    exact ⟨_,rfl,_,_,rfl,rfl,CM.r ⟨by decide,by decide⟩,_,_,rfl,rfl,(by show (0 : Int) < 2147483647; decide),q _⟩
theorem S_law_numbers : FnScope ["cell","many","base","found","left","k","number","turns"] ["cell","many","base"] (defScope (top 23)) := ⟨rfl,rfl,rfl,by decide +kernel,rfl,by decide +kernel,by decide +kernel⟩
theorem fn_law_numbers (D_law_numbers : Df K mg "_law_numbers" (top 23)) (F_law_mixed : Fn P w K mg base "_law_mixed" ["cell","k"] 1 spMixed) (T : Txt mg) : Fn P w K mg base "_law_numbers" ["cell","many","base"] 2 spNumbers := by
  refine D_law_numbers.fn S_law_numbers (fun _ _ _ _ _ _ us hl => match us,hl with | [_,_,_],_ => rfl) (fun vs H Q E h => ?_) (fun f cdv A outer s H vs Q E hr h => ?_)
  · obtain ⟨c,m,b,rfl,_⟩ := h
    rfl
  · obtain ⟨c,m,b,rfl,hm,⟨hb,bb⟩,q⟩ := h
    refine ⟨_,(pss_cons (ps_set (i := 3) S_law_numbers.nd rfl (Or.inl rfl) (pe_lst pa_nil)) (pss_cons (ps_set (i := 4) S_law_numbers.nd rfl (Or.inl rfl) (pe_op op_sub (pv 0) (pe_op op_pow pe_int pe_int))) (pss_cons (ps_for PassesOwn.never rfl (pi_range1 rfl T.z_range (pa_cons (pv 1) pa_nil)) (pg_name (i := 5) S_law_numbers.nd rfl (Or.inl rfl)) (pss_cons (ps_set (i := 6) S_law_numbers.nd rfl (Or.inl rfl) (pv 4)) (pss_cons (ps_if (pt_cmpR op_gt (pv 4) pe_int (nomark _)) (pss_one (ps_set (i := 4) S_law_numbers.nd rfl (Or.inl rfl) (pe_op op_fdivP (pv 4) (pv 2)))) (pss_cons (ps_set (i := 6) S_law_numbers.nd rfl (Or.inl rfl) pe_int) (pss_cons (ps_set (i := 7) S_law_numbers.nd rfl (Or.inl rfl) pe_int) (pss_one (ps_while PassesOwn.never (pt_cmpR op_lt (pe_op op_mulX (pv 7) pe_int) (pe_op op_add (pe_bm0 PySem.F.plainAttrs_int PySem.F.slot_int_bit_length PySem.F.type_int_bit_length mt_bitlen (pv 2)) pe_int) (nomark _)) (pss_cons (ps_set (i := 6) S_law_numbers.nd rfl (Or.inl rfl) (pe_op op_add (pe_op op_mulX (pv 6) pe_int) (pe_fn F_law_mixed (hr.mono (by decide)) (by rfl) (pa_cons (pv 0) (pa_cons (pe_op op_add (pe_op op_mulX pe_int (pv 5)) (pv 7)) pa_nil))))) (pss_one (ps_set (i := 7) S_law_numbers.nd rfl (Or.inl rfl) (pe_op op_add (pv 7) pe_int))))))))) (pss_one (ps_expr (pe_bm PySem.F.plainAttrs_list PySem.F.slot_list_append PySem.F.type_list_append mt_append (pv 3) (pa_cons (pe_op op_mod (pv 6) (pv 2)) pa_nil))))))) (pss_one (ps_ret (pv 3)))))),?_⟩
    refine ⟨by decide,fun l hl => ?_⟩
    refine ⟨_,rfl,_,_,rfl,rfl,⟨by decide,by decide,by decide⟩,_,_,rfl,rfl,?_⟩
    refine ⟨_,rfl,_,rfl,by omega,by omega,?_⟩
    rw [Int.toNat_natCast]
    refine for_range (fun i σ H' => ∃ (ns : List Int) (left : Int) (x5 x6 x7 : Option V),σ = [some (.int c),some (.int (m : Int)),some (.int b),some (.ref l),some (.int left),x5,x6,x7] ∧ Same H H' ∧ H' l = some (.lst (ns.map V.int)) ∧ ns.length = i ∧ ∀ n ∈ ns,0 ≤ n ∧ n < b)
      ⟨[],_,_,_,_,rfl,Same.new hl,upd_same,rfl,fun n h => nomatch h⟩ ?_ ?_
    · rintro i σ H' hi ⟨ns,left,x5,x6,x7,rfl,sm,hl',hlen,hns⟩
      refine ⟨_,rfl,?_⟩
      refine ⟨_,rfl,_,_,rfl,rfl,_,rfl,?_⟩
      have tail : ∀ (n left' : Int) (x7' : Option V),(tDrop (tBM K "list" rAppend (tVar 3) (tCons (tOp (rI (fun _ j => 0 < j) fun i j => .int (i % j)) (tVar 6) (tVar 2)) tNil))) { nx := fun σ H' => ∃ (ns : List Int) (left : Int) (x5 x6 x7 : Option V),σ = [some (.int c),some (.int (m : Int)),some (.int b),some (.ref l),some (.int left),x5,x6,x7] ∧ Same H H' ∧ H' l = some (.lst (ns.map V.int)) ∧ ns.length = i + 1 ∧ ∀ n ∈ ns,0 ≤ n ∧ n < b,rt := Q } [some (.int c),some (.int (m : Int)),some (.int b),some (.ref l),some (.int left'),some (.int (0 + (i : Int))),some (.int n),x7'] H' := by
        intro n left' x7'
        refine ⟨_,rfl,.inl ⟨rfl,_,SqL.of hl'⟩,_,rfl,_,rfl,n,b,rfl,rfl,hb,l,_,_,rfl,rfl,hl',?_,?_⟩
        · rw [List.length_map]
          exact small1000 (by omega)
        · refine ⟨ns ++ [n % b],left',_,_,_,rfl,?_,?_,?_,?_⟩
          · intro a o ea
            rw [upd_ne (ne_of_none ea hl)]
            exact sm a o ea
          · rw [upd_same,List.map_append]
            rfl
          · rw [List.length_append,hlen]
            rfl
          · intro y hy
            rcases List.mem_append.mp hy with hy | hy
            · exact hns y hy
            · rw [List.mem_singleton.mp hy]
              exact ⟨Int.emod_nonneg _ (by omega),Int.emod_lt_of_pos _ hb⟩
      refine ite3 (fun hc => ?_) (fun hc => ?_)
      · refine ⟨_,rfl,_,rfl,_,_,rfl,rfl,⟨hb,bits_le bb (by decide)⟩,?_⟩
        exact tail left (left / b) x7
      · refine while_by (fun σ H2 => ∃ (n t : Int),σ = [some (.int c),some (.int (m : Int)),some (.int b),some (.ref l),some (.int left),some (.int (0 + (i : Int))),some (.int n),some (.int t)] ∧ H2 = H' ∧ 0 ≤ t)
          (fun σ _ => match σ with | [_,_,_,_,_,_,_,some (.int t)] => (((bits b : Nat) : Int) + 8 - t).toNat | _ => 0) ⟨_,_,rfl,rfl,Int.le_refl 0⟩ ?_ ?_
        · rintro σ H2 ⟨n,t,rfl,rfl,ht⟩
          refine ⟨_,rfl,_,_,rfl,rfl,CM.r ⟨by decide,by decide⟩,_,rfl,rfl,b,rfl,rfl,_,_,rfl,rfl,_,_,rfl,rfl,_,rfl,?_⟩
          refine ite3 (fun hd => ?_) (fun hd => ?_)
          · have hd' : t * 30 < ((bits b : Nat) : Int) + 8 := by simpa using hd
            refine ⟨_,rfl,_,_,rfl,rfl,CM.r ⟨by decide,by decide⟩,_,rfl,_,rfl,_,_,rfl,rfl,CM.l ⟨by decide,by decide⟩,_,rfl,_,_,rfl,rfl,c,_,rfl,fun z => ⟨_,_,rfl,rfl,?_⟩⟩
            refine ⟨_,rfl,_,_,rfl,rfl,⟨_,t + 1,rfl,rfl,by omega⟩,?_⟩
            show (((bits b : Nat) : Int) + 8 - (t + 1)).toNat < (((bits b : Nat) : Int) + 8 - t).toNat
            omega
          · exact tail n left _
        · rintro σ H2 Q1 Q2 hq h
          obtain ⟨v,e,i1,j1,e1,e2,cm,v2,e3,ty,i2,e4,e5,i3,j3,e6,e7,i4,j4,e8,e9,k,ek,r⟩ := h
          exact ⟨v,e,i1,j1,e1,e2,cm,v2,e3,ty,i2,e4,e5,i3,j3,e6,e7,i4,j4,e8,e9,k,ek,hq _ _ r⟩
    · rintro σ H' ⟨ns,left,x5,x6,x7,rfl,sm,hl',hlen,hns⟩
      refine ⟨_,rfl,?_⟩
      exact q l ns H' hlen hns sm hl'
theorem S_law_whole : FnScope ["found"] ["found"] (defScope (top 24)) := ⟨rfl,rfl,rfl,by decide +kernel,rfl,by decide +kernel,by decide +kernel⟩
theorem fn_law_whole (D_law_whole : Df K mg "_law_whole" (top 24)) (T : Txt mg) : Fn P w K mg base "_law_whole" ["found"] 1 spWhole := by
  refine D_law_whole.fn S_law_whole (fun _ _ _ _ _ _ us hl => match us,hl with | [_],_ => rfl) (fun vs H Q E h => ?_) (fun f cdv A outer s H vs Q E hr h => ?_)
  · obtain ⟨x,t,rfl,_⟩ := h
    rfl
  · obtain ⟨x,t,rfl,k,q⟩ := h
    refine ⟨_,(pss_one (ps_ret (pe_and (pe_callB call_isinst (by rfl) T.z_isinstance bt_isinstance (pa_cons (pv 0) (pa_cons (pe_ty T.z_int bt_int) pa_nil))) (pe_one (pe_not (pe_callB call_isinst (by rfl) T.z_isinstance bt_isinstance (pa_cons (pv 0) (pa_cons (pe_ty T.z_bool bt_bool) pa_nil)))))))),?_⟩
    refine ⟨_,rfl,x,t,"int",rfl,k,.inl rfl,_,rfl,?_⟩
    refine ite3 (fun hc => ?_) (fun hc => ?_)
    · refine ⟨_,rfl,x,t,"bool",rfl,k,.inr (.inl rfl),_,rfl,?_⟩
      rw [(whole_sub k).1 hc]
      exact q
    · rw [(whole_sub k).2 hc] at q
      exact q
theorem newton {n f : Int} (hn : 0 ≤ n) (hf : 0 < f) : n < ((f + n / f) / 2 + 1) * ((f + n / f) / 2 + 1) ∧ (n < f * f → (f + n / f) / 2 < f) ∧ 0 ≤ (f + n / f) / 2 := by
  have q0 : 0 ≤ n / f := Int.ediv_nonneg hn (by omega)
  have q1 : n < (n / f + 1) * f := Int.lt_ediv_add_one_mul_self n hf
  refine ⟨?_,fun h => ?_,by omega⟩
  · generalize eg : (f + n / f) / 2 = g
    have h2 : f + (n / f + 1) ≤ 2 * (g + 1) := by omega
    have s1 := sq_mono (x := f + (n / f + 1)) (y := 2 * (g + 1)) (by omega) h2
    have e1 : 2 * (g + 1) * (2 * (g + 1)) = 4 * ((g + 1) * (g + 1)) := by grind
    have e2 : (f + (n / f + 1)) * (f + (n / f + 1)) = 4 * ((n / f + 1) * f) + (f - (n / f + 1)) * (f - (n / f + 1)) := by grind
    have e3 : 0 ≤ (f - (n / f + 1)) * (f - (n / f + 1)) := by
      rcases Int.le_total 0 (f - (n / f + 1)) with g0 | g0
      · exact Int.mul_nonneg g0 g0
      · exact Int.mul_nonneg_of_nonpos_of_nonpos g0 g0
    omega
  · have : n / f < f := Int.ediv_lt_of_lt_mul hf h
    omega
theorem start_root {n : Int} (hn : 0 ≤ n) : n < ((1 : Int) * 2 ^ ((((bits n : Nat) : Int) + 1) / 2).toNat + 1) * ((1 : Int) * 2 ^ ((((bits n : Nat) : Int) + 1) / 2).toNat + 1) ∧ 0 < (1 : Int) * 2 ^ ((((bits n : Nat) : Int) + 1) / 2).toNat := by
  generalize ek : ((((bits n : Nat) : Int) + 1) / 2).toNat = k
  have hk : bits n ≤ k + k := by omega
  have h1 := bits_lt hk
  have hp : (0 : Int) < 2 ^ k := Int.pow_pos (by decide)
  have e1 : ((2 : Int) ^ k) * 2 ^ k = ((2 ^ (k + k) : Nat) : Int) := by rw [← Int.pow_add]; norm_cast
  rw [Int.one_mul]
  refine ⟨?_,hp⟩
  have e2 : ((2 : Int) ^ k + 1) * (2 ^ k + 1) = 2 ^ k * 2 ^ k + 2 * 2 ^ k + 1 := by grind
  have h2 : n < ((2 ^ (k + k) : Nat) : Int) := by omega
  omega
inductive spRoot (vs : List V) (H : Hp) (Q : VK) (x_3 : XK) : Prop
  | mk : ∀ n : Int,(vs = [.int n]) → (0 ≤ n) → (bits n ≤ 15000) → (∀ r : Int,Rtf 1 n r → Q (.int r) H) → spRoot vs H Q x_3
inductive spSide (vs : List V) (H : Hp) (Q : VK) (x_3 : XK) : Prop
  | mk : ∀ n : Int,(vs = [.int n]) → (Q (.int (sg n)) H) → spSide vs H Q x_3
inductive spLSign (vs : List V) (H : Hp) (Q : VK) (x_3 : XK) : Prop
  | mk : ∀ w m u n l : Int,(vs = [.int w,.int m,.int u,.int n,.int l]) → ((0 ≤ u ∧ 0 ≤ l)) → ((bits w ≤ 1481 ∧ bits m ≤ 1481 ∧ bits u ≤ 200 ∧ bits n ≤ 1481 ∧ bits l ≤ 200)) → (Q (.int (swrs w m u (-n) l)) H) → spLSign vs H Q x_3
structure Rn (H : Hp) (p : Addr) (a0 a1 a2 a3 : Int) (n : Nat) : Prop where
  at_ : H p = some (.tup [.int a0,.int a1,.int a2,.int a3])
  b0 : bits a0 ≤ n
  b1 : bits a1 ≤ n
  b2 : bits a2 ≤ n
  b3 : bits a3 ≤ n
  p2 : 0 ≤ a2
  p3 : 0 < a3
theorem Rn.mono {H H' : Hp} {p : Addr} {a0 a1 a2 a3 : Int} {n : Nat} (r : Rn H p a0 a1 a2 a3 n) (s : Same H H') : Rn H' p a0 a1 a2 a3 n := ⟨s _ _ r.at_,r.b0,r.b1,r.b2,r.b3,r.p2,r.p3⟩
theorem Rn.wide {H : Hp} {p : Addr} {a0 a1 a2 a3 : Int} {m n : Nat} (r : Rn H p a0 a1 a2 a3 m) (h : m ≤ n) : Rn H p a0 a1 a2 a3 n := ⟨r.at_,bits_le r.b0 h,bits_le r.b1 h,bits_le r.b2 h,bits_le r.b3 h,r.p2,r.p3⟩
theorem Rn.rt {K : PySem.W.Frag} {H : Hp} {p : Addr} {a0 a1 a2 a3 : Int} (r : Rn H p a0 a1 a2 a3 200) : Rt K H p a0 a1 a2 a3 := ⟨SqT.of r.at_,bits_le r.b0 (by decide),bits_le r.b1 (by decide),bits_le r.b2 (by decide),bits_le r.b3 (by decide)⟩
theorem ssq_odd (x : Int) : ssq (-x) = -ssq x := by
  rcases Int.lt_trichotomy x 0 with h | h | h
  · rw [ssq_n h,ssq_p (x := -x) (by omega)]; grind
  · subst h; rfl
  · rw [ssq_p (x := x) (by omega),ssq_n (x := -x) (by omega)]; grind
theorem swrs_swap (w m u n l : Int) : swrs (-w) n l (-m) u = -swrs w m u (-n) l := by
  unfold swrs swr
  rw [ssq_odd m,ssq_odd n,sg_neg w,show ssq n * l + -ssq m * u = -(ssq m * u + -ssq n * l) by grind,sg_neg (ssq m * u + -ssq n * l),Int.neg_mul_neg,show -w * -w - n * n * l - -m * -m * u = w * w - m * m * u - -n * -n * l by grind,show -2 * n * -m = -2 * m * -n by grind,Int.mul_comm l u]
  by_cases g : sg w * sg (ssq m * u + -ssq n * l) ≥ 0
  · rw [if_pos g,if_pos g,show -sg w + -sg (ssq m * u + -ssq n * l) = -(sg w + sg (ssq m * u + -ssq n * l)) by omega,sg_neg]
  · rw [if_neg g,if_neg g,Int.neg_mul]
theorem ro_swap (a0 a1 a2 a3 b0 b1 b2 b3 : Int) : ro b0 b1 b2 b3 a0 a1 a2 a3 = 0 - ro a0 a1 a2 a3 b0 b1 b2 b3 := by
  unfold ro
  have h := swrs_swap (a0 * b3 - b0 * a3) (a1 * b3) a2 (b1 * a3) b2
  rw [Int.neg_mul a1 b3,Int.neg_mul b1 a3,show b0 * a3 - a0 * b3 = -(a0 * b3 - b0 * a3) by omega,h]
  omega
theorem root_bits2 {n : Int} (hn : 0 ≤ n) (h : bits n ≤ 15000) : bits ((1 : Int) * 2 ^ ((((bits n : Nat) : Int) + 1) / 2).toNat) ≤ 7502 := by
  refine bits_of ?_
  generalize ek : ((((bits n : Nat) : Int) + 1) / 2).toNat = k
  have hk : k ≤ 7501 := by omega
  rw [Int.one_mul,Int.natAbs_pow]
  show 2 ^ k < 2 ^ 7502
  exact Nat.pow_lt_pow_right (by decide) (by omega)
theorem S_floor_root : FnScope ["number","guess"] ["number"] (defScope (top 13)) := ⟨rfl,rfl,rfl,by decide +kernel,rfl,by decide +kernel,by decide +kernel⟩
theorem fn_floor_root (D_floor_root : Df K mg "floor_root" (top 13)) : Fn P w K mg base "floor_root" ["number"] 1 spRoot := by
  refine D_floor_root.fn S_floor_root (fun _ _ _ _ _ _ us hl => match us,hl with | [_],_ => rfl) (fun vs H Q E h => ?_) (fun f cdv A outer s H vs Q E hr h => ?_)
  · obtain ⟨n,rfl,_⟩ := h
    rfl
  · obtain ⟨n,rfl,hn,bn,q⟩ := h
    refine ⟨_,(pss_cons (ps_set (i := 1) S_floor_root.nd rfl (Or.inl rfl) (pe_op op_shl pe_int (pe_op op_fdivP (pe_op op_add (pe_bm0 PySem.F.plainAttrs_int PySem.F.slot_int_bit_length PySem.F.type_int_bit_length mt_bitlen (pv 0)) pe_int) pe_int))) (pss_cons (ps_while PassesOwn.never (pt_cmpR op_gt (pe_op op_mulX (pv 1) (pv 1)) (pv 0) (nomark _)) (pss_one (ps_set (i := 1) S_floor_root.nd rfl (Or.inl rfl) (pe_op op_fdivP (pe_op op_add (pv 1) (pe_op op_fdivP (pv 0) (pv 1))) pe_int)))) (pss_one (ps_ret (pv 1))))),?_⟩
    have st := start_root hn
    have sb := root_bits2 hn bn
    refine ⟨_,rfl,rfl,n,rfl,rfl,_,_,rfl,rfl,_,_,rfl,rfl,⟨by decide,by decide⟩,_,_,rfl,rfl,⟨Int.ediv_nonneg (by omega) (by decide),?_,by decide⟩,?_⟩
    · show (((bits n : Nat) : Int) + 1) / 2 ≤ 1000000
      omega
    refine while_by (fun σ H' => ∃ f : Int,σ = [some (.int n),some (.int f)] ∧ H' = H ∧ 0 ≤ f ∧ n < (f + 1) * (f + 1) ∧ bits f ≤ 7502)
      (fun σ _ => match σ with | [_,some (.int f)] => f.toNat | _ => 0) ⟨_,rfl,rfl,by omega,st.1,sb⟩ ?_ ?_
    · rintro σ H' ⟨f,rfl,rfl,hf,hlt,bf⟩
      refine ⟨_,rfl,_,rfl,_,_,rfl,rfl,CM.b bf bf (by decide) (by decide),_,rfl,_,_,rfl,rfl,_,rfl,ite3 (fun hc => ?_) (fun hc => ?_)⟩
      · have hc : n < f * f := dec_t hc
        have hf0 : 0 < f := by
          rcases Int.lt_or_eq_of_le hf with h | h
          · exact h
          · rw [← h] at hc; simp at hc; omega
        obtain ⟨k1,k2,k3⟩ := newton hn hf0
        refine ⟨_,rfl,_,rfl,_,rfl,_,_,rfl,rfl,⟨hf0,bits_le bf (by decide)⟩,_,_,rfl,rfl,_,_,rfl,rfl,⟨by decide,by decide⟩,⟨(f + n / f) / 2,rfl,rfl,k3,k1,bits_range k3 (Int.le_of_lt (k2 hc)) bf⟩,?_⟩
        have := k2 hc
        show ((f + n / f) / 2).toNat < f.toNat
        omega
      · have hc : ¬ n < f * f := dec_f hc
        refine ⟨_,rfl,q f ⟨hf,by omega,by omega⟩⟩
    · rintro σ H' Q1 Q2 hq ⟨v,e,v2,e2,i,j,e3,e4,cm,v3,e5,i2,j2,e6,e7,k,ek,r⟩
      exact ⟨v,e,v2,e2,i,j,e3,e4,cm,v3,e5,i2,j2,e6,e7,k,ek,hq _ _ r⟩
inductive spSFl (K : PySem.W.Frag) (vs : List V) (H : Hp) (Q : VK) (x_3 : XK) : Prop
  | mk : ∀ (p : Addr) (a0 a1 a2 a3 sc : Int) (n kk k2 : Nat),(vs = [.ref p,.int sc]) → (Rt K H p a0 a1 a2 a3) → ((0 ≤ a2 ∧ 0 < a3)) → ((0 < sc ∧ bits sc ≤ n)) → ((n ≤ 4100 ∧ bits a0 ≤ kk ∧ bits a1 ≤ kk ∧ bits a2 ≤ 2 * k2 ∧ kk ≤ 450 ∧ k2 ≤ 500)) → (∀ F,SF a0 a1 a2 a3 sc F → bits F ≤ n + kk + k2 + 5 → Q (.int F) H) → spSFl K vs H Q x_3
inductive spBel (K : PySem.W.Frag) (vs : List V) (H : Hp) (Q : VK) (x_3 : XK) : Prop
  | mk : ∀ (p : Addr) (a0 a1 a2 a3 sc : Int) (n kk k2 : Nat),(vs = [.ref p,.int sc]) → (Rt K H p a0 a1 a2 a3) → ((0 ≤ a2 ∧ 0 < a3)) → ((0 < sc ∧ bits sc ≤ n)) → ((n ≤ 4100 ∧ bits a0 ≤ kk ∧ bits a1 ≤ kk ∧ bits a2 ≤ 2 * k2 ∧ kk ≤ 450 ∧ k2 ≤ 500)) → (∀ F H',SF (-a0) (-a1) a2 a3 sc F → bits F ≤ n + kk + k2 + 5 → Same H H' → Q (.int (-F - 1)) H') → spBel K vs H Q x_3
theorem rtf_bits {n R : Int} {m : Nat} (r : Rtf 1 n R) (h : bits n ≤ 2 * m) : bits R ≤ m + 1 := by
  have h1 := bits_lt h
  have lo := r.lo
  have nn := r.nn
  rw [Int.one_mul] at lo
  refine bits_of ?_
  refine Classical.byContradiction fun g => ?_
  have g1 : 2 ^ (m + 1) ≤ R.natAbs := by omega
  have g2 : 2 ^ (m + 1) * 2 ^ (m + 1) ≤ R.natAbs * R.natAbs := Nat.mul_le_mul g1 g1
  have e1 : R.natAbs * R.natAbs = (R * R).natAbs := (Int.natAbs_mul R R).symm
  have e2 : (R * R).natAbs ≤ n.natAbs := by have := Int.mul_nonneg nn nn; omega
  have e3 : 2 ^ (2 * m) ≤ 2 ^ (m + 1) * 2 ^ (m + 1) := by rw [← Nat.pow_add]; exact Nat.pow_le_pow_right (by decide) (by omega)
  omega
theorem ediv_bits {x s : Int} {m : Nat} (hs : 0 < s) (h : bits x ≤ m) : bits (x / s) ≤ m + 1 := by
  have h1 := bits_lt h
  refine bits_of ?_
  have e : (x / s).natAbs ≤ x.natAbs + 1 := by
    have q1 := Int.ediv_mul_le x (show s ≠ 0 by omega)
    have q2 := Int.lt_ediv_add_one_mul_self x hs
    generalize x / s = q at *
    rcases Int.lt_or_le q 0 with g | g
    · have a1 : q * s ≤ q * 1 := by
        have := Int.mul_le_mul_of_nonneg_left (show (1 : Int) ≤ s by omega) (show 0 ≤ -q by omega)
        have e1 : -q * s = -(q * s) := by grind
        omega
      have e2 : (q + 1) * s = q * s + s := by grind
      rcases Int.lt_or_le (q + 1) 0 with g2 | g2
      · have a2 : (q + 1) * s ≤ (q + 1) * 1 := by
          have := Int.mul_le_mul_of_nonneg_left (show (1 : Int) ≤ s by omega) (show 0 ≤ -(q + 1) by omega)
          have e1 : -(q + 1) * s = -((q + 1) * s) := by grind
          omega
        omega
      · omega
    · have a1 : q * 1 ≤ q * s := Int.mul_le_mul_of_nonneg_left (by omega) g
      omega
  have : 2 ^ (m + 1) = 2 * 2 ^ m := by rw [Nat.pow_succ]; omega
  have p : 0 < 2 ^ m := Nat.pow_pos (by decide)
  omega
theorem S_scaled_floor : FnScope ["number","scale","under","root"] ["number","scale"] (defScope (top 15)) := ⟨rfl,rfl,rfl,by decide +kernel,rfl,by decide +kernel,by decide +kernel⟩
theorem fn_scaled_floor (D_scaled_floor : Df K mg "scaled_floor" (top 15)) (F_floor_root : Fn P w K mg base "floor_root" ["number"] 1 spRoot) : Fn P w K mg base "scaled_floor" ["number","scale"] 2 (spSFl K) := by
  refine D_scaled_floor.fn S_scaled_floor (fun _ _ _ _ _ _ us hl => match us,hl with | [_,_],_ => rfl) (fun vs H Q E h => ?_) (fun f cdv A outer s H vs Q E hr h => ?_)
  · obtain ⟨p,a0,a1,a2,a3,sc,n,kk,k2,rfl,_⟩ := h
    rfl
  · obtain ⟨p,a0,a1,a2,a3,sc,n,kk,k2,rfl,r,⟨h2,h3⟩,⟨s0,sb⟩,⟨n1,c0,c1,c2,d1,d2⟩,q⟩ := h
    refine ⟨_,(pss_cons (ps_set (i := 2) S_scaled_floor.nd rfl (Or.inl rfl) (pe_op op_mulX (pe_op op_mulX (pe_op op_mulX (pe_op op_mulX (pv 1) (pv 1)) (pe_ix ix_tup (pv 0) pe_int (fun _ _ => rfl))) (pe_ix ix_tup (pv 0) pe_int (fun _ _ => rfl))) (pe_ix ix_tup (pv 0) pe_int (fun _ _ => rfl)))) (pss_cons (ps_set (i := 3) S_scaled_floor.nd rfl (Or.inl rfl) (pe_fn F_floor_root (hr.mono (by decide)) (by rfl) (pa_cons (pv 2) pa_nil))) (pss_cons (ps_if (pt_cmpR op_lt (pe_ix ix_tup (pv 0) pe_int (fun _ _ => rfl)) pe_int (nomark _)) (pss_one (ps_set (i := 3) S_scaled_floor.nd rfl (Or.inl rfl) (pe_ifExp (pt_cmpR op_eq (pe_op op_mulX (pv 3) (pv 3)) (pv 2) (nomark _)) (pe_un un_neg (pv 3)) (pe_op op_sub (pe_un un_neg (pv 3)) pe_int)))) pss_nil) (pss_one (ps_ret (pe_op op_fdivP (pe_op op_add (pe_op op_mulX (pv 1) (pe_ix ix_tup (pv 0) pe_int (fun _ _ => rfl))) (pv 3)) (pe_ix ix_tup (pv 0) pe_int (fun _ _ => rfl)))))))),?_⟩
    have m1 : bits (sc * sc) ≤ n + n := bits_mul sb sb
    have m2 : bits (sc * sc * a1) ≤ n + n + kk := bits_mul m1 c1
    have m3 : bits (sc * sc * a1 * a1) ≤ n + n + kk + kk := bits_mul m2 c1
    have m4 : bits (sc * sc * a1 * a1 * a2) ≤ 2 * (n + kk + k2) := bits_le (bits_mul m3 c2) (by omega)
    have n4 : 0 ≤ sc * sc * a1 * a1 * a2 := by
      have e : sc * sc * a1 * a1 = sc * a1 * (sc * a1) := by grind
      rw [e]
      have : 0 ≤ sc * a1 * (sc * a1) := by
        rcases Int.lt_or_le (sc * a1) 0 with g | g
        · exact Int.mul_nonneg_of_nonpos_of_nonpos (by omega) (by omega)
        · exact Int.mul_nonneg g g
      exact Int.mul_nonneg this h2
    refine ⟨_,rfl,_,rfl,_,_,rfl,rfl,CM.of sb sb ⟨by omega,by omega⟩,_,rfl,p,_,_,_,rfl,rfl,r.at_,rfl,_,_,rfl,rfl,CM.of m1 r.b1 ⟨by omega,by decide⟩,_,rfl,p,_,_,_,rfl,rfl,r.at_,rfl,_,_,rfl,rfl,CM.of m2 r.b1 ⟨by omega,by decide⟩,_,rfl,p,_,_,_,rfl,rfl,r.at_,rfl,_,_,rfl,rfl,CM.of m3 r.b2 ⟨by omega,by decide⟩,?_⟩
    refine ⟨_,rfl,_,rfl,n4,bits_le m4 (by omega),fun R hR => ?_⟩
    have rb : bits R ≤ n + kk + k2 + 1 := rtf_bits hR m4
    have m5 : bits (sc * a0) ≤ n + kk := bits_mul sb c0
    have fin : ∀ f : Int,f = flr a1 (sc * sc * a1 * a1 * a2) R → bits f ≤ n + kk + k2 + 2 → bits ((sc * a0 + f) / a3) ≤ n + kk + k2 + 5 := fun f _ hf => bits_le (ediv_bits h3 (bits_add (n := n + kk + k2 + 2) (bits_le m5 (by omega)) hf)) (by omega)
    have end_ : ∀ f : Int,f = flr a1 (sc * sc * a1 * a1 * a2) R → bits f ≤ n + kk + k2 + 2 → Q (.int ((sc * a0 + f) / a3)) H := fun f e hf => q _ ⟨R,hR,by rw [← e]⟩ (fin f e hf)
    refine ⟨_,rfl,p,_,_,_,rfl,rfl,r.at_,rfl,_,_,rfl,rfl,_,rfl,ite3 (fun e1 => ?_) (fun e1 => ?_)⟩
    · have e1 : a1 < 0 := dec_t e1
      refine ⟨_,rfl,_,rfl,_,_,rfl,rfl,CM.of rb rb ⟨by omega,by omega⟩,_,rfl,rfl,_,rfl,ite3 (fun e2 => ?_) (fun e2 => ?_)⟩
      · have e2 : R * R = sc * sc * a1 * a1 * a2 := by simpa using e2
        refine ⟨_,rfl,_,rfl,_,rfl,_,rfl,p,_,_,_,rfl,rfl,r.at_,rfl,_,_,rfl,rfl,CM.of sb r.b0 ⟨by omega,by decide⟩,_,rfl,_,_,rfl,rfl,_,rfl,p,_,_,_,rfl,rfl,r.at_,rfl,_,_,rfl,rfl,⟨h3,bits_le r.b3 (by decide)⟩,end_ (-R) ?_ (bits_le (bits_neg rb) (by omega))⟩
        unfold flr
        rw [if_pos e1,if_pos e2]
      · have e2 : ¬ R * R = sc * sc * a1 * a1 * a2 := by simpa using e2
        refine ⟨_,rfl,_,rfl,_,_,rfl,rfl,_,rfl,_,rfl,p,_,_,_,rfl,rfl,r.at_,rfl,_,_,rfl,rfl,CM.of sb r.b0 ⟨by omega,by decide⟩,_,rfl,_,_,rfl,rfl,_,rfl,p,_,_,_,rfl,rfl,r.at_,rfl,_,_,rfl,rfl,⟨h3,bits_le r.b3 (by decide)⟩,end_ (-R - 1) ?_ (bits_sub (n := n + kk + k2 + 1) (bits_neg rb) (bits_le (show bits 1 ≤ 1 by decide) (by omega)))⟩
        unfold flr
        rw [if_pos e1,if_neg e2]
    · have e1 : ¬ a1 < 0 := dec_f e1
      refine ⟨_,rfl,_,rfl,p,_,_,_,rfl,rfl,r.at_,rfl,_,_,rfl,rfl,CM.of sb r.b0 ⟨by omega,by decide⟩,_,rfl,_,_,rfl,rfl,_,rfl,p,_,_,_,rfl,rfl,r.at_,rfl,_,_,rfl,rfl,⟨h3,bits_le r.b3 (by decide)⟩,end_ R ?_ (bits_le rb (by omega))⟩
      unfold flr
      rw [if_neg e1]
theorem S_below_all : FnScope ["number","scale","turned"] ["number","scale"] (defScope (top 16)) := ⟨rfl,rfl,rfl,by decide +kernel,rfl,by decide +kernel,by decide +kernel⟩
theorem fn_below_all (D_below_all : Df K mg "below_all" (top 16)) (F_scaled_floor : Fn P w K mg base "scaled_floor" ["number","scale"] 2 (spSFl K)) : Fn P w K mg base "below_all" ["number","scale"] 3 (spBel K) := by
  refine D_below_all.fn S_below_all (fun _ _ _ _ _ _ us hl => match us,hl with | [_,_],_ => rfl) (fun vs H Q E h => ?_) (fun f cdv A outer s H vs Q E hr h => ?_)
  · obtain ⟨p,a0,a1,a2,a3,sc,n,kk,k2,rfl,_⟩ := h
    rfl
  · obtain ⟨p,a0,a1,a2,a3,sc,n,kk,k2,rfl,r,⟨h2,h3⟩,⟨s0,sb⟩,⟨n1,c0,c1,c2,d1,d2⟩,q⟩ := h
    refine ⟨_,(pss_cons (ps_set (i := 2) S_below_all.nd rfl (Or.inl rfl) (pe_tupA (pa_cons (pe_un un_neg (pe_ix ix_tup (pv 0) pe_int (fun _ _ => rfl))) (pa_cons (pe_un un_neg (pe_ix ix_tup (pv 0) pe_int (fun _ _ => rfl))) (pa_cons (pe_ix ix_tup (pv 0) pe_int (fun _ _ => rfl)) (pa_cons (pe_ix ix_tup (pv 0) pe_int (fun _ _ => rfl)) pa_nil)))))) (pss_one (ps_ret (pe_op op_sub (pe_un un_neg (pe_fn F_scaled_floor (hr.mono (by decide)) (by rfl) (pa_cons (pv 2) (pa_cons (pv 1) pa_nil)))) pe_int)))),?_⟩
    refine ⟨_,rfl,p,_,_,_,rfl,rfl,r.at_,rfl,_,rfl,_,rfl,p,_,_,_,rfl,rfl,r.at_,rfl,_,rfl,_,rfl,p,_,_,_,rfl,rfl,r.at_,rfl,_,rfl,p,_,_,_,rfl,rfl,r.at_,rfl,sz (by simp),fun t H1 s1 f1 nn1 => ?_⟩
    exact ⟨_,rfl,_,rfl,t,-a0,-a1,a2,a3,sc,n,kk,k2,rfl,⟨SqT.of f1,bits_neg r.b0,bits_neg r.b1,r.b2,r.b3⟩,⟨h2,h3⟩,⟨s0,sb⟩,⟨n1,bits_neg c0,bits_neg c1,c2,d1,d2⟩,fun F hF hb => ⟨_,rfl,_,_,rfl,rfl,q F H1 hF hb s1⟩⟩
inductive spTerms (vs : List V) (H : Hp) (Q : VK) (x_3 : XK) : Prop
  | mk : ∀ lo hi sc : Int,(vs = [.int lo,.int hi,.int sc]) → ((lo < hi ∧ bits lo ≤ 6020 ∧ bits hi ≤ 6020)) → ((0 < sc ∧ bits sc ≤ 4100)) → (∀ (l : Addr) (ts : List Int) (n : Nat) (H' : Hp),Same H H' → H' l = some (.lst (ts.map V.int)) → sh n lo hi sc sc = some ts → ts.length ≤ 8210 → Q (.ref l) H') → spTerms vs H Q x_3
theorem lt_pow {x : Int} {n : Nat} (h : bits x ≤ n) : x < 2 ^ n := by
  have := bits_lt h
  have e : ((2 ^ n : Nat) : Int) = 2 ^ n := by norm_cast
  omega
theorem half_pow {x y : Int} {n : Nat} (h : 2 * x < y) (hy : y < 2 ^ n) (h0 : 0 < x) : ∃ m,n = m + 1 ∧ x < 2 ^ m := by
  cases n with
  | zero => simp at hy; omega
  | succ m =>
    refine ⟨m,rfl,?_⟩
    have : (2 : Int) ^ (m + 1) = 2 * 2 ^ m := by rw [Int.pow_succ]; omega
    omega
def Far (lo hi b l sc : Int) (k : Nat) : Prop := (k = 0 ∧ b = sc ∧ l = sc) ∨ ∃ x y : Nat,hi < 2 ^ x ∧ lo < 2 ^ x ∧ b < 2 ^ y ∧ l < 2 ^ y ∧ b < lo ∧ l < hi ∧ k + x + y ≤ 8205
theorem Far.len {lo hi b l sc : Int} {k : Nat} (h : Far lo hi b l sc k) : k ≤ 8205 := by
  rcases h with h | ⟨x,y,h⟩ <;> omega
theorem Far.step {lo hi b l sc : Int} {k : Nat} (h : Far lo hi b l sc k) (sb : bits sc ≤ 4100) (hb : 0 < b) (hl : 0 < l) (s : (0 < hi - lo / b * l ∧ hi - lo / b * l < l) ∧ (0 < lo - lo / b * b ∧ lo - lo / b * b < b)) : Far l b (hi - lo / b * l) (lo - lo / b * b) sc (k + 1) := by
  obtain ⟨⟨s1,s2⟩,s3,s4⟩ := s
  rcases h with ⟨rfl,rfl,rfl⟩ | ⟨x,y,h1,h2,h3,h4,h5,h6,h7⟩
  · have := lt_pow sb
    exact .inr ⟨4100,4100,this,this,by omega,by omega,s2,s4,by omega⟩
  · have q1 : 1 ≤ lo / b := by
      have := Int.ediv_le_ediv hb (show b ≤ lo by omega)
      rw [Int.ediv_self (by omega)] at this
      exact this
    have e1 : l * 1 ≤ lo / b * l := by rw [Int.mul_comm (lo / b)]; exact Int.mul_le_mul_of_nonneg_left q1 (by omega)
    have e2 : b * 1 ≤ lo / b * b := by rw [Int.mul_comm (lo / b)]; exact Int.mul_le_mul_of_nonneg_left q1 (by omega)
    obtain ⟨m,rfl,hm⟩ := half_pow (x := hi - lo / b * l) (by omega) h1 s1
    obtain ⟨m',e,hm'⟩ := half_pow (x := lo - lo / b * b) (by omega) h2 s3
    have : m = m' := by omega
    subst this
    exact .inr ⟨y,m,h3,h4,hm,hm',s2,s4,by omega⟩
theorem S_shared_terms : FnScope ["low","high","scale","terms","bottom","last","term","low_rest","high_rest"] ["low","high","scale"] (defScope (top 17)) := ⟨rfl,rfl,rfl,by decide +kernel,rfl,by decide +kernel,by decide +kernel⟩
theorem fn_shared_terms (D_shared_terms : Df K mg "shared_terms" (top 17)) (T : Txt mg) : Fn P w K mg base "shared_terms" ["low","high","scale"] 1 spTerms := by
  refine D_shared_terms.fn S_shared_terms (fun _ _ _ _ _ _ us hl => match us,hl with | [_,_,_],_ => rfl) (fun vs H Q E h => ?_) (fun f cdv A outer s H vs Q E hr h => ?_)
  · obtain ⟨lo,hi,sc,rfl,_⟩ := h
    rfl
  · obtain ⟨lo,hi,sc,rfl,⟨lh,bl,bh⟩,⟨s0,sb⟩,q⟩ := h
    refine ⟨_,(pss_cons (ps_set (i := 3) S_shared_terms.nd rfl (Or.inl rfl) (pe_lstA pa_nil)) (pss_cons (ps_set (i := 4) S_shared_terms.nd rfl (Or.inl rfl) (pv 2)) (pss_cons (ps_set (i := 5) S_shared_terms.nd rfl (Or.inl rfl) (pv 2)) (pss_one (ps_while PassesOwn.never (pt_val pe_bl) (pss_cons (ps_set (i := 6) S_shared_terms.nd rfl (Or.inl rfl) (pe_op op_fdivP (pv 0) (pv 4))) (pss_cons (ps_if (pt_cmpR op_eq (pe_op op_mulX (pv 6) (pv 4)) (pv 0) (nomark _)) (pss_cons (ps_expr (pe_bm PySem.F.plainAttrs_list PySem.F.slot_list_append PySem.F.type_list_append mt_appendA (pv 3) (pa_cons (pv 6) pa_nil))) (pss_one (ps_ret (pv 3)))) pss_nil) (pss_cons (ps_if (pt_cmpR op_le (pe_op op_mulX (pe_op op_add (pv 6) pe_int) (pv 5)) (pv 1) (nomark _)) (pss_cons (ps_expr (pe_bm PySem.F.plainAttrs_list PySem.F.slot_list_append PySem.F.type_list_append mt_appendA (pv 3) (pa_cons (pe_op op_add (pv 6) pe_int) pa_nil))) (pss_one (ps_ret (pv 3)))) pss_nil) (pss_cons (ps_expr (pe_bm PySem.F.plainAttrs_list PySem.F.slot_list_append PySem.F.type_list_append mt_appendA (pv 3) (pa_cons (pv 6) pa_nil))) (pss_cons (ps_set (i := 7) S_shared_terms.nd rfl (Or.inl rfl) (pe_op op_sub (pv 0) (pe_op op_mulX (pv 6) (pv 4)))) (pss_cons (ps_set (i := 8) S_shared_terms.nd rfl (Or.inl rfl) (pe_op op_sub (pv 1) (pe_op op_mulX (pv 6) (pv 5)))) (pss_cons (ps_set (i := 0) S_shared_terms.nd rfl (Or.inl rfl) (pv 5)) (pss_cons (ps_set (i := 1) S_shared_terms.nd rfl (Or.inl rfl) (pv 4)) (pss_cons (ps_set (i := 4) S_shared_terms.nd rfl (Or.inl rfl) (pv 8)) (pss_one (ps_set (i := 5) S_shared_terms.nd rfl (Or.inl rfl) (pv 7))))))))))))))))),?_⟩
    refine ⟨sz (by simp),fun p H1 s1 f1 n1 => ⟨_,rfl,_,rfl,?_⟩⟩
    refine while_by (fun σ H' => ∃ (x y b l : Int) (ts : List Int) (z6 z7 z8 : Option V),σ = [some (.int x),some (.int y),some (.int sc),some (.ref p),some (.int b),some (.int l),z6,z7,z8] ∧ Same H H' ∧ H' p = some (.lst (ts.map V.int)) ∧ (0 < b ∧ b ≤ sc) ∧ (0 < l ∧ l ≤ sc) ∧ x * l < y * b ∧ (bits x ≤ 6020 ∧ bits y ≤ 6020) ∧ Far x y b l sc ts.length ∧ ∀ us n,sh n x y b l = some us → ∃ m,sh m lo hi sc sc = some (ts ++ us))
      (fun σ _ => match σ with | [_,_,_,_,some (.int b),some (.int l),_,_,_] => (b + l).toNat | _ => 0) ⟨lo,hi,sc,sc,[],_,_,_,rfl,s1,f1,⟨s0,Int.le_refl _⟩,⟨s0,Int.le_refl _⟩,Int.mul_lt_mul_of_pos_right lh s0,⟨bl,bh⟩,.inl ⟨rfl,rfl,rfl⟩,fun us n h => ⟨n,h⟩⟩ ?_ ?_
    · rintro σ H' ⟨x,y,b,l,ts,z6,z7,z8,rfl,sm,ft,⟨b0,b1⟩,⟨l0,l1⟩,hd,⟨bx,by'⟩,far,tl⟩
      have bb : bits b ≤ 4100 := bits_range (by omega) b1 sb
      have bl' : bits l ≤ 4100 := bits_range (by omega) l1 sb
      have bq : bits (x / b) ≤ 6021 := ediv_bits b0 bx
      have fl := far.len
      have sz3 : ∀ c : Int,(ts.map V.int).length < sizeLine := fun _ => by rw [sizeLine_eq,List.length_map]; omega
      refine ⟨_,rfl,iteTrue rfl ?_⟩
      refine ⟨_,rfl,_,rfl,_,_,rfl,rfl,⟨b0,bits_le bb (by decide)⟩,?_⟩
      refine ⟨_,rfl,_,rfl,_,_,rfl,rfl,CM.of bq bb ⟨by decide,by decide⟩,_,rfl,rfl,_,rfl,ite3 (fun c1 => ?_) (fun c1 => ?_)⟩
      · have c1 : x / b * b = x := by simpa using c1
        refine ⟨_,rfl,.inl ⟨rfl,_,SqL.of ft⟩,_,rfl,p,_,_,rfl,rfl,ft,sz3 0,fun H2 u2 => ⟨_,rfl,?_⟩⟩
        obtain ⟨m,hm⟩ := tl [x / b] 1 (by unfold sh; rw [if_pos c1])
        exact q p (ts ++ [x / b]) m H2 (u2.same sm n1) (by rw [u2.now,List.map_append]; rfl) hm (by simp; omega)
      · have c1 : ¬ x / b * b = x := by simpa using c1
        refine ⟨_,rfl,_,_,rfl,rfl,_,rfl,_,_,rfl,rfl,CM.of (bits_add (n := 6021) bq (bits_le (show bits 1 ≤ 1 by decide) (by decide))) bl' ⟨by decide,by decide⟩,_,rfl,_,_,rfl,rfl,_,rfl,ite3 (fun c2 => ?_) (fun c2 => ?_)⟩
        · have c2 : (x / b + 1) * l ≤ y := dec_t c2
          refine ⟨_,rfl,.inl ⟨rfl,_,SqL.of ft⟩,_,rfl,_,_,rfl,rfl,p,_,_,rfl,rfl,ft,sz3 0,fun H2 u2 => ⟨_,rfl,?_⟩⟩
          obtain ⟨m,hm⟩ := tl [x / b + 1] 1 (by unfold sh; rw [if_neg c1,if_pos c2])
          exact q p (ts ++ [x / b + 1]) m H2 (u2.same sm n1) (by rw [u2.now,List.map_append]; rfl) hm (by simp; omega)
        · have c2 : ¬ (x / b + 1) * l ≤ y := dec_f c2
          obtain ⟨st1,st2,st3⟩ := st b0 l0 hd c1 c2
          refine ⟨_,rfl,.inl ⟨rfl,_,SqL.of ft⟩,_,rfl,p,_,_,rfl,rfl,ft,sz3 0,fun H2 u2 => ?_⟩
          refine ⟨_,rfl,_,rfl,_,rfl,_,_,rfl,rfl,CM.of bq bb ⟨by decide,by decide⟩,_,_,rfl,rfl,?_⟩
          refine ⟨_,rfl,_,rfl,_,rfl,_,_,rfl,rfl,CM.of bq bl' ⟨by decide,by decide⟩,_,_,rfl,rfl,?_⟩
          refine ⟨_,rfl,_,rfl,_,rfl,_,rfl,⟨l,b,y - x / b * l,x - x / b * b,ts ++ [x / b],_,_,_,rfl,u2.same sm n1,by rw [u2.now,List.map_append]; rfl,⟨st1.1,by omega⟩,⟨st2.1,by omega⟩,st3,⟨bits_le bl' (by decide),bits_le bb (by decide)⟩,by rw [List.length_append]; exact far.step sb b0 l0 ⟨st1,st2⟩,fun us n h => ?_⟩,?_⟩
          · obtain ⟨m,hm⟩ := tl (x / b :: us) (n + 1) (by unfold sh; rw [if_neg c1,if_neg c2,h]; rfl)
            exact ⟨m,by rw [List.append_assoc]; exact hm⟩
          · show (y - x / b * l + (x - x / b * b)).toNat < (b + l).toNat
            omega
    · rintro σ H' Q1 Q2 hq ⟨k,e,r⟩
      exact ⟨k,e,hq _ _ r⟩
inductive spFT (vs : List V) (H : Hp) (Q : VK) (x_3 : XK) : Prop
  | mk : ∀ (l : Addr) (ts : List Int) (N : Int) (n : Nat),(vs = [.ref l]) → (H l = some (.lst (ts.map V.int))) → ((0 < ts.length ∧ ts.length ≤ 8210)) → (Bd N ts) → ((bits N ≤ n ∧ n ≤ 4490 ∧ 0 ≤ N)) → (∀ (r : Addr) (t u : Int) (H' : Hp),Same H H' → H' r = some (.tup [.int t,.int u]) → Frac (fr ts).1 (fr ts).2 t u → bits t ≤ n → bits u ≤ n → Q (.ref r) H') → spFT vs H Q x_3
theorem cut_init {xs : List V} (h : 0 < xs.length) : cutV xs none (some (-1)) = xs.dropLast := by
  unfold cutV
  rw [HT.sIx_none]
  have e : HT.sIx xs.length xs.length (some (-1)) = xs.length - 1 := by
    unfold HT.sIx
    simp
    omega
  rw [e,List.dropLast_eq_take]
  simp
theorem bd_bits {N x : Int} {n : Nat} (h : -N ≤ x ∧ x ≤ N) (hN : bits N ≤ n) (N0 : 0 ≤ N) : bits x ≤ n := bits_of (Nat.lt_of_le_of_lt (by omega : x.natAbs ≤ N.natAbs) (bits_lt hN))
theorem S_fraction_of_terms : FnScope ["terms","top","bottom","term","rest"] ["terms"] (defScope (top 18)) := ⟨rfl,rfl,rfl,by decide +kernel,rfl,by decide +kernel,by decide +kernel⟩
theorem fn_fraction_of_terms {C : Addr} (D_fraction_of_terms : Df K mg "fraction_of_terms" (top 18)) (F_ratio : Fx P w K mg base "ratio" ["top","bottom"] 2 [.int 1] (spRatioN C)) (T : Txt mg) : Fn P w K mg base "fraction_of_terms" ["terms"] 3 spFT := by
  refine D_fraction_of_terms.fn S_fraction_of_terms (fun _ _ _ _ _ _ us hl => match us,hl with | [_],_ => rfl) (fun vs H Q E h => ?_) (fun f cdv A outer s H vs Q E hr h => ?_)
  · obtain ⟨l,ts,N,n,rfl,_⟩ := h
    rfl
  · obtain ⟨l,ts,N,n,rfl,hl,⟨t0,t1⟩,bd,⟨bN,n1,N0⟩,q⟩ := h
    refine ⟨_,(pss_cons (ps_set (i := 1) S_fraction_of_terms.nd rfl (Or.inl rfl) (pe_ix ix_list (pv 0) (pe_un un_neg pe_int) (fun _ _ => rfl))) (pss_cons (ps_set (i := 2) S_fraction_of_terms.nd rfl (Or.inl rfl) pe_int) (pss_cons (ps_for PassesOwn.never rfl (pi_rev rfl T.z_reversed (pe_slice sl_listA (pv 0) po_none (po_some (pe_un un_neg pe_int)))) (pg_name (i := 3) S_fraction_of_terms.nd rfl (Or.inl rfl)) (pss_cons (ps_set (i := 4) S_fraction_of_terms.nd rfl (Or.inl rfl) (pv 2)) (pss_cons (ps_set (i := 2) S_fraction_of_terms.nd rfl (Or.inl rfl) (pv 1)) (pss_one (ps_set (i := 1) S_fraction_of_terms.nd rfl (Or.inl rfl) (pe_op op_add (pe_op op_mulX (pv 3) (pv 1)) (pv 4))))))) (pss_one (ps_ret (pe_fx0 F_ratio (hr.mono (by decide)) (by rfl) (pa_cons (pv 1) (pa_cons (pv 2) pa_nil)))))))),?_⟩
    obtain ⟨ti,tl,rfl⟩ : ∃ ti tl,ts = ti ++ [tl] := by
      rcases List.eq_nil_or_concat ts with h | ⟨a,b,h⟩
      · rw [h] at t0
        simp at t0
      · exact ⟨a,b,by rw [h]; simp⟩
    have len : (ti ++ [tl]).length = ti.length + 1 := by simp
    have hlast : atI ((ti ++ [tl]).map V.int) (-1) = some (.int tl) := by
      rw [List.map_append]
      exact atI_last _ _
    have hcut : cutV ((ti ++ [tl]).map V.int) none (some (-1)) = ti.map V.int := by
      rw [cut_init (by rw [List.length_map,len]; omega),List.map_append]
      simp
    refine ⟨_,rfl,_,rfl,l,_,_,_,rfl,rfl,SqL.of hl,hlast,?_⟩
    refine ⟨_,rfl,_,rfl,_,rfl,l,_,rfl,SqL.of hl,fun p H1 s1 f1 m1 => ?_⟩
    rw [hcut] at f1
    have fl : (fr ((ti ++ [tl]).drop ti.length)) = (tl,1) := by rw [List.drop_left]; rfl
    refine ⟨p,_,rfl,SqL.of f1,for_rev (K := K) (a := p) (xs := ti.map V.int) (fun i σ H' => ∃ (x y : Int) (z3 z4 : Option V),σ = [some (.ref l),some (.int x),some (.int y),z3,z4] ∧ H' = H1 ∧ i ≤ ti.length ∧ fr ((ti ++ [tl]).drop (ti.length - i)) = (x,y)) ⟨tl,1,_,_,rfl,rfl,Nat.zero_le _,by rw [Nat.sub_zero]; exact fl⟩ ?_ ?_ ?_⟩
    · rintro i σ H' hi ⟨x,y,z3,z4,rfl,rfl,h1,h2⟩
      exact SqL.of f1
    · rintro i v σ H' hi hv ⟨x,y,z3,z4,rfl,rfl,h1,h2⟩
      rw [List.length_map] at hi hv
      rw [List.getElem?_map] at hv
      obtain ⟨c,hc,rfl⟩ := Option.map_eq_some_iff.mp hv
      have hj : ti.length - (i + 1) < (ti ++ [tl]).length := by rw [len]; omega
      have hc' : (ti ++ [tl])[ti.length - (i + 1)]? = some c := by
        rw [List.getElem?_append_left (by omega),← hc]
        congr 1
        omega
      have e1 : (ti ++ [tl]).drop (ti.length - (i + 1)) = c :: (ti ++ [tl]).drop (ti.length - i) := by
        obtain ⟨a1,a2⟩ := List.getElem?_eq_some_iff.mp hc'
        rw [List.drop_eq_getElem_cons a1,a2]
        congr 1
        congr 1
        omega
      have ne : (ti ++ [tl]).drop (ti.length - i) ≠ [] := fun z => by
        have := congrArg List.length z
        rw [List.length_drop,len] at this
        simp at this
        omega
      have bt := (bd.f (ti.length - i) (by rw [len]; omega)).1
      rw [h2] at bt
      have bx : bits x ≤ n := bd_bits bt bN N0
      have bc : bits c ≤ n := bd_bits (bd.c c (List.mem_of_getElem? hc')) bN N0
      refine ⟨_,rfl,_,rfl,_,rfl,_,rfl,_,_,rfl,rfl,CM.of bc bx ⟨by omega,by omega⟩,_,rfl,_,_,rfl,rfl,c * x + y,x,_,_,rfl,rfl,by omega,?_⟩
      rw [e1,fr_cons ne,h2]
    · rintro σ H' ⟨x,y,z3,z4,rfl,rfl,h1,h2⟩
      rw [List.length_map,Nat.sub_self,List.drop_zero] at h2
      have b0 := bd.f 0 (by omega)
      rw [List.drop_zero,h2] at b0
      have bx : bits x ≤ n := bd_bits b0.1 bN N0
      have by' : bits y ≤ n := bd_bits ⟨by have := b0.2.1; omega,b0.2.2⟩ bN N0
      refine ⟨_,rfl,_,rfl,x,y,n,rfl,⟨bx,by',by omega⟩,fun z => ?_,fun _ r t u fr' c1 c2 nr => ?_⟩
      · have := b0.2.1
        have z : y = 0 := z
        omega
      · rw [h2] at q
        exact q r t u _ (s1.trans (Same.new nr)) upd_same fr' c1 c2
theorem rt_mono {K : PySem.W.Frag} {H H' : Hp} {p : Addr} {a0 a1 a2 a3 : Int} (r : Rt K H p a0 a1 a2 a3) (s : Same H H') : Rt K H' p a0 a1 a2 a3 := ⟨sqT_same r.at_ s,r.b0,r.b1,r.b2,r.b3⟩
structure Two (a0 a1 a2 a3 b0 b1 b2 b3 : Int) (kk k2 : Nat) : Prop where
  a2n : 0 ≤ a2
  a3p : 0 < a3
  b2n : 0 ≤ b2
  b3p : 0 < b3
  x0 : bits a0 ≤ kk
  x1 : bits a1 ≤ kk
  x2 : bits a2 ≤ 2 * k2
  y0 : bits b0 ≤ kk
  y1 : bits b1 ≤ kk
  y2 : bits b2 ≤ 2 * k2
  hk : kk ≤ 450
  h2 : k2 ≤ 500
inductive spFW (K : PySem.W.Frag) (vs : List V) (H : Hp) (Q : VK) (x_3 : XK) : Prop
  | mk : ∀ (p q : Addr) (a0 a1 a2 a3 b0 b1 b2 b3 : Int) (kk k2 J n : Nat),(vs = [.ref p,.ref q]) → (Rt K H p a0 a1 a2 a3) → (Rt K H q b0 b1 b2 b3) → (Two a0 a1 a2 a3 b0 b1 b2 b3 kk k2) → ((2 ^ J + 1 + kk + k2 + 8 ≤ n ∧ n ≤ 4490 ∧ 2 ^ J ≤ 4099)) → ((∀ F G,Rm a0 a1 a2 a3 b0 b1 b2 b3 J F G → F + 1 + 2 ≤ -G - 1)) → (∀ (r : Addr) (t u : Int) (H' : Hp),Same H H' → H' r = some (.tup [.int t,.int u]) → Wi a0 a1 a2 a3 b0 b1 b2 b3 t u → bits t ≤ n → bits u ≤ n → Q (.ref r) H') → spFW K vs H Q x_3
theorem scl_eq (i : Nat) : (1 : Int) * 2 ^ ((2 : Int) ^ i).toNat = scl i := by
  have : ((2 : Int) ^ i).toNat = 2 ^ i := by
    have e : ((2 ^ i : Nat) : Int) = (2 : Int) ^ i := by norm_cast
    rw [← e]
    exact Int.toNat_natCast _
  rw [this,Int.one_mul]
  rfl
theorem scl_bits (i : Nat) : bits (scl i) ≤ 2 ^ i + 1 := by
  refine bits_of ?_
  unfold scl
  rw [Int.natAbs_pow]
  exact Nat.pow_lt_pow_right (by decide) (by omega)
theorem pow_cast (i : Nat) : ((2 ^ i : Nat) : Int) = (2 : Int) ^ i := by norm_cast
theorem S_fraction_within : FnScope ["one","other","bits","scale","low","high"] ["one","other"] (defScope (top 19)) := ⟨rfl,rfl,rfl,by decide +kernel,rfl,by decide +kernel,by decide +kernel⟩
theorem fn_fraction_within (D_fraction_within : Df K mg "fraction_within" (top 19)) (F_scaled_floor : Fn P w K mg base "scaled_floor" ["number","scale"] 2 (spSFl K)) (F_below_all : Fn P w K mg base "below_all" ["number","scale"] 3 (spBel K)) (F_fraction_of_terms : Fn P w K mg base "fraction_of_terms" ["terms"] 3 spFT) (F_shared_terms : Fn P w K mg base "shared_terms" ["low","high","scale"] 1 spTerms) : Fn P w K mg base "fraction_within" ["one","other"] 4 (spFW K) := by
  refine D_fraction_within.fn S_fraction_within (fun _ _ _ _ _ _ us hl => match us,hl with | [_,_],_ => rfl) (fun vs H Q E h => ?_) (fun f cdv A outer s H vs Q E hr h => ?_)
  · obtain ⟨p,q,a0,a1,a2,a3,b0,b1,b2,b3,kk,k2,J,n,rfl,_⟩ := h
    rfl
  · obtain ⟨p,q,a0,a1,a2,a3,b0,b1,b2,b3,kk,k2,J,n,rfl,rp,rq,tw,⟨j1,j2,j3⟩,top,k⟩ := h
    refine ⟨_,(pss_cons (ps_set (i := 2) S_fraction_within.nd rfl (Or.inl rfl) pe_int) (pss_one (ps_while PassesOwn.never (pt_val pe_bl) (pss_cons (ps_set (i := 3) S_fraction_within.nd rfl (Or.inl rfl) (pe_op op_shl pe_int (pv 2))) (pss_cons (ps_set (i := 4) S_fraction_within.nd rfl (Or.inl rfl) (pe_op op_add (pe_fn F_scaled_floor (hr.mono (by decide)) (by rfl) (pa_cons (pv 0) (pa_cons (pv 3) pa_nil))) pe_int)) (pss_cons (ps_set (i := 5) S_fraction_within.nd rfl (Or.inl rfl) (pe_fn F_below_all (hr.mono (by decide)) (by rfl) (pa_cons (pv 1) (pa_cons (pv 3) pa_nil)))) (pss_cons (ps_if (pt_cmpR op_le (pe_op op_add (pv 4) pe_int) (pv 5) (nomark _)) (pss_one (ps_ret (pe_fn F_fraction_of_terms (hr.mono (by decide)) (by rfl) (pa_cons (pe_fn F_shared_terms (hr.mono (by decide)) (by rfl) (pa_cons (pv 4) (pa_cons (pv 5) (pa_cons (pv 3) pa_nil)))) pa_nil)))) pss_nil) (pss_one (ps_set (i := 2) S_fraction_within.nd rfl (Or.inl rfl) (pe_op op_mulX (pv 2) pe_int)))))))))),?_⟩
    refine while_by (fun σ H' => ∃ (i : Nat) (z3 z4 z5 : Option V),σ = [some (.ref p),some (.ref q),some (.int (2 ^ i)),z3,z4,z5] ∧ i ≤ J ∧ Same H H' ∧ ∀ i',i' < i → ∀ F' G',Rm a0 a1 a2 a3 b0 b1 b2 b3 i' F' G' → ¬ F' + 1 + 2 ≤ -G' - 1)
      (fun σ _ => match σ with | [_,_,some (.int B),_,_,_] => ((2 : Int) ^ J + 1 - B).toNat | _ => 0) ⟨0,_,_,_,rfl,Nat.zero_le _,Same.refl _,fun i' h => absurd h (by omega)⟩ ?_ ?_
    · rintro σ H' ⟨i,z3,z4,z5,rfl,hi,sm,no⟩
      have pw : 2 ^ i ≤ 2 ^ J := Nat.pow_le_pow_right (by decide) hi
      have pi : 0 < 2 ^ i := Nat.pow_pos (by decide)
      have pc := pow_cast i
      have rp' := rt_mono rp sm
      have rq' := rt_mono rq sm
      refine ⟨_,rfl,iteTrue rfl ?_⟩
      refine ⟨_,rfl,_,_,rfl,rfl,⟨by omega,by show (2 : Int) ^ i ≤ 1000000; omega,by decide⟩,?_⟩
      rw [scl_eq]
      refine ⟨_,rfl,_,rfl,p,a0,a1,a2,a3,scl i,2 ^ i + 1,kk,k2,rfl,rp',⟨tw.a2n,tw.a3p⟩,⟨scl_pos i,scl_bits i⟩,⟨by omega,tw.x0,tw.x1,tw.x2,tw.hk,tw.h2⟩,fun F hF bF => ⟨_,_,rfl,rfl,?_⟩⟩
      refine ⟨_,rfl,_,rfl,q,b0,b1,b2,b3,scl i,2 ^ i + 1,kk,k2,rfl,rq',⟨tw.b2n,tw.b3p⟩,⟨scl_pos i,scl_bits i⟩,⟨by omega,tw.y0,tw.y1,tw.y2,tw.hk,tw.h2⟩,fun G H1 hG bG s1 => ?_⟩
      refine ⟨_,rfl,_,_,rfl,rfl,_,rfl,_,_,rfl,rfl,_,rfl,ite3 (fun c1 => ?_) (fun c1 => ?_)⟩
      · have c1 : F + 1 + 2 ≤ -G - 1 := dec_t c1
        have hk := tw.hk
        have h2 := tw.h2
        have bl : bits (F + 1) ≤ 2 ^ i + 1 + kk + k2 + 6 := bits_add bF (bits_le (show bits 1 ≤ 1 by decide) (by omega))
        have bh : bits (-G - 1) ≤ 2 ^ i + 1 + kk + k2 + 6 := bits_sub (bits_neg bG) (bits_le (show bits 1 ≤ 1 by decide) (by omega))
        refine ⟨_,rfl,_,rfl,_,rfl,F + 1,-G - 1,scl i,rfl,⟨by omega,bits_le bl (by omega),bits_le bh (by omega)⟩,⟨scl_pos i,bits_le (scl_bits i) (by omega)⟩,fun l ts m H2 s2 f2 hs ln => ?_⟩
        have hd : (F + 1) * scl i < (-G - 1) * scl i := Int.mul_lt_mul_of_pos_right (by omega) (scl_pos i)
        have e1 := lt_pow bl
        have e2 := lt_pow bh
        have e3 := lt_pow (bits_neg bl)
        have e4 := lt_pow (bits_neg bh)
        have e5 := lt_pow (bits_le (n := 2 ^ i + 1 + kk + k2 + 6) (scl_bits i) (by omega))
        have bd := sh_bd (N := 2 ^ (2 ^ i + 1 + kk + k2 + 6)) (scl_pos i) (scl_pos i) hd ⟨by omega,by omega⟩ ⟨by omega,by omega⟩ (by omega) (by omega) hs
        have ne := (sh_in (scl_pos i) (scl_pos i) hd hs).1
        have N0 : (0 : Int) < 2 ^ (2 ^ i + 1 + kk + k2 + 6) := Int.pow_pos (by decide)
        have bN : bits ((2 : Int) ^ (2 ^ i + 1 + kk + k2 + 6) + 1) ≤ n := by
          refine bits_le (bits_add (n := 2 ^ i + 1 + kk + k2 + 7) (bits_of ?_) (bits_le (show bits 1 ≤ 1 by decide) (by omega))) (by omega)
          rw [Int.natAbs_pow]
          exact Nat.pow_lt_pow_right (by decide) (by omega)
        exact ⟨l,ts,_,n,rfl,f2,⟨List.length_pos_iff.mpr ne,ln⟩,bd,⟨bN,j2,by omega⟩,fun r t u H3 s3 f3 hf c2 c3 => k r t u H3 (sm.trans (s1.trans (s2.trans s3))) f3 ⟨i,F,G,ts,m,⟨hF,hG⟩,c1,no,hs,hf⟩ c2 c3⟩
      · have c1 : ¬ F + 1 + 2 ≤ -G - 1 := dec_f c1
        have ij : i ≠ J := fun z => by
          subst z
          exact c1 (top F G ⟨hF,hG⟩)
        have pw2 : 2 ^ (i + 1) ≤ 2 ^ J := Nat.pow_le_pow_right (by decide) (by omega)
        have pc2 := pow_cast (i + 1)
        have pcJ := pow_cast J
        have e : (2 : Int) ^ i * 2 = 2 ^ (i + 1) := by rw [Int.pow_succ]
        refine ⟨_,rfl,_,_,rfl,rfl,CM.r ⟨by decide,by decide⟩,?_⟩
        rw [e]
        refine ⟨⟨i + 1,_,_,_,rfl,by omega,sm.trans s1,fun i' h F' G' hR => ?_⟩,?_⟩
        · rcases Nat.lt_or_eq_of_le (Nat.le_of_lt_succ h) with g | g
          · exact no i' g F' G' hR
          · subst g
            rw [hR.1.uniq hF,hR.2.uniq hG]
            exact c1
        · show ((2 : Int) ^ J + 1 - 2 ^ (i + 1)).toNat < ((2 : Int) ^ J + 1 - 2 ^ i).toNat
          omega
    · rintro σ H' Q1 Q2 hq ⟨k,e,r⟩
      exact ⟨k,e,hq _ _ r⟩
inductive spOwn (K : PySem.W.Frag) (C : Addr) (vs : List V) (H : Hp) (Q : VK) (E : XK) : Prop
  | mk : ∀ (p : Addr) (a0 a1 a2 a3 : Int),(vs = [.ref p]) → (Rt K H p a0 a1 a2 a3) → ((0 ≤ a2 ∧ 0 < a3)) → (∀ R,Rtf 1 (a1 * a1 * a2) R → (R * R ≠ a1 * a1 * a2 → E (.ref C) none H) ∧
  (R * R = a1 * a1 * a2 → ∀ (r : Addr) (t u : Int) (H' : Hp),Same H H' → H' r = some (.tup [.int t,.int u]) → Frac (a0 + sg a1 * R) a3 t u → bits t ≤ 1500 → bits u ≤ 1500 → Q (.ref r) H')) → spOwn K C vs H Q E
inductive spRB (K : PySem.W.Frag) (C : Addr) (vs : List V) (H : Hp) (Q : VK) (E : XK) : Prop
  | mk : ∀ (p q : Addr) (a0 a1 a2 a3 b0 b1 b2 b3 : Int) (kk k2 J n : Nat),(vs = [.ref p,.ref q]) → (Rt K H p a0 a1 a2 a3) → (Rt K H q b0 b1 b2 b3) → (Two a0 a1 a2 a3 b0 b1 b2 b3 kk k2) → ((2 ^ J + 1 + kk + k2 + 8 ≤ n ∧ n ≤ 4490 ∧ 2 ^ J ≤ 4099)) → ((0 < ro a0 a1 a2 a3 b0 b1 b2 b3 → E (.ref C) none H)) → ((ro a0 a1 a2 a3 b0 b1 b2 b3 = 0 → ∀ R,Rtf 1 (a1 * a1 * a2) R → (R * R ≠ a1 * a1 * a2 → E (.ref C) none H) ∧ (R * R = a1 * a1 * a2 → ∀ (r : Addr) (t u : Int) (H' : Hp),Same H H' → H' r = some (.tup [.int t,.int u]) → Frac (a0 + sg a1 * R) a3 t u → bits t ≤ 1500 → bits u ≤ 1500 → Q (.ref r) H'))) → ((ro a0 a1 a2 a3 b0 b1 b2 b3 < 0 → (∀ F G,Rm a0 a1 a2 a3 b0 b1 b2 b3 J F G → F + 1 + 2 ≤ -G - 1) ∧ ∀ (r : Addr) (t u : Int) (H' : Hp),Same H H' → H' r = some (.tup [.int t,.int u]) → Wi a0 a1 a2 a3 b0 b1 b2 b3 t u → bits t ≤ n → bits u ≤ n → Q (.ref r) H')) → spRB K C vs H Q E
theorem sq_nn2 (x : Int) : 0 ≤ x * x := by
  rcases Int.lt_or_le x 0 with g | g
  · exact Int.le_of_lt (Int.mul_pos_of_neg_of_neg g g)
  · exact Int.mul_nonneg g g
theorem S_own_fraction : FnScope ["number","under","root"] ["number"] (defScope (top 14)) := ⟨rfl,rfl,rfl,by decide +kernel,rfl,by decide +kernel,by decide +kernel⟩
theorem fn_own_fraction {C : Addr} (D_own_fraction : Df K mg "own_fraction" (top 14)) (O_NoRatio : ExcC K mg "NoRatio" C) (F_floor_root : Fn P w K mg base "floor_root" ["number"] 1 spRoot) (F_sign_of : Fn P w K mg base "sign_of" ["number"] 1 spSign) (F_ratio : Fx P w K mg base "ratio" ["top","bottom"] 2 [.int 1] (spRatioN C)) : Fx P w K mg base "own_fraction" ["number"] 3 [] (spOwn K C) := by
  refine D_own_fraction.fx S_own_fraction (fun _ _ _ _ _ _ us hl => match us,hl with | [_],_ => rfl) (fun vs H Q E h => ?_) (fun f cdv A outer s H vs Q E hr h => ?_)
  · obtain ⟨p,a0,a1,a2,a3,rfl,_⟩ := h
    rfl
  · obtain ⟨p,a0,a1,a2,a3,rfl,r,⟨h2,h3⟩,k⟩ := h
    refine ⟨_,(pss_cons (ps_set (i := 1) S_own_fraction.nd rfl (Or.inl rfl) (pe_op op_mulX (pe_op op_mulX (pe_ix ix_tup (pv 0) pe_int (fun _ _ => rfl)) (pe_ix ix_tup (pv 0) pe_int (fun _ _ => rfl))) (pe_ix ix_tup (pv 0) pe_int (fun _ _ => rfl)))) (pss_cons (ps_set (i := 2) S_own_fraction.nd rfl (Or.inl rfl) (pe_fn F_floor_root (hr.mono (by decide)) (by rfl) (pa_cons (pv 1) pa_nil))) (pss_cons (ps_if (pt_cmpR op_ne (pe_op op_mulX (pv 2) (pv 2)) (pv 1) (nomark _)) (pss_one (ps_raise O_NoRatio (by rfl))) pss_nil) (pss_one (ps_ret (pe_fx F_ratio (hr.mono (by decide)) (by rfl) (pa_cons (pe_op op_add (pe_ix ix_tup (pv 0) pe_int (fun _ _ => rfl)) (pe_op op_mulX (pe_fn F_sign_of (hr.mono (by decide)) (by rfl) (pa_cons (pe_ix ix_tup (pv 0) pe_int (fun _ _ => rfl)) pa_nil)) (pv 2))) (pa_cons (pe_ix ix_tup (pv 0) pe_int (fun _ _ => rfl)) pa_nil)))))))),?_⟩
    have m1 : bits (a1 * a1) ≤ 900 := bits_mul r.b1 r.b1
    have m2 : bits (a1 * a1 * a2) ≤ 1900 := bits_mul m1 r.b2
    have n2 : 0 ≤ a1 * a1 * a2 := Int.mul_nonneg (sq_nn2 a1) h2
    refine ⟨_,rfl,p,_,_,_,rfl,rfl,r.at_,rfl,_,rfl,p,_,_,_,rfl,rfl,r.at_,rfl,_,_,rfl,rfl,CM.of r.b1 r.b1 ⟨by decide,by decide⟩,_,rfl,p,_,_,_,rfl,rfl,r.at_,rfl,_,_,rfl,rfl,CM.of m1 r.b2 ⟨by decide,by decide⟩,?_⟩
    refine ⟨_,rfl,_,rfl,n2,bits_le m2 (by decide),fun R hR => ?_⟩
    obtain ⟨k1,k2⟩ := k R hR
    have rb : bits R ≤ 951 := rtf_bits hR m2
    refine ⟨_,rfl,_,rfl,_,_,rfl,rfl,CM.of rb rb ⟨by decide,by decide⟩,_,rfl,rfl,_,rfl,ite3 (fun c => ?_) (fun c => ?_)⟩
    · exact k1 (by simpa using c)
    · have c : R * R = a1 * a1 * a2 := by simpa using c
      refine ⟨_,rfl,p,_,_,_,rfl,rfl,r.at_,rfl,_,rfl,p,_,_,_,rfl,rfl,r.at_,rfl,a1,rfl,_,rfl,_,_,rfl,rfl,CM.of (sg_bits a1) rb ⟨by decide,by decide⟩,_,_,rfl,rfl,_,rfl,p,_,_,_,rfl,rfl,r.at_,rfl,_,_,1500,rfl,⟨bits_le (bits_add (n := 961) (bits_le r.b0 (by decide)) (bits_mul (sg_bits a1) rb)) (by decide),bits_le r.b3 (by decide),by decide⟩,fun z => absurd z (by omega),fun _ p2 t u fr c1 c2 np => k2 c p2 t u _ (Same.new np) upd_same fr c1 c2⟩
theorem S_root_between : FnScope ["one","other","order"] ["one","other"] (defScope (top 20)) := ⟨rfl,rfl,rfl,by decide +kernel,rfl,by decide +kernel,by decide +kernel⟩
theorem fn_root_between {C : Addr} (D_root_between : Df K mg "root_between" (top 20)) (O_NoRatio : ExcC K mg "NoRatio" C) (F_root_order : Fn P w K mg base "root_order" ["one","other"] 4 (spRo K)) (F_own_fraction : Fx P w K mg base "own_fraction" ["number"] 3 [] (spOwn K C)) (F_fraction_within : Fn P w K mg base "fraction_within" ["one","other"] 4 (spFW K)) : Fx P w K mg base "root_between" ["one","other"] 5 [] (spRB K C) := by
  refine D_root_between.fx S_root_between (fun _ _ _ _ _ _ us hl => match us,hl with | [_,_],_ => rfl) (fun vs H Q E h => ?_) (fun f cdv A outer s H vs Q E hr h => ?_)
  · obtain ⟨p,q,a0,a1,a2,a3,b0,b1,b2,b3,kk,kq,J,n,rfl,_⟩ := h
    rfl
  · obtain ⟨p,q,a0,a1,a2,a3,b0,b1,b2,b3,kk,kq,J,n,rfl,rp,rq,tw,j,k1,k2,k3⟩ := h
    refine ⟨_,(pss_cons (ps_set (i := 2) S_root_between.nd rfl (Or.inl rfl) (pe_fn F_root_order (hr.mono (by decide)) (by rfl) (pa_cons (pv 0) (pa_cons (pv 1) pa_nil)))) (pss_cons (ps_if (pt_cmpR op_gt (pv 2) pe_int (nomark _)) (pss_one (ps_raise O_NoRatio (by rfl))) pss_nil) (pss_cons (ps_if (pt_cmpR op_eq (pv 2) pe_int (nomark _)) (pss_one (ps_ret (pe_fx F_own_fraction (hr.mono (by decide)) (by rfl) (pa_cons (pv 0) pa_nil)))) pss_nil) (pss_one (ps_ret (pe_fn F_fraction_within (hr.mono (by decide)) (by rfl) (pa_cons (pv 0) (pa_cons (pv 1) pa_nil)))))))),?_⟩
    refine ⟨_,rfl,_,rfl,p,q,a0,a1,a2,a3,b0,b1,b2,b3,rfl,rp,rq,?_⟩
    refine ⟨_,rfl,_,_,rfl,rfl,_,rfl,ite3 (fun c => ?_) (fun c => ?_)⟩
    · exact k1 (dec_t c)
    · have c : ¬ 0 < ro a0 a1 a2 a3 b0 b1 b2 b3 := dec_f c
      refine ⟨_,rfl,rfl,_,rfl,ite3 (fun d => ?_) (fun d => ?_)⟩
      · exact ⟨_,rfl,p,a0,a1,a2,a3,rfl,rp,⟨tw.a2n,tw.a3p⟩,k2 (by simpa using d)⟩
      · have d : ¬ ro a0 a1 a2 a3 b0 b1 b2 b3 = 0 := by simpa using d
        obtain ⟨k4,k5⟩ := k3 (by omega)
        exact ⟨_,rfl,_,rfl,p,q,a0,a1,a2,a3,b0,b1,b2,b3,kk,kq,J,n,rfl,rp,rq,tw,j,k4,k5⟩
theorem S_law_root : FnScope ["number","found"] ["number"] (defScope (top 27)) := ⟨rfl,rfl,rfl,by decide +kernel,rfl,by decide +kernel,by decide +kernel⟩
theorem fn_law_root (D_law_root : Df K mg "_law_root" (top 27)) : Fn P w K mg base "_law_root" ["number"] 1 spRoot := by
  refine D_law_root.fn S_law_root (fun _ _ _ _ _ _ us hl => match us,hl with | [_],_ => rfl) (fun vs H Q E h => ?_) (fun f cdv A outer s H vs Q E hr h => ?_)
  · obtain ⟨n,rfl,_⟩ := h
    rfl
  · obtain ⟨n,rfl,hn,bn,q⟩ := h
    refine ⟨_,(pss_cons (ps_set (i := 1) S_law_root.nd rfl (Or.inl rfl) (pe_op op_shl pe_int (pe_op op_fdivP (pe_op op_add (pe_bm0 PySem.F.plainAttrs_int PySem.F.slot_int_bit_length PySem.F.type_int_bit_length mt_bitlen (pv 0)) pe_int) pe_int))) (pss_cons (ps_while PassesOwn.never (pt_cmpR op_gt (pe_op op_mulX (pv 1) (pv 1)) (pv 0) (nomark _)) (pss_one (ps_set (i := 1) S_law_root.nd rfl (Or.inl rfl) (pe_op op_fdivP (pe_op op_add (pv 1) (pe_op op_fdivP (pv 0) (pv 1))) pe_int)))) (pss_one (ps_ret (pv 1))))),?_⟩
    have st := start_root hn
    have sb := root_bits2 hn bn
    refine ⟨_,rfl,rfl,n,rfl,rfl,_,_,rfl,rfl,_,_,rfl,rfl,⟨by decide,by decide⟩,_,_,rfl,rfl,⟨Int.ediv_nonneg (by omega) (by decide),?_,by decide⟩,?_⟩
    · show (((bits n : Nat) : Int) + 1) / 2 ≤ 1000000
      omega
    refine while_by (fun σ H' => ∃ f : Int,σ = [some (.int n),some (.int f)] ∧ H' = H ∧ 0 ≤ f ∧ n < (f + 1) * (f + 1) ∧ bits f ≤ 7502)
      (fun σ _ => match σ with | [_,some (.int f)] => f.toNat | _ => 0) ⟨_,rfl,rfl,by omega,st.1,sb⟩ ?_ ?_
    · rintro σ H' ⟨f,rfl,rfl,hf,hlt,bf⟩
      refine ⟨_,rfl,_,rfl,_,_,rfl,rfl,CM.b bf bf (by decide) (by decide),_,rfl,_,_,rfl,rfl,_,rfl,ite3 (fun hc => ?_) (fun hc => ?_)⟩
      · have hc : n < f * f := dec_t hc
        have hf0 : 0 < f := by
          rcases Int.lt_or_eq_of_le hf with h | h
          · exact h
          · rw [← h] at hc; simp at hc; omega
        obtain ⟨k1,k2,k3⟩ := newton hn hf0
        refine ⟨_,rfl,_,rfl,_,rfl,_,_,rfl,rfl,⟨hf0,bits_le bf (by decide)⟩,_,_,rfl,rfl,_,_,rfl,rfl,⟨by decide,by decide⟩,⟨(f + n / f) / 2,rfl,rfl,k3,k1,bits_range k3 (Int.le_of_lt (k2 hc)) bf⟩,?_⟩
        have := k2 hc
        show ((f + n / f) / 2).toNat < f.toNat
        omega
      · have hc : ¬ n < f * f := dec_f hc
        refine ⟨_,rfl,q f ⟨hf,by omega,by omega⟩⟩
    · rintro σ H' Q1 Q2 hq ⟨v,e,v2,e2,i,j,e3,e4,cm,v3,e5,i2,j2,e6,e7,k,ek,r⟩
      exact ⟨v,e,v2,e2,i,j,e3,e4,cm,v3,e5,i2,j2,e6,e7,k,ek,hq _ _ r⟩
theorem S_law_side : FnScope ["number"] ["number"] (defScope (top 28)) := ⟨rfl,rfl,rfl,by decide +kernel,rfl,by decide +kernel,by decide +kernel⟩
theorem fn_law_side (D_law_side : Df K mg "_law_side" (top 28)) (T : Txt mg) : Fn P w K mg base "_law_side" ["number"] 1 spSide := by
  refine D_law_side.fn S_law_side (fun _ _ _ _ _ _ us hl => match us,hl with | [_],_ => rfl) (fun vs H Q E h => ?_) (fun f cdv A outer s H vs Q E hr h => ?_)
  · obtain ⟨n,rfl,_⟩ := h
    rfl
  · obtain ⟨n,rfl,q⟩ := h
    refine ⟨_,(pss_one (ps_ret (pe_op op_sub (pe_callTy call_int1 (by rfl) T.z_int bt_int (pa_cons (pe_cmpR op_gt (pv 0) pe_int (nomark _)) pa_nil)) (pe_callTy call_int1 (by rfl) T.z_int bt_int (pa_cons (pe_cmpR op_lt (pv 0) pe_int (nomark _)) pa_nil))))),?_⟩
    refine ⟨_,rfl,_,_,rfl,rfl,.inr ⟨_,rfl,_,rfl,_,_,rfl,rfl,.inr ⟨_,rfl,_,_,rfl,rfl,?_⟩⟩⟩
    have e : (if decide (n > 0) = true then (1 : Int) else 0) - (if decide (n < 0) = true then 1 else 0) = sg n := by
      rcases Int.lt_trichotomy n 0 with h | h | h
      · rw [sg_n h,decide_eq_false (show ¬ n > 0 by omega),decide_eq_true h]; rfl
      · subst h; rfl
      · rw [sg_p h,decide_eq_true (show n > 0 from h),decide_eq_false (show ¬ n < 0 by omega)]; rfl
    rw [← e] at q
    exact q
theorem pow3 (x : Int) : x ^ (3 : Int).toNat = x * x * x := by
  show x ^ 3 = _
  grind
theorem pow2 (x : Int) : x ^ (2 : Int).toNat = x * x := by
  show x ^ 2 = _
  grind
theorem rtf_le {n r : Int} (h : Rtf 1 n r) : r ≤ n := by
  have h1 := h.nn
  have h2 := h.lo
  rcases Int.lt_or_eq_of_le h1 with g | g
  · have : r * 1 ≤ r * r := Int.mul_le_mul_of_nonneg_left (by omega) h1
    omega
  · rw [← g] at h2 ⊢
    simp at h2
    omega
theorem abs_nn (x : Int) : 0 ≤ (if x < 0 then -x else x) := by split <;> omega
theorem abs_sq (x : Int) : (if x < 0 then -x else x) * (if x < 0 then -x else x) = x * x := by
  split
  · grind
  · rfl
theorem sign_fin {w m u n l ru rl A C M S : Int} (hu : 0 ≤ u) (hl : 0 ≤ l) (Ru : Rtf 1 u ru) (Rl : Rtf 1 l rl) (hM : M = 1 + (if w < 0 then -w else w) + (if m < 0 then -m else m) * (1 + ru) + (if n < 0 then -n else n) * (1 + rl)) (hS : S = 8 * (3 * M) ^ (3 : Int).toNat) (RA : Rtf 1 ((m * S) ^ (2 : Int).toNat * u) A) (RC : Rtf 1 ((n * S) ^ (2 : Int).toNat * l) C) :
    told (w * S + A * sg m - C * sg n) = swrs w m u (-n) l := by
  have am := abs_nn m
  have an := abs_nn n
  have aw := abs_nn w
  have r0 := Ru.nn
  have l0 := Rl.nn
  have k1 : 0 ≤ (if m < 0 then -m else m) * (1 + ru) := Int.mul_nonneg am (by omega)
  have k2 : 0 ≤ (if n < 0 then -n else n) * (1 + rl) := Int.mul_nonneg an (by omega)
  have aux : ∀ {x v r : Int},Rtf 1 v r → 0 ≤ (if x < 0 then -x else x) * (1 + r) → (if x < 0 then -x else x) * (1 + r) ≤ M → x * x * v ≤ M * M := fun {x v r} R h0 h1 => by
    have s1 := sq_mono h0 h1
    have e1 : (if x < 0 then -x else x) * (1 + r) * ((if x < 0 then -x else x) * (1 + r)) = x * x * ((r + 1) * (r + 1)) := by
      rw [← abs_sq x]; grind
    have xx : 0 ≤ x * x := by rw [← abs_sq x]; exact Int.mul_nonneg (abs_nn x) (abs_nn x)
    have h2 : x * x * v ≤ x * x * ((r + 1) * (r + 1)) := Int.mul_le_mul_of_nonneg_left (by have := R.hi; omega) xx
    omega
  have scl : Scl S M := ⟨by omega,by rw [hS,pow3]; exact Int.le_of_eq (by grind)⟩
  have cv : ∀ {x v a : Int},Rtf 1 ((x * S) ^ (2 : Int).toNat * v) a → Rtf (S * S) (x * x * v) a := fun {x v a} R => by
    have e : S * S * (x * x * v) = 1 * ((x * S) ^ (2 : Int).toNat * v) := by rw [pow2]; grind
    exact ⟨R.nn,by rw [e]; exact R.lo,by rw [e]; exact R.hi⟩
  have w1 : -M ≤ w ∧ w ≤ M := by
    have : w ≤ (if w < 0 then -w else w) ∧ -(if w < 0 then -w else w) ≤ w := by split <;> omega
    omega
  exact told_eq scl hu hl (aux Ru k1 (by omega)) (aux Rl k2 (by omega)) (cv RA) (cv RC) w1.1 w1.2
theorem bits_one {x : Int} {n : Nat} (h : bits x ≤ n) (hn : 1 ≤ n) : bits (1 + x) ≤ n + 1 := bits_add (bits_le (show bits 1 ≤ 1 by decide) hn) h
theorem S_law_sign : FnScope ["whole","many","under","more","lower","most","scale","left","right","middle"] ["whole","many","under","more","lower"] (defScope (top 29)) := ⟨rfl,rfl,rfl,by decide +kernel,rfl,by decide +kernel,by decide +kernel⟩
theorem fn_law_sign (D_law_sign : Df K mg "_law_sign" (top 29)) (F_law_root : Fn P w K mg base "_law_root" ["number"] 1 spRoot) (F_law_side : Fn P w K mg base "_law_side" ["number"] 1 spSide) (T : Txt mg) : Fn P w K mg base "_law_sign" ["whole","many","under","more","lower"] 2 spLSign := by
  refine D_law_sign.fn S_law_sign (fun _ _ _ _ _ _ us hl => match us,hl with | [_,_,_,_,_],_ => rfl) (fun vs H Q E h => ?_) (fun f cdv A outer s H vs Q E hr h => ?_)
  · obtain ⟨a,m,u,n,l,rfl,_⟩ := h
    rfl
  · obtain ⟨a,m,u,n,l,rfl,⟨hu,hl⟩,⟨ba,bm,bu,bn,bl⟩,q⟩ := h
    refine ⟨_,(pss_cons (ps_set (i := 5) S_law_sign.nd rfl (Or.inl rfl) (pe_op op_add (pe_op op_add pe_int (pe_callB call_abs (by rfl) T.z_abs bt_abs (pa_cons (pv 0) pa_nil))) (pe_op op_mulX (pe_callB call_abs (by rfl) T.z_abs bt_abs (pa_cons (pv 1) pa_nil)) (pe_op op_add pe_int (pe_fn F_law_root (hr.mono (by decide)) (by rfl) (pa_cons (pv 2) pa_nil)))))) (pss_cons (ps_set (i := 5) S_law_sign.nd rfl (Or.inl rfl) (pe_op op_add (pv 5) (pe_op op_mulX (pe_callB call_abs (by rfl) T.z_abs bt_abs (pa_cons (pv 3) pa_nil)) (pe_op op_add pe_int (pe_fn F_law_root (hr.mono (by decide)) (by rfl) (pa_cons (pv 4) pa_nil)))))) (pss_cons (ps_set (i := 6) S_law_sign.nd rfl (Or.inl rfl) (pe_op op_mulX pe_int (pe_op op_powX (pe_op op_mulX pe_int (pv 5)) pe_int))) (pss_cons (ps_set (i := 7) S_law_sign.nd rfl (Or.inl rfl) (pe_op op_mulX (pe_fn F_law_root (hr.mono (by decide)) (by rfl) (pa_cons (pe_op op_mulX (pe_op op_powX (pe_op op_mulX (pv 1) (pv 6)) pe_int) (pv 2)) pa_nil)) (pe_fn F_law_side (hr.mono (by decide)) (by rfl) (pa_cons (pv 1) pa_nil)))) (pss_cons (ps_set (i := 8) S_law_sign.nd rfl (Or.inl rfl) (pe_op op_mulX (pe_fn F_law_root (hr.mono (by decide)) (by rfl) (pa_cons (pe_op op_mulX (pe_op op_powX (pe_op op_mulX (pv 3) (pv 6)) pe_int) (pv 4)) pa_nil)) (pe_fn F_law_side (hr.mono (by decide)) (by rfl) (pa_cons (pv 3) pa_nil)))) (pss_cons (ps_set (i := 9) S_law_sign.nd rfl (Or.inl rfl) (pe_op op_sub (pe_op op_add (pe_op op_mulX (pv 0) (pv 6)) (pv 7)) (pv 8))) (pss_one (ps_ret (pe_op op_sub (pe_callTy call_int1 (by rfl) T.z_int bt_int (pa_cons (pe_cmpR op_gt (pv 9) pe_int (nomark _)) pa_nil)) (pe_callTy call_int1 (by rfl) T.z_int bt_int (pa_cons (pe_cmpR op_lt (pv 9) (pe_un un_neg pe_int) (nomark _)) pa_nil))))))))))),?_⟩
    refine ⟨_,rfl,_,rfl,_,_,rfl,rfl,_,rfl,_,rfl,_,rfl,u,rfl,hu,bits_le bu (by decide),fun ru Ru => ?_⟩
    have bru : bits (1 + ru) ≤ 201 := bits_one (bits_range Ru.nn (rtf_le Ru) bu) (by decide)
    refine ⟨_,_,rfl,rfl,_,_,rfl,rfl,CM.b (bits_abs bm) bru (by decide) (by decide),_,_,rfl,rfl,?_⟩
    have b1 : bits (1 + (if a < 0 then -a else a) + (if m < 0 then -m else m) * (1 + ru)) ≤ 1683 := bits_add (bits_le (bits_one (bits_abs ba) (by decide)) (by decide)) (bits_mul (bits_abs bm) bru)
    refine ⟨_,rfl,_,rfl,_,rfl,_,rfl,l,rfl,hl,bits_le bl (by decide),fun rl Rl => ?_⟩
    have brl : bits (1 + rl) ≤ 201 := bits_one (bits_range Rl.nn (rtf_le Rl) bl) (by decide)
    refine ⟨_,_,rfl,rfl,_,_,rfl,rfl,CM.b (bits_abs bn) brl (by decide) (by decide),_,_,rfl,rfl,?_⟩
    have b2 : bits (1 + (if a < 0 then -a else a) + (if m < 0 then -m else m) * (1 + ru) + (if n < 0 then -n else n) * (1 + rl)) ≤ 1684 := bits_add b1 (bits_le (bits_mul (bits_abs bn) brl) (by decide))
    have b3 : bits (3 * (1 + (if a < 0 then -a else a) + (if m < 0 then -m else m) * (1 + ru) + (if n < 0 then -n else n) * (1 + rl))) ≤ 1694 := bits_mul (m := 10) (bits_small (by decide) (by decide)) b2
    have b4 : bits ((3 * (1 + (if a < 0 then -a else a) + (if m < 0 then -m else m) * (1 + ru) + (if n < 0 then -n else n) * (1 + rl))) ^ (3 : Int).toNat) ≤ 5082 := by rw [pow3]; exact bits_mul (bits_mul b3 b3) b3
    have b5 : bits (8 * (3 * (1 + (if a < 0 then -a else a) + (if m < 0 then -m else m) * (1 + ru) + (if n < 0 then -n else n) * (1 + rl))) ^ (3 : Int).toNat) ≤ 5092 := bits_mul (m := 10) (bits_small (by decide) (by decide)) b4
    have p3 : CPX (3 * (1 + (if a < 0 then -a else a) + (if m < 0 then -m else m) * (1 + ru) + (if n < 0 then -n else n) * (1 + rl))) 3 := ⟨by decide,by
      have e : (2 : Int) ^ 27 = 134217728 := by decide
      have h' : Builtin.Int.intBits (3 * (1 + (if a < 0 then -a else a) + (if m < 0 then -m else m) * (1 + ru) + (if n < 0 then -n else n) * (1 + rl))) ≤ 1694 := b3
      rw [e]
      omega⟩
    refine ⟨_,rfl,_,_,rfl,rfl,CM.l (lt64s (by decide) (by decide)),_,_,rfl,rfl,p3,_,_,rfl,rfl,CM.l (lt64s (by decide) (by decide)),?_⟩
    obtain ⟨S,eS⟩ : ∃ S : Int,S = 8 * (3 * (1 + (if a < 0 then -a else a) + (if m < 0 then -m else m) * (1 + ru) + (if n < 0 then -n else n) * (1 + rl))) ^ (3 : Int).toNat := ⟨_,rfl⟩
    rw [← eS] at b5
    have fin := fun (A C : Int) => sign_fin (w := a) (m := m) (u := u) (n := n) (l := l) (ru := ru) (rl := rl) (A := A) (C := C) hu hl Ru Rl rfl eS
    have sqn : ∀ x : Int,0 ≤ x * x := fun x => by rw [← abs_sq x]; exact Int.mul_nonneg (abs_nn x) (abs_nn x)
    have side : ∀ {x y : Int},CM x (sg y) := fun {x y} => CM.r (by have := sg_small y; exact lt64s (by omega) (by omega))
    have rt : ∀ {x v : Int},bits x ≤ 1481 → bits v ≤ 200 → 0 ≤ v → CM x S ∧ CPX (x * S) 2 ∧ CM ((x * S) ^ (2 : Int).toNat) v ∧ 0 ≤ (x * S) ^ (2 : Int).toNat * v ∧ bits ((x * S) ^ (2 : Int).toNat * v) ≤ 15000 := fun {x v} hx hv h0 => by
      have c1 : bits (x * S) ≤ 6573 := bits_mul hx b5
      have c2 : bits ((x * S) ^ (2 : Int).toNat) ≤ 13146 := by rw [pow2]; exact bits_mul c1 c1
      exact ⟨CM.b hx b5 (by decide) (by decide),cpx2 c1 (by decide),CM.b c2 hv (by decide) (by decide),Int.mul_nonneg (by rw [pow2]; exact sqn _) h0,bits_le (bits_mul c2 hv) (by decide)⟩
    obtain ⟨r1,r2,r3,r4,r5⟩ := rt bm bu hu
    obtain ⟨t1,t2,t3,t4,t5⟩ := rt bn bl hl
    have cw : CM a S := CM.b ba b5 (by decide) (by decide)
    subst eS
    refine ⟨_,rfl,_,rfl,_,_,rfl,rfl,r1,_,_,rfl,rfl,r2,_,rfl,_,_,rfl,rfl,r3,_,rfl,r4,r5,fun A1 RA => ⟨_,rfl,m,rfl,_,_,rfl,rfl,side,?_⟩⟩
    refine ⟨_,rfl,_,rfl,_,_,rfl,rfl,t1,_,_,rfl,rfl,t2,_,rfl,_,_,rfl,rfl,t3,_,rfl,t4,t5,fun C1 RC => ⟨_,rfl,n,rfl,_,_,rfl,rfl,side,?_⟩⟩
    refine ⟨_,rfl,_,rfl,_,_,rfl,rfl,cw,_,rfl,_,_,rfl,rfl,_,rfl,_,_,rfl,rfl,?_⟩
    refine ⟨_,rfl,_,_,rfl,rfl,.inr ⟨_,rfl,_,rfl,_,rfl,_,_,rfl,rfl,.inr ⟨_,rfl,_,_,rfl,rfl,?_⟩⟩⟩
    rw [← fin A1 C1 RA RC] at q
    exact q
theorem pickI {Q : Int → Prop} {zs : List Int} {k : Int} (h0 : 0 ≤ k) (h1 : k < (zs.length : Int)) (h : ∀ z ∈ zs,Q z) : ∃ z,atI (zs.map V.int) k = some (V.int z) ∧ Q z := by
  have hk : k.toNat < zs.length := by omega
  exact ⟨zs[k.toNat],at_int k.toNat (by omega) hk,h _ (List.getElem_mem hk)⟩
theorem all3 {Q : Int → Prop} {a b c : Int} (h1 : Q a) (h2 : Q b) (h3 : Q c) : ∀ z ∈ [a,b,c],Q z := by
  intro z hz
  simp only [List.mem_cons,List.not_mem_nil,or_false] at hz
  rcases hz with rfl | rfl | rfl <;> assumption
theorem all4 {Q : Int → Prop} {a b c d : Int} (h1 : Q a) (h2 : Q b) (h3 : Q c) (h4 : Q d) : ∀ z ∈ [a,b,c,d],Q z := by
  intro z hz
  simp only [List.mem_cons,List.not_mem_nil,or_false] at hz
  rcases hz with rfl | rfl | rfl | rfl <;> assumption
theorem modw {n wd : Int} (h0 : 0 ≤ wd) (h : wd ≤ 100000000000000000000) : bits (n % (2 * wd + 1) - wd) ≤ 70 := by
  refine bits_of ?_
  have h0 := Int.emod_nonneg n (show 2 * wd + 1 ≠ 0 by omega)
  have h1 := Int.emod_lt_of_pos n (show 0 < 2 * wd + 1 by omega)
  have e : (2 : Nat) ^ 70 = 1180591620717411303424 := by decide
  rw [e]
  omega
theorem modl {n k : Int} (h0 : 0 < k) (h : k ≤ 100000000000000000000) : (0 ≤ n % k ∧ n % k < k) ∧ bits (n % k) ≤ 67 := by
  have a := Int.emod_nonneg n (show k ≠ 0 by omega)
  have b := Int.emod_lt_of_pos n h0
  refine ⟨⟨a,b⟩,bits_of ?_⟩
  have e : (2 : Nat) ^ 67 = 147573952589676412928 := by decide
  rw [e]
  omega
theorem cut_ij {ns : List Int} (i j : Nat) (hi : i ≤ j) (h : j ≤ ns.length) : cutV (ns.map V.int) (some (i : Int)) (some (j : Int)) = ((ns.drop i).take (j - i)).map V.int := by
  unfold cutV
  rw [HT.sIx_nat,HT.sIx_nat,List.length_map,Nat.min_eq_left (show i ≤ ns.length by omega),Nat.min_eq_left h,← List.map_drop,← List.map_take]
theorem cut_0j {ns : List Int} (j : Nat) (h : j ≤ ns.length) : cutV (ns.map V.int) none (some (j : Int)) = (ns.take j).map V.int := by
  unfold cutV
  rw [HT.sIx_nat,HT.sIx_none,List.drop_zero,Nat.sub_zero,List.length_map,Nat.min_eq_left h,List.map_take]
inductive spSingle (vs : List V) (H : Hp) (Q : VK) (x_3 : XK) : Prop
  | mk : ∀ (pn : Addr) (ns : List Int),(vs = [.ref pn]) → (H pn = some (.lst (ns.map V.int))) → (5 ≤ ns.length) → ((∀ n ∈ ns,0 ≤ n)) → (∀ (r : Addr) (a0 a1 a2 a3 : Int) (H' : Hp),Same H H' → Rn H' r a0 a1 a2 a3 70 → Q (.ref r) H') → spSingle vs H Q x_3
theorem S_law_single : FnScope ["numbers","most","p","q","r","s"] ["numbers"] (defScope (top 31)) := ⟨rfl,rfl,rfl,by decide +kernel,rfl,by decide +kernel,by decide +kernel⟩
theorem fn_law_single (D_law_single : Df K mg "_law_single" (top 31)) : Fn P w K mg base "_law_single" ["numbers"] 1 spSingle := by
  refine D_law_single.fn S_law_single (fun _ _ _ _ _ _ us hl => match us,hl with | [_],_ => rfl) (fun vs H Q E h => ?_) (fun f cdv A outer s H vs Q E hr h => ?_)
  · obtain ⟨pn,ns,rfl,_⟩ := h
    rfl
  · obtain ⟨pn,ns,rfl,hn,h5,nn,q⟩ := h
    refine ⟨_,(pss_cons (ps_set (i := 1) S_law_single.nd rfl (Or.inl rfl) (pe_op op_pow pe_int pe_int)) (pss_cons (ps_set (i := 2) S_law_single.nd rfl (Or.inl rfl) (pe_ix ix_list (pe_lstA (pa_cons (pe_op op_sub (pe_op op_mod (pe_ix ix_list (pv 0) pe_int (fun _ _ => rfl)) pe_int) pe_int) (pa_cons (pe_op op_sub (pe_op op_mod (pe_ix ix_list (pv 0) pe_int (fun _ _ => rfl)) (pe_op op_add (pe_op op_mulX pe_int (pv 1)) pe_int)) (pv 1)) (pa_cons pe_int pa_nil)))) (pe_op op_mod (pe_ix ix_list (pv 0) pe_int (fun _ _ => rfl)) pe_int) (fun _ _ => rfl))) (pss_cons (ps_set (i := 3) S_law_single.nd rfl (Or.inl rfl) (pe_ix ix_list (pe_lstA (pa_cons (pe_op op_sub (pe_op op_mod (pe_ix ix_list (pv 0) pe_int (fun _ _ => rfl)) pe_int) pe_int) (pa_cons (pe_op op_sub (pe_op op_mod (pe_ix ix_list (pv 0) pe_int (fun _ _ => rfl)) (pe_op op_add (pe_op op_mulX pe_int (pv 1)) pe_int)) (pv 1)) (pa_cons pe_int (pa_cons pe_int pa_nil))))) (pe_op op_mod (pe_op op_fdivP (pe_ix ix_list (pv 0) pe_int (fun _ _ => rfl)) pe_int) pe_int) (fun _ _ => rfl))) (pss_cons (ps_set (i := 4) S_law_single.nd rfl (Or.inl rfl) (pe_ix ix_list (pe_lstA (pa_cons (pe_op op_mod (pe_ix ix_list (pv 0) pe_int (fun _ _ => rfl)) pe_int) (pa_cons (pe_op op_pow (pe_op op_mod (pe_ix ix_list (pv 0) pe_int (fun _ _ => rfl)) (pe_op op_pow pe_int pe_int)) pe_int) (pa_cons (pe_op op_mod (pe_ix ix_list (pv 0) pe_int (fun _ _ => rfl)) (pv 1)) (pa_cons (pe_op op_mod (pe_ix ix_list (pv 0) pe_int (fun _ _ => rfl)) pe_int) pa_nil))))) (pe_op op_mod (pe_op op_fdivP (pe_ix ix_list (pv 0) pe_int (fun _ _ => rfl)) pe_int) pe_int) (fun _ _ => rfl))) (pss_cons (ps_set (i := 5) S_law_single.nd rfl (Or.inl rfl) (pe_ix ix_list (pe_lstA (pa_cons (pe_op op_add pe_int (pe_op op_mod (pe_ix ix_list (pv 0) pe_int (fun _ _ => rfl)) pe_int)) (pa_cons (pe_op op_add pe_int (pe_op op_mod (pe_ix ix_list (pv 0) pe_int (fun _ _ => rfl)) (pv 1))) (pa_cons pe_int pa_nil)))) (pe_op op_mod (pe_op op_fdivP (pe_ix ix_list (pv 0) pe_int (fun _ _ => rfl)) pe_int) pe_int) (fun _ _ => rfl))) (pss_one (ps_ret (pe_tupA (pa_cons (pv 2) (pa_cons (pv 3) (pa_cons (pv 4) (pa_cons (pv 5) pa_nil)))))))))))),?_⟩
    have e20 : ((10 : Int) ^ (20 : Int).toNat) = 100000000000000000000 := by decide +kernel
    have e10 : ((10 : Int) ^ (10 : Int).toNat) = 10000000000 := by decide +kernel
    have two : ∀ x : Int,CM 2 x := fun x => CM.l (lt64s (by decide) (by decide))
    have m20 : (0 : Int) ≤ (10 : Int) ^ (20 : Int).toNat ∧ (10 : Int) ^ (20 : Int).toNat ≤ 100000000000000000000 := by rw [e20]; decide
    have p20 : (0 : Int) < 2 * (10 : Int) ^ (20 : Int).toNat + 1 := by omega
    have q20 : (0 : Int) < (10 : Int) ^ (20 : Int).toNat := by rw [e20]; decide
    have dv : ∀ k : Int,0 < k → k ≤ 100 → 0 < k ∧ bits k ≤ 8000 := fun k h0 h1 => ⟨h0,bits_le (bits_small (by omega) (by omega)) (by decide)⟩
    have md : ∀ (n k : Int),0 < k → 0 ≤ n % k ∧ n % k < k := fun n k h => ⟨Int.emod_nonneg _ (by omega),Int.emod_lt_of_pos _ h⟩
    have b10 : ∀ {x : Int},-1000 ≤ x → x ≤ 1000 → bits x ≤ 70 := fun h0 h1 => bits_le (bits_small h0 h1) (by decide)
    refine ⟨_,_,rfl,rfl,⟨by decide,by decide,by decide⟩,?_⟩
    refine ⟨_,rfl,pn,_,_,_,rfl,rfl,SqL.of (hn),at_int 1 rfl (by omega),_,_,rfl,rfl,(by show (0 : Int) < 41; decide),_,_,rfl,rfl,_,rfl,pn,_,_,_,rfl,rfl,SqL.of (hn),at_int 1 rfl (by omega),_,rfl,_,_,rfl,rfl,two _,_,_,rfl,rfl,_,_,rfl,rfl,p20,_,rfl,_,_,rfl,rfl,sz (by simp),fun o1 H1 s1 f1 _ => ?_⟩
    obtain ⟨p,hp,bp⟩ := pickI (Q := fun z => bits z ≤ 70) (zs := [ns[1] % 41 - 20,ns[1] % (2 * (10 : Int) ^ (20 : Int).toNat + 1) - (10 : Int) ^ (20 : Int).toNat,0]) (md ns[0] 3 (by decide)).1 (md ns[0] 3 (by decide)).2 (all3 (b10 (by have := md ns[1] 41 (by decide); omega) (by have := md ns[1] 41 (by decide); omega)) (modw m20.1 m20.2) (by decide))
    have n1 := s1 _ _ hn
    refine ⟨_,rfl,pn,_,_,_,rfl,rfl,SqL.of (n1),at_int 0 rfl (by omega),_,_,rfl,rfl,(by show (0 : Int) < 3; decide),o1,_,_,_,rfl,rfl,SqL.of f1,hp,?_⟩
    refine ⟨_,rfl,pn,_,_,_,rfl,rfl,SqL.of (n1),at_int 2 rfl (by omega),_,_,rfl,rfl,(by show (0 : Int) < 9; decide),_,_,rfl,rfl,_,rfl,pn,_,_,_,rfl,rfl,SqL.of (n1),at_int 2 rfl (by omega),_,rfl,_,_,rfl,rfl,two _,_,_,rfl,rfl,_,_,rfl,rfl,p20,_,rfl,_,_,rfl,rfl,sz (by simp),fun o2 H2 s2 f2 _ => ?_⟩
    obtain ⟨qq,hq,bq⟩ := pickI (Q := fun z => bits z ≤ 70) (zs := [ns[2] % 9 - 4,ns[2] % (2 * (10 : Int) ^ (20 : Int).toNat + 1) - (10 : Int) ^ (20 : Int).toNat,1,0]) (md (ns[0] / 4) 4 (by decide)).1 (md (ns[0] / 4) 4 (by decide)).2 (all4 (b10 (by have := md ns[2] 9 (by decide); omega) (by have := md ns[2] 9 (by decide); omega)) (modw m20.1 m20.2) (by decide) (by decide))
    have n2 := s2 _ _ n1
    refine ⟨_,rfl,pn,_,_,_,rfl,rfl,SqL.of (n2),at_int 0 rfl (by omega),_,_,rfl,rfl,dv 4 (by decide) (by decide),_,_,rfl,rfl,(by show (0 : Int) < 4; decide),o2,_,_,_,rfl,rfl,SqL.of f2,hq,?_⟩
    have p10 : (0 : Int) < (10 : Int) ^ (10 : Int).toNat := by rw [e10]; decide
    have sm : (ns[3] % (10 : Int) ^ (10 : Int).toNat).natAbs < 2 ^ 64 := by
      have := md ns[3] ((10 : Int) ^ (10 : Int).toNat) p10
      have e : (2 : Nat) ^ 64 = 18446744073709551616 := by decide
      rw [e]
      rw [e10] at this ⊢
      omega
    refine ⟨_,rfl,pn,_,_,_,rfl,rfl,SqL.of (n2),at_int 3 rfl (by omega),_,_,rfl,rfl,(by show (0 : Int) < 40; decide),_,rfl,pn,_,_,_,rfl,rfl,SqL.of (n2),at_int 3 rfl (by omega),_,_,rfl,rfl,⟨by decide,by decide,by decide⟩,_,_,rfl,rfl,p10,_,_,rfl,rfl,⟨by decide,by decide,sm⟩,_,rfl,pn,_,_,_,rfl,rfl,SqL.of (n2),at_int 3 rfl (by omega),_,rfl,_,_,rfl,rfl,q20,_,rfl,pn,_,_,_,rfl,rfl,SqL.of (n2),at_int 3 rfl (by omega),_,_,rfl,rfl,(by show (0 : Int) < 7; decide),sz (by simp),fun o3 H3 s3 f3 _ => ?_⟩
    have bsq : 0 ≤ (ns[3] % (10 : Int) ^ (10 : Int).toNat) ^ (2 : Int).toNat ∧ bits ((ns[3] % (10 : Int) ^ (10 : Int).toNat) ^ (2 : Int).toNat) ≤ 70 := by
      have h := md ns[3] ((10 : Int) ^ (10 : Int).toNat) p10
      have b : bits (ns[3] % (10 : Int) ^ (10 : Int).toNat) ≤ 35 := by
        refine bits_of ?_
        have e : (2 : Nat) ^ 35 = 34359738368 := by decide
        rw [e]
        rw [e10] at h ⊢
        omega
      rw [pow2]
      exact ⟨Int.mul_nonneg h.1 h.1,bits_mul b b⟩
    obtain ⟨r,hr2,br⟩ := pickI (Q := fun z => 0 ≤ z ∧ bits z ≤ 70) (zs := [ns[3] % 40,(ns[3] % (10 : Int) ^ (10 : Int).toNat) ^ (2 : Int).toNat,ns[3] % (10 : Int) ^ (20 : Int).toNat,ns[3] % 7]) (md (ns[0] / 16) 4 (by decide)).1 (md (ns[0] / 16) 4 (by decide)).2 (all4 ⟨(md ns[3] 40 (by decide)).1,b10 (by have := md ns[3] 40 (by decide); omega) (by have := md ns[3] 40 (by decide); omega)⟩ bsq ⟨(md ns[3] _ q20).1,bits_le (modl q20 m20.2).2 (by decide)⟩ ⟨(md ns[3] 7 (by decide)).1,b10 (by have := md ns[3] 7 (by decide); omega) (by have := md ns[3] 7 (by decide); omega)⟩)
    have n3 := s3 _ _ n2
    refine ⟨_,rfl,pn,_,_,_,rfl,rfl,SqL.of (n3),at_int 0 rfl (by omega),_,_,rfl,rfl,dv 16 (by decide) (by decide),_,_,rfl,rfl,(by show (0 : Int) < 4; decide),o3,_,_,_,rfl,rfl,SqL.of f3,hr2,?_⟩
    refine ⟨_,rfl,pn,_,_,_,rfl,rfl,SqL.of (n3),at_int 4 rfl (by omega),_,_,rfl,rfl,(by show (0 : Int) < 9; decide),_,_,rfl,rfl,_,rfl,pn,_,_,_,rfl,rfl,SqL.of (n3),at_int 4 rfl (by omega),_,rfl,_,_,rfl,rfl,q20,_,_,rfl,rfl,sz (by simp),fun o4 H4 s4 f4 _ => ?_⟩
    obtain ⟨sv,hs,bs⟩ := pickI (Q := fun z => 0 < z ∧ bits z ≤ 70) (zs := [1 + ns[4] % 9,1 + ns[4] % (10 : Int) ^ (20 : Int).toNat,1]) (md (ns[0] / 64) 3 (by decide)).1 (md (ns[0] / 64) 3 (by decide)).2 (all3 ⟨by have := md ns[4] 9 (by decide); omega,b10 (by have := md ns[4] 9 (by decide); omega) (by have := md ns[4] 9 (by decide); omega)⟩ ⟨by have := md ns[4] _ q20; omega,bits_le (bits_one (modl q20 m20.2).2 (by decide)) (by decide)⟩ ⟨by decide,by decide⟩)
    have n4 := s4 _ _ n3
    refine ⟨_,rfl,pn,_,_,_,rfl,rfl,SqL.of (n4),at_int 0 rfl (by omega),_,_,rfl,rfl,dv 64 (by decide) (by decide),_,_,rfl,rfl,(by show (0 : Int) < 3; decide),o4,_,_,_,rfl,rfl,SqL.of f4,hs,?_⟩
    refine ⟨_,rfl,_,rfl,_,rfl,_,rfl,sz (by simp),fun o H5 s5 f5 _ => ?_⟩
    exact q o p qq r sv H5 (s1.trans (s2.trans (s3.trans (s4.trans s5)))) ⟨f5,bp,bq,br.2,bs.2,br.1,bs.1⟩
inductive spOrd6 (vs : List V) (H : Hp) (Q : VK) (x_3 : XK) : Prop
  | mk : ∀ (p q : Addr) (a0 a1 a2 a3 b0 b1 b2 b3 : Int) (ka kb : Nat),(vs = [.ref p,.ref q]) → (Rn H p a0 a1 a2 a3 ka) → (Rn H q b0 b1 b2 b3 kb) → ((ka + kb ≤ 1480 ∧ bits a2 ≤ 200 ∧ bits b2 ≤ 200)) → (Q (.int (ro a0 a1 a2 a3 b0 b1 b2 b3)) H) → spOrd6 vs H Q x_3
structure Bz (b0 b1 b2 b3 : Int) : Prop where
  x0 : bits b0 ≤ 176
  x1 : bits b1 ≤ 140
  x2 : bits b2 ≤ 170
  x3 : bits b3 ≤ 140
  z : bits (b1 * b1 * b2) ≤ 350
theorem S_law_order : FnScope ["one","other","p","q","r","s","t","u","v","w"] ["one","other"] (defScope (top 30)) := ⟨rfl,rfl,rfl,by decide +kernel,rfl,by decide +kernel,by decide +kernel⟩
theorem fn_law_order (D_law_order : Df K mg "_law_order" (top 30)) (F_law_sign : Fn P w K mg base "_law_sign" ["whole","many","under","more","lower"] 2 spLSign) : Fn P w K mg base "_law_order" ["one","other"] 3 spOrd6 := by
  refine D_law_order.fn S_law_order (fun _ _ _ _ _ _ us hl => match us,hl with | [_,_],_ => rfl) (fun vs H Q E h => ?_) (fun f cdv A outer s H vs Q E hr h => ?_)
  · obtain ⟨p,q,a0,a1,a2,a3,b0,b1,b2,b3,ka,kb,rfl,_⟩ := h
    rfl
  · obtain ⟨p,q,a0,a1,a2,a3,b0,b1,b2,b3,ka,kb,rfl,ra,rb,⟨hs,x2,y2⟩,k⟩ := h
    refine ⟨_,(pss_cons (ps_asg (pv 0) (pg_tup rfl (pgs_cons (pg_name (i := 2) S_law_order.nd rfl (Or.inl rfl)) (pgs_cons (pg_name (i := 3) S_law_order.nd rfl (Or.inl rfl)) (pgs_cons (pg_name (i := 4) S_law_order.nd rfl (Or.inl rfl)) (pgs_cons (pg_name (i := 5) S_law_order.nd rfl (Or.inl rfl)) pgs_nil)))))) (pss_cons (ps_asg (pv 1) (pg_tup rfl (pgs_cons (pg_name (i := 6) S_law_order.nd rfl (Or.inl rfl)) (pgs_cons (pg_name (i := 7) S_law_order.nd rfl (Or.inl rfl)) (pgs_cons (pg_name (i := 8) S_law_order.nd rfl (Or.inl rfl)) (pgs_cons (pg_name (i := 9) S_law_order.nd rfl (Or.inl rfl)) pgs_nil)))))) (pss_one (ps_ret (pe_fn F_law_sign (hr.mono (by decide)) (by rfl) (pa_cons (pe_op op_sub (pe_op op_mulX (pv 2) (pv 9)) (pe_op op_mulX (pv 6) (pv 5))) (pa_cons (pe_op op_mulX (pv 3) (pv 9)) (pa_cons (pv 4) (pa_cons (pe_op op_mulX (pv 7) (pv 5)) (pa_cons (pv 8) pa_nil)))))))))),?_⟩
    refine ⟨_,rfl,p,_,rfl,SqT.of ra.at_,rfl,_,_,rfl,_,_,rfl,_,_,rfl,_,_,rfl,rfl,?_⟩
    refine ⟨_,rfl,q,_,rfl,SqT.of rb.at_,rfl,_,_,rfl,_,_,rfl,_,_,rfl,_,_,rfl,rfl,?_⟩
    have cm : ∀ {i j : Int},bits i ≤ ka → bits j ≤ kb → CM i j := fun hi hj => CM.of hi hj ⟨by omega,by omega⟩
    have cm' : ∀ {i j : Int},bits i ≤ kb → bits j ≤ ka → CM i j := fun hi hj => CM.of hi hj ⟨by omega,by omega⟩
    have m2 : ∀ {i j : Int},bits i ≤ ka → bits j ≤ kb → bits (i * j) ≤ 1480 := fun hi hj => bits_le (bits_mul hi hj) (by omega)
    have m3 : ∀ {i j : Int},bits i ≤ kb → bits j ≤ ka → bits (i * j) ≤ 1480 := fun hi hj => bits_le (bits_mul hi hj) (by omega)
    unfold ro at k
    rw [Int.neg_mul] at k
    exact ⟨_,rfl,_,rfl,_,_,rfl,rfl,cm ra.b0 rb.b3,_,rfl,_,rfl,_,_,rfl,rfl,cm' rb.b0 ra.b3,_,_,rfl,rfl,_,rfl,_,rfl,_,_,rfl,rfl,cm ra.b1 rb.b3,_,rfl,_,rfl,_,rfl,_,_,rfl,rfl,cm' rb.b1 ra.b3,_,rfl,_,_,_,_,_,rfl,⟨ra.p2,rb.p2⟩,⟨bits_sub (m2 ra.b0 rb.b3) (m3 rb.b0 ra.b3),bits_le (m2 ra.b1 rb.b3) (by decide),x2,bits_le (m3 rb.b1 ra.b3) (by decide),y2⟩,k⟩
inductive spBeside (vs : List V) (H : Hp) (Q : VK) (x_3 : XK) : Prop
  | mk : ∀ (p pn : Addr) (a0 a1 a2 a3 : Int) (ns : List Int),(vs = [.ref p,.ref pn]) → (Rn H p a0 a1 a2 a3 70) → (H pn = some (.lst (ns.map V.int))) → (3 ≤ ns.length) → ((∀ n ∈ ns,0 ≤ n)) → (∀ (r : Addr) (b0 b1 b2 b3 : Int) (H' : Hp),Same H H' → Rn H' r b0 b1 b2 b3 200 → Bz b0 b1 b2 b3 → Q (.ref r) H') → spBeside vs H Q x_3
theorem S_law_beside : FnScope ["one","numbers","p","q","r","s","way","by","root"] ["one","numbers"] (defScope (top 32)) := ⟨rfl,rfl,rfl,by decide +kernel,rfl,by decide +kernel,by decide +kernel⟩
theorem fn_law_beside (D_law_beside : Df K mg "_law_beside" (top 32)) (F_law_side : Fn P w K mg base "_law_side" ["number"] 1 spSide) (F_law_root : Fn P w K mg base "_law_root" ["number"] 1 spRoot) (T : Txt mg) : Fn P w K mg base "_law_beside" ["one","numbers"] 3 spBeside := by
  refine D_law_beside.fn S_law_beside (fun _ _ _ _ _ _ us hl => match us,hl with | [_,_],_ => rfl) (fun vs H Q E h => ?_) (fun f cdv A outer s H vs Q E hr h => ?_)
  · obtain ⟨p,pn,a0,a1,a2,a3,ns,rfl,_⟩ := h
    rfl
  · obtain ⟨p,pn,a0,a1,a2,a3,ns,rfl,ra,hn,h3,nn,k⟩ := h
    have R6 : ∃ u : TS,PSs (cxOf CX0 P w K mg base ["one","numbers","p","q","r","s","way","by","root"] "_law_beside" (defScope (top 32)) f cdv A outer s H E).nox ((defBody (top 32)).drop 6) u ∧ ∀ (D : Ends) (H : Hp) (p q r s way y : Int) (z0 z1 z8 : Option V),bits p ≤ 70 → bits q ≤ 70 → (0 ≤ r ∧ bits r ≤ 70) → (0 < s ∧ bits s ≤ 70) → (0 < y ∧ bits y ≤ 66) → (∀ (o : Addr) (b0 b1 b2 b3 : Int) (H2 : Hp),Same H H2 → Rn H2 o b0 b1 b2 b3 200 → Bz b0 b1 b2 b3 → D.rt (.ref o) H2) → u D [z0,z1,some (.int p),some (.int q),some (.int r),some (.int s),some (.int way),some (.int y),z8] H := by
      refine ⟨_,(pss_cons (ps_if (pt_cmpR op_eq (pv 6) pe_int (nomark _)) (pss_one (ps_ret (pe_tupA (pa_cons (pv 2) (pa_cons (pe_op op_sub pe_int (pv 3)) (pa_cons (pv 4) (pa_cons (pv 5) pa_nil))))))) pss_nil) (pss_cons (ps_if (pt_cmpR op_eq (pv 6) pe_int (nomark _)) (pss_one (ps_ret (pe_tupA (pa_cons (pe_op op_add (pe_op op_mulX (pv 2) (pv 7)) (pv 5)) (pa_cons (pe_op op_mulX (pv 3) (pv 7)) (pa_cons (pv 4) (pa_cons (pe_op op_mulX (pv 5) (pv 7)) pa_nil))))))) pss_nil) (pss_cons (ps_if (pt_cmpR op_eq (pv 6) pe_int (nomark _)) (pss_one (ps_ret (pe_tupA (pa_cons (pe_op op_sub (pe_op op_mulX (pv 2) (pv 7)) (pv 5)) (pa_cons (pe_op op_mulX (pv 3) (pv 7)) (pa_cons (pv 4) (pa_cons (pe_op op_mulX (pv 5) (pv 7)) pa_nil))))))) pss_nil) (pss_cons (ps_if (pt_cmpR op_eq (pv 6) pe_int (nomark _)) (pss_cons (ps_set (i := 8) S_law_beside.nd rfl (Or.inl rfl) (pe_op op_mulX (pe_fn F_law_side (hr.mono (by decide)) (by rfl) (pa_cons (pv 3) pa_nil)) (pe_fn F_law_root (hr.mono (by decide)) (by rfl) (pa_cons (pe_op op_mulX (pe_op op_mulX (pe_op op_mulX (pe_op op_mulX (pv 3) (pv 3)) (pv 4)) (pv 7)) (pv 7)) pa_nil)))) (pss_one (ps_ret (pe_tupA (pa_cons (pe_op op_fdivP (pe_op op_add (pe_op op_mulX (pv 2) (pv 7)) (pv 8)) (pv 5)) (pa_cons pe_int (pa_cons pe_int (pa_cons (pv 7) pa_nil)))))))) pss_nil) (pss_one (ps_ret (pe_tupA (pa_cons (pv 2) (pa_cons (pv 3) (pa_cons (pe_op op_add (pv 4) (pv 7)) (pa_cons (pv 5) pa_nil))))))))))),?_⟩
      intro D H p q r s way y z0 z1 z8 bp bq ⟨r0,br⟩ ⟨s0,bs⟩ ⟨y0,by_⟩ k
      have cm : ∀ {i j : Int},bits i ≤ 500 → bits j ≤ 500 → CM i j := fun hi hj => CM.b hi hj (by decide) (by decide)
      have wd : ∀ {i : Int} {m : Nat},bits i ≤ m → m ≤ 500 → bits i ≤ 500 := fun h hm => bits_le h hm
      have cy : ∀ {i : Int},bits i ≤ 70 → CM i y := fun h => CM.b h by_ (by decide) (by decide)
      have m1 : ∀ {i : Int},bits i ≤ 70 → bits (i * y) ≤ 136 := fun h => bits_mul h by_
      have l2 : ∀ {i : Int} {m : Nat},bits i ≤ m → m ≤ 200 → bits i ≤ 200 := fun h hm => bits_le h hm
      refine ⟨_,rfl,rfl,_,rfl,ite3 (fun _ => ?_) (fun _ => ?_)⟩
      · exact ⟨_,rfl,_,rfl,_,_,rfl,rfl,_,rfl,_,rfl,sz (by simp),fun o H1 s1 f1 _ => k o _ _ _ _ H1 s1 ⟨f1,l2 bp (by decide),l2 (bits_sub (n := 70) (by decide) bq) (by decide),l2 br (by decide),l2 bs (by decide),r0,s0⟩ ⟨bits_le bp (by decide),bits_le (bits_sub (n := 70) (by decide) bq) (by decide),bits_le br (by decide),bits_le bs (by decide),bits_le (bits_mul (bits_mul (bits_sub (n := 70) (by decide) bq) (bits_sub (n := 70) (by decide) bq)) br) (by decide)⟩⟩
      have sy : 0 < s * y := Int.mul_pos s0 y0
      refine ⟨_,rfl,rfl,_,rfl,ite3 (fun _ => ?_) (fun _ => ?_)⟩
      · exact ⟨_,rfl,_,rfl,_,_,rfl,rfl,cy bp,_,rfl,_,_,rfl,rfl,_,rfl,_,rfl,_,_,rfl,rfl,cy bq,_,rfl,_,rfl,_,rfl,_,_,rfl,rfl,cy bs,sz (by simp),fun o H1 s1 f1 _ => k o _ _ _ _ H1 s1 ⟨f1,l2 (bits_add (m1 bp) (bits_le bs (by decide))) (by decide),l2 (m1 bq) (by decide),l2 br (by decide),l2 (m1 bs) (by decide),r0,sy⟩ ⟨bits_le (bits_add (m1 bp) (bits_le bs (by decide))) (by decide),bits_le (m1 bq) (by decide),bits_le br (by decide),bits_le (m1 bs) (by decide),bits_le (bits_mul (bits_mul (m1 bq) (m1 bq)) br) (by decide)⟩⟩
      refine ⟨_,rfl,rfl,_,rfl,ite3 (fun _ => ?_) (fun _ => ?_)⟩
      · exact ⟨_,rfl,_,rfl,_,_,rfl,rfl,cy bp,_,rfl,_,_,rfl,rfl,_,rfl,_,rfl,_,_,rfl,rfl,cy bq,_,rfl,_,rfl,_,rfl,_,_,rfl,rfl,cy bs,sz (by simp),fun o H1 s1 f1 _ => k o _ _ _ _ H1 s1 ⟨f1,l2 (bits_sub (m1 bp) (bits_le bs (by decide))) (by decide),l2 (m1 bq) (by decide),l2 br (by decide),l2 (m1 bs) (by decide),r0,sy⟩ ⟨bits_le (bits_sub (m1 bp) (bits_le bs (by decide))) (by decide),bits_le (m1 bq) (by decide),bits_le br (by decide),bits_le (m1 bs) (by decide),bits_le (bits_mul (bits_mul (m1 bq) (m1 bq)) br) (by decide)⟩⟩
      refine ⟨_,rfl,rfl,_,rfl,ite3 (fun _ => ?_) (fun _ => ?_)⟩
      · have c1 : bits (q * q) ≤ 140 := bits_mul bq bq
        have c2 : bits (q * q * r) ≤ 210 := bits_mul c1 br
        have c3 : bits (q * q * r * y) ≤ 276 := bits_mul c2 by_
        have c4 : bits (q * q * r * y * y) ≤ 342 := bits_mul c3 by_
        have qq : 0 ≤ q * q := by rw [← abs_sq q]; exact Int.mul_nonneg (abs_nn q) (abs_nn q)
        have nn : 0 ≤ q * q * r * y * y := Int.mul_nonneg (Int.mul_nonneg (Int.mul_nonneg qq r0) (by omega)) (by omega)
        refine ⟨_,rfl,q,rfl,_,rfl,_,rfl,_,_,rfl,rfl,cm (wd bq (by decide)) (wd bq (by decide)),_,rfl,_,_,rfl,rfl,cm (wd c1 (by decide)) (wd br (by decide)),_,rfl,_,_,rfl,rfl,cm (wd c2 (by decide)) (wd by_ (by decide)),_,rfl,_,_,rfl,rfl,cm (wd c3 (by decide)) (wd by_ (by decide)),_,rfl,nn,bits_le c4 (by decide),fun rt Rr => ?_⟩
        have brt : bits rt ≤ 172 := by
          refine bits_of ?_
          have h1 := bits_lt c4
          have h2 := Rr.lo
          have h3 := Rr.nn
          have h4 : rt < 2 ^ 172 := by
            by_cases z : rt < 2 ^ 172
            · exact z
            · exfalso
              have := sq_mono (x := (2 : Int) ^ 172) (y := rt) (by decide) (by omega)
              have e : (2 : Int) ^ 172 * 2 ^ 172 = 2 ^ 344 := by decide +kernel
              have e2 : (2 : Nat) ^ 342 < 2 ^ 344 := by decide +kernel
              have e3 : ((2 ^ 344 : Nat) : Int) = (2 : Int) ^ 344 := by decide +kernel
              omega
          have e4 : ((2 ^ 172 : Nat) : Int) = (2 : Int) ^ 172 := by decide +kernel
          omega
        have sgs := sg_small q
        have bsr : bits (sg q * rt) ≤ 172 := by
          refine bits_mono (j := rt) ?_ brt
          rw [Int.natAbs_mul]
          have : (sg q).natAbs ≤ 1 := by omega
          calc (sg q).natAbs * rt.natAbs ≤ 1 * rt.natAbs := Nat.mul_le_mul_right _ this
            _ = rt.natAbs := Nat.one_mul _
        refine ⟨_,_,rfl,rfl,CM.l (lt64s (by omega) (by omega)),?_⟩
        exact ⟨_,rfl,_,rfl,_,_,rfl,rfl,cy bp,_,rfl,_,_,rfl,rfl,_,rfl,_,_,rfl,rfl,⟨s0,bits_le bs (by decide)⟩,_,rfl,sz (by simp),fun o H1 s1 f1 _ => k o _ _ _ _ H1 s1 ⟨f1,l2 (bits_ediv s0 (bits_add (n := 172) (bits_le (m1 bp) (by decide)) bsr)) (by decide),by decide,by decide,l2 by_ (by decide),by decide,y0⟩ ⟨bits_le (bits_ediv s0 (bits_add (n := 172) (bits_le (m1 bp) (by decide)) bsr)) (by decide),by decide,by decide,bits_le by_ (by decide),by decide⟩⟩
      exact ⟨_,rfl,_,rfl,_,rfl,_,rfl,_,_,rfl,rfl,_,rfl,sz (by simp),fun o H1 s1 f1 _ => k o _ _ _ _ H1 s1 ⟨f1,l2 bp (by decide),l2 bq (by decide),l2 (bits_add (n := 70) br (bits_le by_ (by decide))) (by decide),l2 bs (by decide),by omega,s0⟩ ⟨bits_le bp (by decide),bits_le bq (by decide),bits_le (bits_add (n := 70) br (bits_le by_ (by decide))) (by decide),bits_le bs (by decide),bits_le (bits_mul (bits_mul bq bq) (bits_add (n := 70) br (bits_le by_ (by decide)))) (by decide)⟩⟩
    obtain ⟨u6,hu6,rd6⟩ := R6
    have R5 : ∃ u : TS,PSs (cxOf CX0 P w K mg base ["one","numbers","p","q","r","s","way","by","root"] "_law_beside" (defScope (top 32)) f cdv A outer s H E).nox ((defBody (top 32)).drop 5) u ∧ ∀ (D : Ends) (H : Hp) (p q r s way y : Int) (z0 z1 z8 : Option V),bits p ≤ 70 → bits q ≤ 70 → (0 ≤ r ∧ bits r ≤ 70) → (0 < s ∧ bits s ≤ 70) → (0 < y ∧ bits y ≤ 66) → (∀ (o : Addr) (b0 b1 b2 b3 : Int) (H2 : Hp),Same H H2 → Rn H2 o b0 b1 b2 b3 200 → Bz b0 b1 b2 b3 → D.rt (.ref o) H2) → u D [z0,z1,some (.int p),some (.int q),some (.int r),some (.int s),some (.int way),some (.int y),z8] H := by
      refine ⟨_,pss_cons (ps_if (pw_and (pt_cmpR op_eq (pv 6) pe_int (nomark _)) (pw_and1 (pt_cmpR op_lt (pe_op op_mulX (pe_op op_mulX (pv 4) (pv 7)) (pv 7)) (pe_op op_pow pe_int pe_int) (nomark _)))).pt (pss_one (ps_ret (pe_tupA (pa_cons (pv 2) (pa_cons (pv 3) (pa_cons (pe_op op_mulX (pe_op op_mulX (pv 4) (pv 7)) (pv 7)) (pa_cons (pv 5) pa_nil))))))) pss_nil) hu6,?_⟩
      intro D H p q r s way y z0 z1 z8 bp bq ⟨r0,br⟩ ⟨s0,bs⟩ ⟨y0,by_⟩ k
      have cm : ∀ {i j : Int},bits i ≤ 500 → bits j ≤ 500 → CM i j := fun hi hj => CM.b hi hj (by decide) (by decide)
      have wd : ∀ {i : Int} {m : Nat},bits i ≤ m → m ≤ 500 → bits i ≤ 500 := fun h hm => bits_le h hm
      have cy : ∀ {i : Int},bits i ≤ 70 → CM i y := fun h => CM.b h by_ (by decide) (by decide)
      have m1 : ∀ {i : Int},bits i ≤ 70 → bits (i * y) ≤ 136 := fun h => bits_mul h by_
      have l2 : ∀ {i : Int} {m : Nat},bits i ≤ m → m ≤ 200 → bits i ≤ 200 := fun h hm => bits_le h hm
      have nx := rd6 D H p q r s way y z0 z1 z8 bp bq ⟨r0,br⟩ ⟨s0,bs⟩ ⟨y0,by_⟩ k
      refine ⟨_,rfl,rfl,_,rfl,ite3 (fun _ => ?_) (fun _ => nx)⟩
      refine ⟨_,rfl,_,rfl,_,_,rfl,rfl,cy br,_,rfl,_,_,rfl,rfl,cm (wd (m1 br) (by decide)) (wd by_ (by decide)),_,_,rfl,rfl,⟨by decide,by decide,by decide⟩,_,_,rfl,rfl,_,rfl,ite3 (fun c => ?_) (fun _ => nx)⟩
      have ry : 0 ≤ r * y * y := Int.mul_nonneg (Int.mul_nonneg r0 (by omega)) (by omega)
      have e50 : ((10 : Int) ^ (50 : Int).toNat) = 100000000000000000000000000000000000000000000000000 := by decide +kernel
      have bry : bits (r * y * y) ≤ 170 := by
        have c := dec_t c
        rw [e50] at c
        exact bits_range ry (Int.le_of_lt c) (by decide +kernel)
      exact ⟨_,rfl,_,rfl,_,rfl,_,rfl,_,_,rfl,rfl,cy br,_,rfl,_,_,rfl,rfl,cm (wd (m1 br) (by decide)) (wd by_ (by decide)),_,rfl,sz (by simp),fun o H1 s1 f1 _ => k o _ _ _ _ H1 s1 ⟨f1,l2 bp (by decide),l2 bq (by decide),l2 bry (by decide),l2 bs (by decide),ry,s0⟩ ⟨bits_le bp (by decide),bits_le bq (by decide),bits_le bry (by decide),bits_le bs (by decide),bits_le (bits_mul (bits_mul bq bq) bry) (by decide)⟩⟩
    obtain ⟨u5,hu5,rd5⟩ := R5
    have R4 : ∃ u : TS,PSs (cxOf CX0 P w K mg base ["one","numbers","p","q","r","s","way","by","root"] "_law_beside" (defScope (top 32)) f cdv A outer s H E).nox ((defBody (top 32)).drop 4) u ∧ ∀ (D : Ends) (H : Hp) (p q r s way y : Int) (z0 z1 z8 : Option V),bits p ≤ 70 → bits q ≤ 70 → (0 ≤ r ∧ bits r ≤ 70) → (0 < s ∧ bits s ≤ 70) → (0 < y ∧ bits y ≤ 66) → (∀ (o : Addr) (b0 b1 b2 b3 : Int) (H2 : Hp),Same H H2 → Rn H2 o b0 b1 b2 b3 200 → Bz b0 b1 b2 b3 → D.rt (.ref o) H2) → u D [z0,z1,some (.int p),some (.int q),some (.int r),some (.int s),some (.int way),some (.int y),z8] H := by
      refine ⟨_,pss_cons (ps_if (pw_and (pt_cmpR op_eq (pv 6) pe_int (nomark _)) (pw_and1 (pt_cmpR op_lt (pe_op op_mulX (pe_callB call_abs (by rfl) T.z_abs bt_abs (pa_cons (pv 3) pa_nil)) (pv 7)) (pe_op op_pow pe_int pe_int) (nomark _)))).pt (pss_one (ps_ret (pe_tupA (pa_cons (pv 2) (pa_cons (pe_op op_mulX (pv 3) (pv 7)) (pa_cons (pv 4) (pa_cons (pv 5) pa_nil))))))) pss_nil) hu5,?_⟩
      intro D H p q r s way y z0 z1 z8 bp bq ⟨r0,br⟩ ⟨s0,bs⟩ ⟨y0,by_⟩ k
      have cm : ∀ {i j : Int},bits i ≤ 500 → bits j ≤ 500 → CM i j := fun hi hj => CM.b hi hj (by decide) (by decide)
      have wd : ∀ {i : Int} {m : Nat},bits i ≤ m → m ≤ 500 → bits i ≤ 500 := fun h hm => bits_le h hm
      have cy : ∀ {i : Int},bits i ≤ 70 → CM i y := fun h => CM.b h by_ (by decide) (by decide)
      have m1 : ∀ {i : Int},bits i ≤ 70 → bits (i * y) ≤ 136 := fun h => bits_mul h by_
      have l2 : ∀ {i : Int} {m : Nat},bits i ≤ m → m ≤ 200 → bits i ≤ 200 := fun h hm => bits_le h hm
      have nx := rd5 D H p q r s way y z0 z1 z8 bp bq ⟨r0,br⟩ ⟨s0,bs⟩ ⟨y0,by_⟩ k
      refine ⟨_,rfl,rfl,_,rfl,ite3 (fun _ => ?_) (fun _ => nx)⟩
      refine ⟨_,rfl,_,rfl,_,rfl,_,_,rfl,rfl,cy (bits_abs bq),_,_,rfl,rfl,⟨by decide,by decide,by decide⟩,_,_,rfl,rfl,_,rfl,ite3 (fun _ => ?_) (fun _ => nx)⟩
      exact ⟨_,rfl,_,rfl,_,rfl,_,_,rfl,rfl,cy bq,_,rfl,_,rfl,sz (by simp),fun o H1 s1 f1 _ => k o _ _ _ _ H1 s1 ⟨f1,l2 bp (by decide),l2 (m1 bq) (by decide),l2 br (by decide),l2 bs (by decide),r0,s0⟩ ⟨bits_le bp (by decide),bits_le (m1 bq) (by decide),bits_le br (by decide),bits_le bs (by decide),bits_le (bits_mul (bits_mul (m1 bq) (m1 bq)) br) (by decide)⟩⟩
    obtain ⟨u4,hu4,rd4⟩ := R4
    refine ⟨_,(pss_cons (ps_asg (pv 0) (pg_tup rfl (pgs_cons (pg_name (i := 2) S_law_beside.nd rfl (Or.inl rfl)) (pgs_cons (pg_name (i := 3) S_law_beside.nd rfl (Or.inl rfl)) (pgs_cons (pg_name (i := 4) S_law_beside.nd rfl (Or.inl rfl)) (pgs_cons (pg_name (i := 5) S_law_beside.nd rfl (Or.inl rfl)) pgs_nil)))))) (pss_cons (ps_set (i := 6) S_law_beside.nd rfl (Or.inl rfl) (pe_op op_mod (pe_ix ix_list (pv 1) pe_int (fun _ _ => rfl)) pe_int)) (pss_cons (ps_set (i := 7) S_law_beside.nd rfl (Or.inl rfl) (pe_op op_add pe_int (pe_op op_mod (pe_ix ix_list (pv 1) pe_int (fun _ _ => rfl)) (pe_ix ix_list (pe_lstA (pa_cons pe_int (pa_cons (pe_op op_pow pe_int pe_int) (pa_cons (pe_op op_pow pe_int pe_int) pa_nil)))) (pe_op op_mod (pe_ix ix_list (pv 1) pe_int (fun _ _ => rfl)) pe_int) (fun _ _ => rfl))))) (pss_cons (ps_if (pt_cmpR op_eq (pv 6) pe_int (nomark _)) (pss_one (ps_ret (pe_tupA (pa_cons (pe_op op_mulX (pv 2) (pv 7)) (pa_cons (pe_op op_mulX (pv 3) (pv 7)) (pa_cons (pv 4) (pa_cons (pe_op op_mulX (pv 5) (pv 7)) pa_nil))))))) pss_nil) hu4)))),?_⟩
    have md : ∀ (n k : Int),0 < k → 0 ≤ n % k ∧ n % k < k := fun n k h => ⟨Int.emod_nonneg _ (by omega),Int.emod_lt_of_pos _ h⟩
    have e9 : ((10 : Int) ^ (9 : Int).toNat) = 1000000000 := by decide +kernel
    have e19 : ((10 : Int) ^ (19 : Int).toNat) = 10000000000000000000 := by decide +kernel
    refine ⟨_,rfl,p,_,rfl,SqT.of ra.at_,rfl,_,_,rfl,_,_,rfl,_,_,rfl,_,_,rfl,rfl,?_⟩
    refine ⟨_,rfl,pn,_,_,_,rfl,rfl,SqL.of hn,at_int 0 rfl (by omega),_,_,rfl,rfl,(by show (0 : Int) < 8; decide),?_⟩
    refine ⟨_,rfl,pn,_,_,_,rfl,rfl,SqL.of hn,at_int 1 rfl (by omega),_,_,rfl,rfl,⟨by decide,by decide,by decide⟩,_,_,rfl,rfl,⟨by decide,by decide,by decide⟩,sz (by simp),fun o1 H1 s1 f1 _ => ?_⟩
    obtain ⟨wv,hwv,h0,h1⟩ := pickI (Q := fun z => 0 < z ∧ z ≤ 10000000000000000000) (zs := [10,(10 : Int) ^ (9 : Int).toNat,(10 : Int) ^ (19 : Int).toNat]) (md ns[2] 3 (by decide)).1 (md ns[2] 3 (by decide)).2 (all3 ⟨by decide,by decide⟩ (by rw [e9]; exact ⟨by decide,by decide⟩) (by rw [e19]; exact ⟨by decide,by decide⟩))
    have n1 := s1 _ _ hn
    refine ⟨_,rfl,pn,_,_,_,rfl,rfl,SqL.of n1,at_int 2 rfl (by omega),_,_,rfl,rfl,(by show (0 : Int) < 3; decide),o1,_,_,_,rfl,rfl,SqL.of f1,hwv,_,_,rfl,rfl,h0,_,_,rfl,rfl,?_⟩
    have my := md ns[1] wv h0
    have byy : bits (1 + ns[1] % wv) ≤ 66 := by
      refine bits_of ?_
      have e : (2 : Nat) ^ 66 = 73786976294838206464 := by decide
      rw [e]
      omega
    have nx := rd4
    refine ⟨_,rfl,rfl,_,rfl,ite3 (fun _ => ?_) (fun _ => ?_)⟩
    · have cy : ∀ {i : Int},bits i ≤ 70 → CM i (1 + ns[1] % wv) := fun h => CM.b h byy (by decide) (by decide)
      have l2 : ∀ {i : Int} {m : Nat},bits i ≤ m → m ≤ 200 → bits i ≤ 200 := fun h hm => bits_le h hm
      have m1 : ∀ {i : Int},bits i ≤ 70 → bits (i * (1 + ns[1] % wv)) ≤ 136 := fun h => bits_mul h byy
      exact ⟨_,rfl,_,rfl,_,_,rfl,rfl,cy ra.b0,_,rfl,_,rfl,_,_,rfl,rfl,cy ra.b1,_,rfl,_,rfl,_,rfl,_,_,rfl,rfl,cy ra.b3,sz (by simp),fun o H2 s2 f2 _ => k o _ _ _ _ H2 (s1.trans s2) ⟨f2,l2 (m1 ra.b0) (by decide),l2 (m1 ra.b1) (by decide),l2 ra.b2 (by decide),l2 (m1 ra.b3) (by decide),ra.p2,Int.mul_pos ra.p3 (by omega)⟩ ⟨bits_le (m1 ra.b0) (by decide),bits_le (m1 ra.b1) (by decide),bits_le ra.b2 (by decide),bits_le (m1 ra.b3) (by decide),bits_le (bits_mul (bits_mul (m1 ra.b1) (m1 ra.b1)) ra.b2) (by decide)⟩⟩
    · exact rd4 _ H1 a0 a1 a2 a3 _ _ _ _ _ ra.b0 ra.b1 ⟨ra.p2,ra.b2⟩ ⟨ra.p3,ra.b3⟩ ⟨by omega,byy⟩ fun o b0 b1 b2 b3 H2 s2 R2 Z2 => k o b0 b1 b2 b3 H2 (s1.trans s2) R2 Z2
inductive spPair6 (vs : List V) (H : Hp) (Q : VK) (x_3 : XK) : Prop
  | mk : ∀ c : Int,(vs = [.int c]) → (∀ (t p q : Addr) (a0 a1 a2 a3 b0 b1 b2 b3 : Int) (H' : Hp),Same H H' → H' t = some (.tup [.ref p,.ref q]) → Rn H' p a0 a1 a2 a3 70 → Rn H' q b0 b1 b2 b3 200 → Bz b0 b1 b2 b3 → Q (.ref t) H') → spPair6 vs H Q x_3
theorem S_law_pair : FnScope ["cell","numbers","one"] ["cell"] (defScope (top 33)) := ⟨rfl,rfl,rfl,by decide +kernel,rfl,by decide +kernel,by decide +kernel⟩
theorem fn_law_pair (D_law_pair : Df K mg "_law_pair" (top 33)) (F_law_numbers : Fn P w K mg base "_law_numbers" ["cell","many","base"] 2 spNumbers) (F_law_single : Fn P w K mg base "_law_single" ["numbers"] 1 spSingle) (F_law_beside : Fn P w K mg base "_law_beside" ["one","numbers"] 3 spBeside) : Fn P w K mg base "_law_pair" ["cell"] 4 spPair6 := by
  refine D_law_pair.fn S_law_pair (fun _ _ _ _ _ _ us hl => match us,hl with | [_],_ => rfl) (fun vs H Q E h => ?_) (fun f cdv A outer s H vs Q E hr h => ?_)
  · obtain ⟨c,rfl,_⟩ := h
    rfl
  · obtain ⟨c,rfl,q⟩ := h
    refine ⟨_,(pss_cons (ps_set (i := 1) S_law_pair.nd rfl (Or.inl rfl) (pe_fn F_law_numbers (hr.mono (by decide)) (by rfl) (pa_cons (pv 0) (pa_cons pe_int (pa_cons (pe_op op_pow pe_int pe_int) pa_nil))))) (pss_cons (ps_set (i := 2) S_law_pair.nd rfl (Or.inl rfl) (pe_fn F_law_single (hr.mono (by decide)) (by rfl) (pa_cons (pe_slice sl_listA (pv 1) po_none (po_some pe_int)) pa_nil))) (pss_cons (ps_if (pt_cmpR op_eq (pe_op op_mod (pe_ix ix_list (pv 1) pe_int (fun _ _ => rfl)) pe_int) pe_int (nomark _)) (pss_one (ps_ret (pe_tupA (pa_cons (pv 2) (pa_cons (pe_fn F_law_single (hr.mono (by decide)) (by rfl) (pa_cons (pe_slice sl_listA (pv 1) (po_some pe_int) (po_some pe_int)) pa_nil)) pa_nil))))) pss_nil) (pss_one (ps_ret (pe_tupA (pa_cons (pv 2) (pa_cons (pe_fn F_law_beside (hr.mono (by decide)) (by rfl) (pa_cons (pv 2) (pa_cons (pe_slice sl_listA (pv 1) (po_some pe_int) (po_some pe_int)) pa_nil))) pa_nil)))))))),?_⟩
    have eb : ((10 : Int) ^ (40 : Int).toNat) = 10000000000000000000000000000000000000000 := by decide +kernel
    have bb : bits ((10 : Int) ^ (40 : Int).toNat) ≤ 300 := by rw [eb]; decide +kernel
    refine ⟨_,rfl,_,_,rfl,rfl,⟨by decide,by decide,by decide⟩,c,14,_,rfl,by decide,⟨by rw [eb]; decide,bits_le bb (by decide)⟩,fun pn ns H1 hn hns s1 f1 => ?_⟩
    have nn : ∀ n ∈ ns,0 ≤ n := fun n h => (hns n h).1
    refine ⟨_,rfl,_,rfl,pn,_,rfl,SqL.of f1,fun p2 H2 s2 f2 _ => ?_⟩
    rw [show cutV (ns.map V.int) none (some 5) = _ from cut_0j (ns := ns) 5 (by omega)] at f2
    refine ⟨p2,_,rfl,f2,by rw [List.length_take]; omega,fun n h => nn n (List.mem_of_mem_take h),fun r3 a0 a1 a2 a3 H3 s3 R3 => ?_⟩
    have f3 := s3 _ _ (s2 _ _ f1)
    refine ⟨_,rfl,pn,_,_,_,rfl,rfl,SqL.of f3,at_int 13 rfl (by omega),_,_,rfl,rfl,(by show (0 : Int) < 4; decide),rfl,_,rfl,ite3 (fun _ => ?_) (fun _ => ?_)⟩
    · refine ⟨_,rfl,_,rfl,_,rfl,_,rfl,pn,_,rfl,SqL.of f3,fun p4 H4 s4 f4 _ => ?_⟩
      rw [show cutV (ns.map V.int) (some 8) (some 13) = _ from cut_ij (ns := ns) 8 13 (by decide) (by omega)] at f4
      refine ⟨p4,_,rfl,f4,by rw [List.length_take,List.length_drop]; omega,fun n h => nn n (List.mem_of_mem_drop (List.mem_of_mem_take h)),fun r5 b0 b1 b2 b3 H5 s5 R5 => ⟨sz (by simp),fun t H6 s6 f6 _ => ?_⟩⟩
      exact q t r3 r5 a0 a1 a2 a3 b0 b1 b2 b3 H6 (s1.trans (s2.trans (s3.trans (s4.trans (s5.trans s6))))) f6 (R3.mono (s4.trans (s5.trans s6))) ((R5.wide (by decide)).mono s6) ⟨bits_le R5.b0 (by decide),bits_le R5.b1 (by decide),bits_le R5.b2 (by decide),bits_le R5.b3 (by decide),bits_le (bits_mul (bits_mul R5.b1 R5.b1) R5.b2) (by decide)⟩
    refine ⟨_,rfl,_,rfl,_,rfl,_,rfl,_,rfl,pn,_,rfl,SqL.of f3,fun p8 H8 s8 f8 _ => ?_⟩
    rw [show cutV (ns.map V.int) (some 5) (some 8) = _ from cut_ij (ns := ns) 5 8 (by decide) (by omega)] at f8
    refine ⟨r3,p8,a0,a1,a2,a3,_,rfl,R3.mono s8,f8,by rw [List.length_take,List.length_drop]; omega,fun n h => nn n (List.mem_of_mem_drop (List.mem_of_mem_take h)),fun o b0 b1 b2 b3 H9 s9 R9 Z9 => ?_⟩
    refine ⟨sz (by simp),fun t H10 s10 f10 _ => ?_⟩
    exact q t r3 o a0 a1 a2 a3 b0 b1 b2 b3 H10 (s1.trans (s2.trans (s3.trans (s8.trans (s9.trans s10))))) f10 (R3.mono (s8.trans (s9.trans s10))) (R9.mono s10) Z9
theorem S_law_common : FnScope ["one","other"] ["one","other"] (defScope (top 25)) := ⟨rfl,rfl,rfl,by decide +kernel,rfl,by decide +kernel,by decide +kernel⟩
theorem fn_law_common (D_law_common : Df K mg "_law_common" (top 25)) : Fn P w K mg base "_law_common" ["one","other"] 1 spCommon := by
  refine D_law_common.fn S_law_common (fun _ _ _ _ _ _ us hl => match us,hl with | [_,_],_ => rfl) (fun vs H Q E h => ?_) (fun f cdv A outer s H vs Q E hr h => ?_)
  · obtain ⟨a,b,rfl,_⟩ := h
    rfl
  · obtain ⟨a,b,rfl,ha,hb,q⟩ := h
    refine ⟨_,(pss_cons (ps_while PassesOwn.never (pt_cmpR op_gt (pv 1) pe_int (nomark _)) (pss_one (ps_par (i := 0) (j := 1) rfl S_law_common.nd rfl rfl (by decide) rfl rfl (pa_cons (pv 1) (pa_cons (pe_op op_mod (pv 0) (pv 1)) pa_nil)) (by rfl)))) (pss_one (ps_ret (pv 0)))),?_⟩
    refine while_by (fun σ H' => ∃ x y,σ = [some (.int x),some (.int y)] ∧ H' = H ∧ 0 ≤ x ∧ 0 ≤ y ∧ Int.gcd x y = Int.gcd a b)
      (fun σ _ => match σ with | [_,some (.int y)] => y.toNat | _ => 0) ⟨_,_,rfl,rfl,ha,hb,rfl⟩ ?_ ?_
    · rintro σ H' ⟨x,y,rfl,rfl,hx,hy,hg⟩
      refine ⟨_,rfl,_,_,rfl,rfl,_,rfl,?_⟩
      refine ite3 (fun hc => ?_) (fun hc => ?_)
      · have hy1 : 0 < y := by simpa using hc
        refine ⟨_,rfl,_,rfl,_,rfl,x,y,rfl,rfl,hy1,_,_,rfl,⟨y,x % y,rfl,rfl,hy,Int.emod_nonneg _ (by omega),?_⟩,?_⟩
        · rw [gcd_step hx hy1]
          exact hg
        · have h1 := Int.emod_lt_of_pos x hy1
          have h2 := Int.emod_nonneg x (show y ≠ 0 by omega)
          show (x % y).toNat < y.toNat
          omega
      · have hy1 : ¬ 0 < y := by simpa using hc
        have hy0 : y = 0 := by omega
        subst hy0
        refine ⟨_,rfl,?_⟩
        have e : (Int.gcd a b : Int) = x := by rw [← hg]; exact gcd_zero hx
        rw [e] at q
        exact q
    · rintro σ H' Q1 Q2 hq ⟨v,e,i,j,e1,e2,k,ek,r⟩
      exact ⟨v,e,i,j,e1,e2,k,ek,hq _ _ r⟩
theorem S_law_lowest : FnScope ["found"] ["found"] (defScope (top 26)) := ⟨rfl,rfl,rfl,by decide +kernel,rfl,by decide +kernel,by decide +kernel⟩
theorem fn_law_lowest (D_law_lowest : Df K mg "_law_lowest" (top 26)) (F_law_whole : Fn P w K mg base "_law_whole" ["found"] 1 spWhole) (F_law_common : Fn P w K mg base "_law_common" ["one","other"] 1 spCommon) (T : Txt mg) : Fn P w K mg base "_law_lowest" ["found"] 2 spLow := by
  refine D_law_lowest.fn S_law_lowest (fun _ _ _ _ _ _ us hl => match us,hl with | [_],_ => rfl) (fun vs H Q E h => ?_) (fun f cdv A outer s H vs Q E hr h => ?_)
  · obtain ⟨x,rfl,_⟩ := h
    rfl
  · obtain ⟨x,rfl,th,q⟩ := h
    obtain ⟨t,k⟩ := th.kn
    refine ⟨_,(pss_cons (ps_if (pw_or (pt_not (pt_val (pe_callB call_isinst (by rfl) T.z_isinstance bt_isinstance (pa_cons (pv 0) (pa_cons (pe_ty T.z_tuple bt_tuple) pa_nil))))) (pw_or1 (pt_cmpR op_ne (pe_callB call_len_seq (by rfl) T.z_len bt_len (pa_cons (pv 0) pa_nil)) pe_int (nomark _)))).pt (pss_one (ps_ret pe_bl)) pss_nil) (pss_cons (ps_if (pw_or (pt_not (pt_val (pe_fn F_law_whole (hr.mono (by decide)) (by rfl) (pa_cons (pe_ix ix_tup (pv 0) pe_int (fun _ _ => rfl)) pa_nil)))) (pw_or (pt_not (pt_val (pe_fn F_law_whole (hr.mono (by decide)) (by rfl) (pa_cons (pe_ix ix_tup (pv 0) pe_int (fun _ _ => rfl)) pa_nil)))) (pw_or1 (pt_cmpR op_lt (pe_ix ix_tup (pv 0) pe_int (fun _ _ => rfl)) pe_int (nomark _))))).pt (pss_one (ps_ret pe_bl)) pss_nil) (pss_one (ps_ret (pe_cmpR op_eq (pe_fn F_law_common (hr.mono (by decide)) (by rfl) (pa_cons (pe_callB call_abs (by rfl) T.z_abs bt_abs (pa_cons (pe_ix ix_tup (pv 0) pe_int (fun _ _ => rfl)) pa_nil)) (pa_cons (pe_ix ix_tup (pv 0) pe_int (fun _ _ => rfl)) pa_nil))) pe_int (nomark _)))))),?_⟩
    refine ⟨_,rfl,x,t,"tuple",rfl,k,.inr (.inr (.inl rfl)),_,rfl,?_⟩
    rcases Kn.cases_tup k with ⟨p,xs,rfl,e,rfl⟩ | ⟨hl,hs⟩
    · rw [lowV_tup e] at q
      refine iteF ?_
      refine ⟨_,rfl,p,xs,rfl,.inr (SqT.of e),rfl,_,rfl,?_⟩
      refine ite3 (fun hc => ?_) (fun hc => ?_)
      · have hn : xs.length ≠ 2 := by
          intro z
          rw [z] at hc
          exact absurd hc (by decide)
        rw [lowL_len hn] at q
        exact q
      · have hn : xs.length = 2 := by
          have z : (xs.length : Int) = 2 := by simpa using hc
          omega
        match xs,hn,e,q with
        | [y,z],_,e,q =>
          obtain ⟨ty,ky⟩ := th.parts p _ rfl e y (by simp)
          obtain ⟨tz,kz⟩ := th.parts p _ rfl e z (by simp)
          refine ⟨_,rfl,p,_,_,_,rfl,rfl,SqT.of e,rfl,y,ty,rfl,ky,_,rfl,?_⟩
          rcases Kn.cases_int ky with ⟨a,rfl,rfl⟩ | ⟨ny,ey⟩
          · refine iteF ?_
            refine ⟨_,rfl,p,_,_,_,rfl,rfl,SqT.of e,rfl,z,tz,rfl,kz,_,rfl,?_⟩
            rcases Kn.cases_int kz with ⟨b,rfl,rfl⟩ | ⟨nz,ez⟩
            · refine iteF ?_
              refine ⟨_,rfl,p,_,_,_,rfl,rfl,SqT.of e,rfl,b,1,rfl,rfl,_,rfl,?_⟩
              have q' : Q (.bl (lowB a b)) H := q
              unfold lowB at q'
              refine ite3 (fun hc => ?_) (fun hc => ?_)
              · have hb : ¬ 1 ≤ b := by
                  have z : b < 1 := by simpa using hc
                  omega
                rw [decide_eq_false hb,Bool.false_and] at q'
                exact q'
              · have hb : 1 ≤ b := by
                  have z : ¬ b < 1 := by simpa using hc
                  omega
                refine ⟨_,rfl,p,_,_,_,rfl,rfl,SqT.of e,rfl,a,rfl,_,rfl,p,_,_,_,rfl,rfl,SqT.of e,rfl,_,b,rfl,abs_nonneg a,by omega,rfl,?_⟩
                rw [decide_eq_true hb,Bool.true_and] at q'
                have e1 : decide (V.int (Int.gcd (if a < 0 then -a else a) b : Int) = V.int 1) = decide (Int.gcd a b = 1) := by
                  rw [gcd_abs,Bool.eq_iff_iff]
                  simp
                  omega
                rw [← e1] at q'
                exact q'
            · rw [ez,lowL_snd nz] at *
              exact q
          · rw [ey,lowL_fst ny] at *
            exact q
    · rw [hs]
      rw [hl] at q
      exact q
theorem sg_ssq (x : Int) : sg (ssq x) = sg x := by
  rcases Int.lt_trichotomy x 0 with h | h | h
  · rw [sg_n h,ssq_n h,sg_n (by have := Int.mul_pos_of_neg_of_neg h h; omega)]
  · subst h; rfl
  · rw [sg_p h,ssq_p (by omega),sg_p (Int.mul_pos h h)]
theorem sqn6 (x : Int) : 0 ≤ x * x := by
  rcases Int.lt_or_le x 0 with g | g
  · exact Int.le_of_lt (Int.mul_pos_of_neg_of_neg g g)
  · exact Int.mul_nonneg g g
theorem one_root {w p u : Int} (hu : 0 ≤ u) (h : ssq w + ssq p * u < 0) : (if sg w * sg (ssq p * u) ≥ 0 then sg (sg w + sg (ssq p * u)) else sg w * sg (w * w - p * p * u)) = -1 := by
  have pp := Int.mul_nonneg (sqn6 p) hu
  have hp : ssq p * u = p * p * u ∨ ssq p * u = -(p * p * u) := by
    rcases Int.lt_or_le p 0 with g | g
    · exact .inr (by rw [ssq_n g]; grind)
    · exact .inl (by rw [ssq_p g])
  generalize ssq p * u = z at *
  generalize p * p * u = y at *
  have ww := sqn6 w
  rcases Int.lt_trichotomy w 0 with g | g | g
  · rw [ssq_n g] at h
    rw [sg_n g]
    rcases Int.lt_trichotomy z 0 with k | k | k
    · rw [sg_n k]; rfl
    · rw [sg_z k]; rfl
    · rw [sg_p k,sg_p (x := w * w - y) (by omega)]; rfl
  · subst g
    have k : z < 0 := by simpa [ssq] using h
    rw [sg_n k]; rfl
  · rw [ssq_p (by omega)] at h
    have k : z < 0 := by omega
    rw [sg_p g,sg_n k,sg_n (x := w * w - y) (by omega)]; rfl
theorem ro_left {a0 a1 a2 a3 t u : Int} (h2 : 0 ≤ a2) (h : ssq (a0 * u - t * a3) + ssq (a1 * u) * a2 < 0) : ro a0 a1 a2 a3 t 0 0 u = -1 := by
  have k := one_root h2 h
  unfold ro swrs swr
  generalize a0 * u - t * a3 = w at *
  generalize a1 * u = p at *
  have e1 : ssq p * a2 + ssq (-0 * a3) * 0 = ssq p * a2 := by rw [Int.mul_zero,Int.add_zero]
  have e2 : w * w - p * p * a2 - -0 * a3 * (-0 * a3) * 0 = w * w - p * p * a2 := by rw [Int.mul_zero,Int.sub_zero]
  rw [e1,e2,Int.mul_zero a2,Int.mul_zero,Int.add_zero,sg_ssq]
  exact k
theorem ro_right {b0 b1 b2 b3 t u : Int} (h2 : 0 ≤ b2) (h : ssq (t * b3 - b0 * u) + ssq (-b1 * u) * b2 < 0) : ro t 0 0 u b0 b1 b2 b3 = -1 := by
  have k := one_root h2 h
  unfold ro swrs swr
  generalize t * b3 - b0 * u = w at *
  generalize -b1 * u = p at *
  have e1 : ssq (0 * b3) * 0 + ssq p * b2 = ssq p * b2 := by rw [Int.mul_zero,Int.zero_add]
  have e2 : w * w - 0 * b3 * (0 * b3) * 0 - p * p * b2 = w * w - p * p * b2 := by rw [Int.mul_zero,Int.sub_zero]
  rw [e1,e2,Int.zero_mul b2,Int.mul_zero,Int.add_zero,sg_ssq]
  exact k
structure Pz (a0 a1 a2 a3 b0 b1 b2 b3 : Int) : Prop where
  x0 : bits a0 ≤ 176
  x1 : bits a1 ≤ 176
  x2 : bits a2 ≤ 170
  x3 : bits a3 ≤ 176
  y0 : bits b0 ≤ 176
  y1 : bits b1 ≤ 176
  y2 : bits b2 ≤ 170
  y3 : bits b3 ≤ 176
  w : bits (a0 * b3 - b0 * a3) ≤ 250
  m : bits (a1 * b3 * (a1 * b3) * a2) ≤ 500
  n : bits (b1 * a3 * (b1 * a3) * b2) ≤ 500
  k : bits (4 * (a3 * b3)) ≤ 264
theorem pz_of {H : Hp} {p : Addr} {a0 a1 a2 a3 b0 b1 b2 b3 : Int} (r : Rn H p a0 a1 a2 a3 70) (z : Bz b0 b1 b2 b3) : Pz a0 a1 a2 a3 b0 b1 b2 b3 ∧ Pz b0 b1 b2 b3 a0 a1 a2 a3 := by
  have up : ∀ {i : Int} {k m : Nat},bits i ≤ k → k ≤ m → bits i ≤ m := fun h g => bits_le h g
  have w1 : bits (a0 * b3) ≤ 246 := up (bits_mul r.b0 z.x3) (by decide)
  have w2 : bits (b0 * a3) ≤ 246 := up (bits_mul z.x0 r.b3) (by decide)
  have m1 := bits_mul r.b1 z.x3
  have m2 : bits (a1 * b3 * (a1 * b3) * a2) ≤ 500 := up (bits_mul (bits_mul m1 m1) r.b2) (by decide)
  have n1 : bits (b1 * a3 * (b1 * a3) * b2) ≤ 500 := by
    rw [show b1 * a3 * (b1 * a3) * b2 = b1 * b1 * b2 * (a3 * a3) by grind]
    exact up (bits_mul z.z (bits_mul r.b3 r.b3)) (by decide)
  have k1 : bits (4 * (a3 * b3)) ≤ 264 := up (bits_mul (m := 10) (bits_small (by decide) (by decide)) (bits_mul r.b3 z.x3)) (by decide)
  have k2 : bits (4 * (b3 * a3)) ≤ 264 := by rw [Int.mul_comm b3 a3]; exact k1
  exact ⟨⟨up r.b0 (by decide),up r.b1 (by decide),up r.b2 (by decide),up r.b3 (by decide),z.x0,up z.x1 (by decide),z.x2,up z.x3 (by decide),up (bits_sub w1 w2) (by decide),m2,n1,k1⟩,
    ⟨z.x0,up z.x1 (by decide),z.x2,up z.x3 (by decide),up r.b0 (by decide),up r.b1 (by decide),up r.b2 (by decide),up r.b3 (by decide),up (bits_sub w2 w1) (by decide),n1,m2,k2⟩⟩
theorem bits_bd {x M : Int} {n : Nat} (h : bits x ≤ n) (e : ((2 ^ n : Nat) : Int) ≤ M) : -M ≤ x ∧ x ≤ M := by
  have := bits_lt h
  omega
theorem Pz.room {a0 a1 a2 a3 b0 b1 b2 b3 : Int} (z : Pz a0 a1 a2 a3 b0 b1 b2 b3) (a2n : 0 ≤ a2) (a3p : 0 < a3) (b2n : 0 ≤ b2) (b3p : 0 < b3) (ho : ro a0 a1 a2 a3 b0 b1 b2 b3 = -1) : ∀ F G,Rm a0 a1 a2 a3 b0 b1 b2 b3 10 F G → F + 1 + 2 ≤ -G - 1 :=
  Sp6.room (K := 2 ^ 264) (S := 2 ^ 760) (M := 2 ^ 250) a2n a3p b2n b3p ho (by decide +kernel) (by show (2 : Int) ^ 1024 = _; decide +kernel) ⟨by decide +kernel,by decide +kernel⟩ (bits_bd z.w (by decide +kernel)) (bits_bd z.m (by decide +kernel)).2 (bits_bd z.n (by decide +kernel)).2 (bits_bd z.k (by decide +kernel)).2
theorem Pz.two {a0 a1 a2 a3 b0 b1 b2 b3 : Int} (z : Pz a0 a1 a2 a3 b0 b1 b2 b3) (a2n : 0 ≤ a2) (a3p : 0 < a3) (b2n : 0 ≤ b2) (b3p : 0 < b3) : Two a0 a1 a2 a3 b0 b1 b2 b3 176 85 := ⟨a2n,a3p,b2n,b3p,z.x0,z.x1,z.x2,z.y0,z.y1,z.y2,by decide,by decide⟩
theorem Rn.of {H : Hp} {p : Addr} {a0 a1 a2 a3 b0 b1 b2 b3 : Int} {n : Nat} (r : Rn H p a0 a1 a2 a3 n) (z : Pz a0 a1 a2 a3 b0 b1 b2 b3) : Rn H p a0 a1 a2 a3 176 := ⟨r.at_,z.x0,z.x1,bits_le z.x2 (by decide),z.x3,r.p2,r.p3⟩
theorem Rn.of' {H : Hp} {p : Addr} {a0 a1 a2 a3 b0 b1 b2 b3 : Int} {n : Nat} (r : Rn H p b0 b1 b2 b3 n) (z : Pz a0 a1 a2 a3 b0 b1 b2 b3) : Rn H p b0 b1 b2 b3 176 := ⟨r.at_,z.y0,z.y1,bits_le z.y2 (by decide),z.y3,r.p2,r.p3⟩
theorem own_root {q r R c : Int} (hr : Rtf 1 r c) (h : q = 0 ∨ c * c = r) (hR : Rtf 1 (q * q * r) R) : R * R = q * q * r ∧ sg q * R = q * c := by
  have key : Rtf 1 (q * q * r) (sg q * (q * c)) := by
    rcases h with rfl | h
    · rw [Int.zero_mul,Int.zero_mul,Int.zero_mul,Int.mul_zero]
      exact ⟨by decide,by decide,by decide⟩
    · have nc := hr.nn
      have e : sg q * (q * c) * (sg q * (q * c)) = q * q * r ∧ 0 ≤ sg q * (q * c) := by
        rw [← h]
        rcases Int.lt_trichotomy q 0 with g | g | g
        · rw [sg_n g]
          have := Int.mul_nonneg (show 0 ≤ -q by omega) nc
          exact ⟨by grind, by have e : -1 * (q * c) = -q * c := by grind
                              omega⟩
        · subst g
          exact ⟨by simp,by simp⟩
        · rw [sg_p g]
          have := Int.mul_nonneg (show 0 ≤ q by omega) nc
          exact ⟨by grind,by omega⟩
      generalize sg q * (q * c) = x at *
      have e2 : (x + 1) * (x + 1) = x * x + x + x + 1 := by grind
      exact ⟨e.2,by omega,by omega⟩
  have e := hR.uniq key
  subst e
  refine ⟨?_,?_⟩
  · rcases h with rfl | h
    · simp
    · rw [← h]
      rcases Int.lt_trichotomy q 0 with g | g | g
      · rw [sg_n g]; grind
      · subst g; simp
      · rw [sg_p g]; grind
  · rcases Int.lt_trichotomy q 0 with g | g | g
    · rw [sg_n g]; grind
    · subst g; simp
    · rw [sg_p g]; grind
theorem two_th {H : Hp} {p : Addr} {a b : Int} (e : H p = some (.tup [.int a,.int b])) : Thing H (.ref p) := th_tup e fun v hv => by
  simp only [List.mem_cons,List.not_mem_nil,or_false] at hv
  rcases hv with rfl | rfl <;> exact ⟨_,.int _⟩
theorem two_low {H : Hp} {p : Addr} {a b : Int} (e : H p = some (.tup [.int a,.int b])) (h : Low a b) : lowV H (.ref p) = true := by
  rw [lowV_two e]
  exact low_B h
theorem two_rp {H : Hp} {r : Addr} {a b : Int} (e : H r = some (.tup [.int a,.int b])) : Rp H 9 (.ref r) (.tup [.int a,.int b]) := .tup e rfl fun j x d h1 h2 => by
  match j,h1,h2 with
  | 0,h1,h2 => cases h1; cases h2; exact .int
  | 1,h1,h2 => cases h1; cases h2; exact .int
inductive spThat (vs : List V) (H : Hp) (Q : VK) (x_3 : XK) : Prop
  | mk : ∀ (f p : Addr) (t u a0 a1 a2 a3 : Int),(vs = [.ref f,.ref p]) → (H f = some (.tup [.int t,.int u])) → ((bits t ≤ 1500 ∧ bits u ≤ 1500)) → (Rn H p a0 a1 a2 a3 70) → ((∀ c,Rtf 1 a2 c → a1 = 0 ∨ c * c = a2 → t * a3 = (a0 + a1 * c) * u)) → (Q (.bl true) H) → spThat vs H Q x_3
inductive spPart6 (vs : List V) (H : Hp) (Q : VK) (x_3 : XK) : Prop
  | mk : ∀ (p q : Addr) (a0 a1 a2 a3 b0 b1 b2 b3 : Int),(vs = [.ref p,.ref q]) → (Rn H p a0 a1 a2 a3 200) → (Rn H q b0 b1 b2 b3 200) → (Pz a0 a1 a2 a3 b0 b1 b2 b3) → (ro a0 a1 a2 a3 b0 b1 b2 b3 = -1) → (∀ H',Same H H' → Q (.bl true) H') → spPart6 vs H Q x_3
theorem S_law_is_that : FnScope ["found","number","p","q","r","s","root"] ["found","number"] (defScope (top 34)) := ⟨rfl,rfl,rfl,by decide +kernel,rfl,by decide +kernel,by decide +kernel⟩
theorem fn_law_is_that (D_law_is_that : Df K mg "_law_is_that" (top 34)) (F_law_root : Fn P w K mg base "_law_root" ["number"] 1 spRoot) (T : Txt mg) : Fn P w K mg base "_law_is_that" ["found","number"] 2 spThat := by
  refine D_law_is_that.fn S_law_is_that (fun _ _ _ _ _ _ us hl => match us,hl with | [_,_],_ => rfl) (fun vs H Q E h => ?_) (fun f cdv A outer s H vs Q E hr h => ?_)
  · obtain ⟨f,p,t,u,a0,a1,a2,a3,rfl,_⟩ := h
    rfl
  · obtain ⟨f,p,t,u,a0,a1,a2,a3,rfl,hf,⟨bt,bu⟩,ra,hh,q⟩ := h
    refine ⟨_,(pss_cons (ps_asg (pv 1) (pg_tup rfl (pgs_cons (pg_name (i := 2) S_law_is_that.nd rfl (Or.inl rfl)) (pgs_cons (pg_name (i := 3) S_law_is_that.nd rfl (Or.inl rfl)) (pgs_cons (pg_name (i := 4) S_law_is_that.nd rfl (Or.inl rfl)) (pgs_cons (pg_name (i := 5) S_law_is_that.nd rfl (Or.inl rfl)) pgs_nil)))))) (pss_cons (ps_set (i := 6) S_law_is_that.nd rfl (Or.inl rfl) (pe_fn F_law_root (hr.mono (by decide)) (by rfl) (pa_cons (pv 4) pa_nil))) (pss_cons (ps_if (pw_and (pt_cmpR op_ne (pv 3) pe_int (nomark _)) (pw_and1 (pt_cmpR op_ne (pe_op op_mulX (pv 6) (pv 6)) (pv 4) (nomark _)))).pt (pss_one (ps_ret pe_bl)) pss_nil) (pss_one (ps_ret (pe_cmpR op_eq (pe_op op_mulX (pe_ix ix_tup (pv 0) pe_int (fun _ _ => rfl)) (pv 5)) (pe_op op_mulX (pe_op op_add (pv 2) (pe_op op_mulX (pv 3) (pv 6))) (pe_ix ix_tup (pv 0) pe_int (fun _ _ => rfl))) (nomark _))))))),?_⟩
    refine ⟨_,rfl,p,_,rfl,SqT.of ra.at_,rfl,_,_,rfl,_,_,rfl,_,_,rfl,_,_,rfl,rfl,?_⟩
    refine ⟨_,rfl,a2,rfl,ra.p2,bits_le ra.b2 (by decide),fun c hc => ?_⟩
    have bc : bits c ≤ 70 := bits_range hc.nn (rtf_le hc) ra.b2
    have R : (a1 = 0 ∨ c * c = a2) → ∀ D : Bool,D = decide (V.int (t * a3) = V.int ((a0 + a1 * c) * u)) → Q (.bl D) H := fun g D e => by
      rw [e,hh c hc g,decide_eq_true rfl]
      exact q
    have IX : SqT K H f [.int t,.int u] := SqT.of hf
    have c1 : CM t a3 := CM.of bt ra.b3 ⟨by decide,by decide⟩
    have c2 : CM a1 c := CM.of ra.b1 bc ⟨by decide,by decide⟩
    have c3 : CM (a0 + a1 * c) u := CM.of (m := 141) (bits_add (n := 140) (bits_le ra.b0 (by decide)) (bits_mul ra.b1 bc)) bu ⟨by decide,by decide⟩
    refine ⟨_,rfl,rfl,_,rfl,ite3 (fun h1 => ?_) (fun h1 => ?_)⟩
    · refine ⟨_,rfl,_,rfl,_,_,rfl,rfl,CM.of bc bc ⟨by decide,by decide⟩,_,rfl,rfl,_,rfl,ite3 (fun h2 => ?_) (fun h2 => ?_)⟩
      · exact q
      · exact ⟨_,rfl,f,_,_,_,rfl,rfl,IX,rfl,_,rfl,_,_,rfl,rfl,c1,_,rfl,_,rfl,_,rfl,_,_,rfl,rfl,c2,_,_,rfl,rfl,_,rfl,f,_,_,_,rfl,rfl,IX,rfl,_,_,rfl,rfl,c3,rfl,R (.inr (by simpa using h2)) _ rfl⟩
    · exact ⟨_,rfl,f,_,_,_,rfl,rfl,IX,rfl,_,rfl,_,_,rfl,rfl,c1,_,rfl,_,rfl,_,rfl,_,_,rfl,rfl,c2,_,_,rfl,rfl,_,rfl,f,_,_,_,rfl,rfl,IX,rfl,_,_,rfl,rfl,c3,rfl,R (.inl (by simpa using h1)) _ rfl⟩
theorem S_law_parted : FnScope ["one","other","found","amid"] ["one","other"] (defScope (top 35)) := ⟨rfl,rfl,rfl,by decide +kernel,rfl,by decide +kernel,by decide +kernel⟩
theorem fn_law_parted {C : Addr} (D_law_parted : Df K mg "_law_parted" (top 35)) (F_root_between : Fx P w K mg base "root_between" ["one","other"] 5 [] (spRB K C)) (F_law_lowest : Fn P w K mg base "_law_lowest" ["found"] 2 spLow) (F_law_order : Fn P w K mg base "_law_order" ["one","other"] 3 spOrd6) (T : Txt mg) : Fn P w K mg base "_law_parted" ["one","other"] 6 spPart6 := by
  refine D_law_parted.fn S_law_parted (fun _ _ _ _ _ _ us hl => match us,hl with | [_,_],_ => rfl) (fun vs H Q E h => ?_) (fun f cdv A outer s H vs Q E hr h => ?_)
  · obtain ⟨p,q,a0,a1,a2,a3,b0,b1,b2,b3,rfl,_⟩ := h
    rfl
  · obtain ⟨p,q,a0,a1,a2,a3,b0,b1,b2,b3,rfl,ra,rb,z,ho,k⟩ := h
    refine ⟨_,(pss_cons (ps_set (i := 2) S_law_parted.nd rfl (Or.inl rfl) (pe_fx0 F_root_between (hr.mono (by decide)) (by rfl) (pa_cons (pv 0) (pa_cons (pv 1) pa_nil)))) (pss_cons (ps_if (pw_or (pt_not (pt_val (pe_fn F_law_lowest (hr.mono (by decide)) (by rfl) (pa_cons (pv 2) pa_nil)))) (pw_or1 (pt_cmpR (op_neD hr.units10) (pe_fx0 F_root_between (hr.mono (by decide)) (by rfl) (pa_cons (pv 0) (pa_cons (pv 1) pa_nil))) (pv 2) (nomark _)))).pt (pss_one (ps_ret pe_bl)) pss_nil) (pss_cons (ps_set (i := 3) S_law_parted.nd rfl (Or.inl rfl) (pe_tupA (pa_cons (pe_ix ix_tup (pv 2) pe_int (fun _ _ => rfl)) (pa_cons pe_int (pa_cons pe_int (pa_cons (pe_ix ix_tup (pv 2) pe_int (fun _ _ => rfl)) pa_nil)))))) (pss_one (ps_ret (pe_and (pe_cmpR op_eq (pe_fn F_law_order (hr.mono (by decide)) (by rfl) (pa_cons (pv 0) (pa_cons (pv 3) pa_nil))) (pe_un un_neg pe_int) (nomark _)) (pe_one (pe_cmpR op_eq (pe_fn F_law_order (hr.mono (by decide)) (by rfl) (pa_cons (pv 3) (pa_cons (pv 1) pa_nil))) (pe_un un_neg pe_int) (nomark _))))))))),?_⟩
    have tw := z.two ra.p2 ra.p3 rb.p2 rb.p3
    have rm := z.room ra.p2 ra.p3 rb.p2 rb.p3 ho
    refine ⟨_,rfl,_,rfl,p,q,a0,a1,a2,a3,b0,b1,b2,b3,176,85,10,1294,rfl,ra.rt,rb.rt,tw,⟨by decide,by decide,by decide⟩,fun h => absurd h (by rw [ho]; decide),fun h => absurd h (by rw [ho]; decide),fun _ => ⟨rm,fun f t u H1 s1 ef wi bt bu => ?_⟩⟩
    have lw : Low t u := by
      obtain ⟨j,F,G,ts,m,_,_,_,_,fr⟩ := wi
      exact fr.low
    obtain ⟨m1,m2⟩ := wi.mid ra.p2 ra.p3 rb.p2 rb.p3
    refine ⟨_,rfl,_,rfl,two_th ef,_,rfl,iteFalse (by rw [two_low ef lw]; rfl) ?_⟩
    refine ⟨_,rfl,_,rfl,p,q,a0,a1,a2,a3,b0,b1,b2,b3,176,85,10,1294,rfl,(ra.mono s1).rt,(rb.mono s1).rt,tw,⟨by decide,by decide,by decide⟩,fun h => absurd h (by rw [ho]; decide),fun h => absurd h (by rw [ho]; decide),fun _ => ⟨rm,fun f2 t2 u2 H2 s2 ef2 wi2 _ _ => ?_⟩⟩
    obtain ⟨e1,e2⟩ := wi.uniq wi2
    subst e1 e2
    have ef3 := s2 _ _ ef
    refine ⟨_,rfl,_,_,two_rp ef2,two_rp ef3,_,rfl,iteFalse (by simp [deq_self]) ?_⟩
    refine ⟨_,rfl,f,_,_,_,rfl,rfl,SqT.of ef3,rfl,_,rfl,f,_,_,_,rfl,rfl,SqT.of ef3,rfl,sz (by simp),fun o H3 s3 f3 _ => ?_⟩
    have S3 := s1.trans (s2.trans s3)
    have ro3 : Rn H3 o t 0 0 u 1294 := ⟨f3,bt,by decide,by decide,bu,by decide,by have := lw.pos; omega⟩
    have ra3 := (ra.of z).mono S3
    have rb3 := (rb.of' z).mono S3
    refine ⟨_,rfl,_,rfl,p,o,a0,a1,a2,a3,t,0,0,u,176,1294,rfl,ra3,ro3,⟨by decide,bits_le z.x2 (by decide),by decide⟩,?_⟩
    rw [ro_left ra.p2 m1]
    refine ⟨_,rfl,rfl,_,rfl,ite3 (fun _ => ?_) (fun h => absurd h (by decide))⟩
    refine ⟨_,rfl,_,rfl,o,q,t,0,0,u,b0,b1,b2,b3,1294,176,rfl,ro3,rb3,⟨by decide,by decide,bits_le z.y2 (by decide)⟩,?_⟩
    rw [ro_right rb.p2 m2]
    exact ⟨_,rfl,rfl,k H3 S3⟩
theorem S_law : FnScope ["script","cell","one","other","side","p","q","r","s","found"] ["script"] (defScope (top 36)) := ⟨rfl,rfl,rfl,by decide +kernel,rfl,by decide +kernel,by decide +kernel⟩
theorem fn_law {C : Addr} (D_law : Df K mg "law" (top 36)) (F_law_pair : Fn P w K mg base "_law_pair" ["cell"] 4 spPair6) (F_law_order : Fn P w K mg base "_law_order" ["one","other"] 3 spOrd6) (F_law_parted : Fn P w K mg base "_law_parted" ["one","other"] 6 spPart6) (F_root_between : Fx P w K mg base "root_between" ["one","other"] 5 [] (spRB K C)) (F_law_lowest : Fn P w K mg base "_law_lowest" ["found"] 2 spLow) (F_law_root : Fn P w K mg base "_law_root" ["number"] 1 spRoot) (F_law_is_that : Fn P w K mg base "_law_is_that" ["found","number"] 2 spThat) (T : Txt mg) : Fn P w K mg base "law" ["script"] 7 (spLaw K) := by
  refine D_law.fn S_law (fun _ _ _ _ _ _ us hl => match us,hl with | [_],_ => rfl) (fun vs H Q E h => ?_) (fun f cdv A outer s H vs Q E hr h => ?_)
  · obtain ⟨sa,ss,rfl,_⟩ := h
    rfl
  · obtain ⟨sa,ss,rfl,hS,hlen,fin⟩ := h
    refine ⟨_,(pss_cons (ps_for PassesOwn.never rfl (pi_list (pe_op op_catA (pe_slice sl_listA (pv 0) po_none (po_some pe_int)) (pe_lstA (pa_cons (pe_callB call_len_seq (by rfl) T.z_len bt_len (pa_cons (pv 0) pa_nil)) pa_nil)))) (pg_name (i := 1) S_law.nd rfl (Or.inl rfl)) (pss_cons (ps_asg (pe_fn F_law_pair (hr.mono (by decide)) (by rfl) (pa_cons (pv 1) pa_nil)) (pg_tup rfl (pgs_cons (pg_name (i := 2) S_law.nd rfl (Or.inl rfl)) (pgs_cons (pg_name (i := 3) S_law.nd rfl (Or.inl rfl)) pgs_nil)))) (pss_cons (ps_set (i := 4) S_law.nd rfl (Or.inl rfl) (pe_fn F_law_order (hr.mono (by decide)) (by rfl) (pa_cons (pv 2) (pa_cons (pv 3) pa_nil)))) (pss_cons (ps_if (pw_and (pt_cmpR op_eq (pv 4) (pe_un un_neg pe_int) (nomark _)) (pw_and1 (pt_not (pt_val (pe_fn F_law_parted (hr.mono (by decide)) (by rfl) (pa_cons (pv 2) (pa_cons (pv 3) pa_nil))))))).pt (pss_one (ps_ret pe_bl)) pss_nil) (pss_cons (ps_if (pw_and (pt_cmpR op_eq (pv 4) pe_int (nomark _)) (pw_and1 (pt_not (pt_val (pe_fn F_law_parted (hr.mono (by decide)) (by rfl) (pa_cons (pv 3) (pa_cons (pv 2) pa_nil))))))).pt (pss_one (ps_ret pe_bl)) pss_nil) (pss_cons (ps_asg (pv 2) (pg_tup rfl (pgs_cons (pg_name (i := 5) S_law.nd rfl (Or.inl rfl)) (pgs_cons (pg_name (i := 6) S_law.nd rfl (Or.inl rfl)) (pgs_cons (pg_name (i := 7) S_law.nd rfl (Or.inl rfl)) (pgs_cons (pg_name (i := 8) S_law.nd rfl (Or.inl rfl)) pgs_nil)))))) (pss_one (ps_if (pw_and (pt_cmpR op_eq (pv 4) pe_int (nomark _)) (pw_and1 (pw_or (pt_cmpR op_eq (pv 6) pe_int (nomark _)) (pw_or1 (pt_cmpR op_eq (pe_op op_powX (pe_fn F_law_root (hr.mono (by decide)) (by rfl) (pa_cons (pv 7) pa_nil)) pe_int) (pv 7) (nomark _)))).pt)).pt (pss_cons (ps_set (i := 9) S_law.nd rfl (Or.inl rfl) (pe_fx0 F_root_between (hr.mono (by decide)) (by rfl) (pa_cons (pv 2) (pa_cons (pv 3) pa_nil)))) (pss_one (ps_if (pw_or (pt_not (pt_val (pe_fn F_law_lowest (hr.mono (by decide)) (by rfl) (pa_cons (pv 9) pa_nil)))) (pw_or1 (pt_not (pt_val (pe_fn F_law_is_that (hr.mono (by decide)) (by rfl) (pa_cons (pv 9) (pa_cons (pv 2) pa_nil))))))).pt (pss_one (ps_ret pe_bl)) pss_nil))) pss_nil)))))))) (pss_one (ps_ret pe_bl))),?_⟩
    refine ⟨_,rfl,_,rfl,sa,_,rfl,hS,fun p0 H0 s0 f0 _ => ?_⟩
    refine ⟨_,rfl,sa,_,rfl,.inl (s0.seq hS),sz (by simp),fun p1 H1 s1 f1 _ => ?_⟩
    refine ⟨p0,p1,_,_,rfl,rfl,s1 _ _ f0,f1,cells_len hlen,fun p2 H2 s2 f2 _ => ?_⟩
    refine ⟨p2,rfl,⟨_,SqL.of f2⟩,for_list (K := K) (a := p2) (xs := cutV (ss.map V.int) none (some 10) ++ [.int (((ss.map V.int).length : Nat) : Int)]) (fun _ σ H3 => ∃ z1 z2 z3 z4 z5 z6 z7 z8 z9,σ = [some (.ref sa),z1,z2,z3,z4,z5,z6,z7,z8,z9] ∧ Same H2 H3)
      ⟨_,_,_,_,_,_,_,_,_,rfl,Same.refl _⟩ (fun i σ H3 _ ⟨_,_,_,_,_,_,_,_,_,_,sm⟩ => SqL.of (sm _ _ f2)) ?_ ?_⟩
    · rintro i o σ H3 hi ⟨z1,z2,z3,z4,z5,z6,z7,z8,z9,rfl,sm⟩
      obtain ⟨c,rfl⟩ := cells_int hi
      refine ⟨_,rfl,c,rfl,fun t p q a0 a1 a2 a3 b0 b1 b2 b3 H4 s4 et Ra Rb Z => ?_⟩
      refine ⟨t,_,rfl,SqT.of et,rfl,_,_,rfl,_,_,rfl,rfl,?_⟩
      obtain ⟨zab,zba⟩ := pz_of Ra Z
      have Ra2 := Ra.wide (n := 200) (by decide)
      refine ⟨_,rfl,_,rfl,p,q,a0,a1,a2,a3,b0,b1,b2,b3,70,200,rfl,Ra,Rb,⟨by decide,bits_le Ra.b2 (by decide),bits_le Z.x2 (by decide)⟩,?_⟩
      have S4 := sm.trans s4
      obtain ⟨sd,esd⟩ : ∃ sd,ro a0 a1 a2 a3 b0 b1 b2 b3 = sd := ⟨_,rfl⟩
      rw [esd]
      have ne : ∀ {x y : Int},x ≠ y → decide (V.int x = V.int y) = false := fun h => decide_eq_false fun e => h (by cases e; rfl)
      by_cases h1 : sd = -1
      · subst h1
        refine ⟨_,rfl,_,rfl,rfl,_,rfl,iteTrue rfl ?_⟩
        refine ⟨_,rfl,_,rfl,p,q,a0,a1,a2,a3,b0,b1,b2,b3,rfl,Ra2,Rb,zab,esd,fun H5 s5 => ⟨_,rfl,iteFalse rfl ?_⟩⟩
        refine ⟨_,rfl,rfl,_,rfl,iteFalse rfl ?_⟩
        refine ⟨_,rfl,p,_,rfl,SqT.of (s5 _ _ Ra.at_),rfl,_,_,rfl,_,_,rfl,_,_,rfl,_,_,rfl,rfl,?_⟩
        refine ⟨_,rfl,rfl,_,rfl,iteFalse rfl ?_⟩
        exact ⟨_,_,_,_,_,_,_,_,_,rfl,S4.trans s5⟩
      refine ⟨_,rfl,_,rfl,rfl,_,rfl,iteFalse (ne h1) ?_⟩
      by_cases h2 : sd = 1
      · subst h2
        refine ⟨_,rfl,rfl,_,rfl,iteTrue rfl ?_⟩
        refine ⟨_,rfl,_,rfl,q,p,b0,b1,b2,b3,a0,a1,a2,a3,rfl,Rb,Ra2,zba,by rw [ro_swap,esd]; rfl,fun H5 s5 => ⟨_,rfl,iteFalse rfl ?_⟩⟩
        refine ⟨_,rfl,p,_,rfl,SqT.of (s5 _ _ Ra.at_),rfl,_,_,rfl,_,_,rfl,_,_,rfl,_,_,rfl,rfl,?_⟩
        refine ⟨_,rfl,rfl,_,rfl,iteFalse rfl ?_⟩
        exact ⟨_,_,_,_,_,_,_,_,_,rfl,S4.trans s5⟩
      refine ⟨_,rfl,rfl,_,rfl,iteFalse (ne h2) ?_⟩
      refine ⟨_,rfl,p,_,rfl,SqT.of Ra.at_,rfl,_,_,rfl,_,_,rfl,_,_,rfl,_,_,rfl,rfl,?_⟩
      by_cases h3 : sd = 0
      · subst h3
        have ho := esd
        refine ⟨_,rfl,rfl,_,rfl,iteTrue rfl ?_⟩
        refine ⟨_,rfl,rfl,_,rfl,ite3 (fun g => ?_) (fun g => ?_)⟩
        · have g : a1 = 0 := by simpa using g
          have own : ∀ R,Rtf 1 (a1 * a1 * a2) R → R * R = a1 * a1 * a2 := fun R hR => by
            obtain ⟨c,hc⟩ := rtf_ex (T := 1) (a := a2) (by have := Ra.p2; omega)
            exact (own_root hc (.inl g) hR).1
          refine ⟨_,rfl,_,rfl,p,q,a0,a1,a2,a3,b0,b1,b2,b3,176,85,10,1294,rfl,Ra2.rt,Rb.rt,zab.two Ra.p2 Ra.p3 Rb.p2 Rb.p3,⟨by decide,by decide,by decide⟩,fun h => absurd h (by rw [ho]; decide),fun _ R hR => ⟨fun hn => absurd (own R hR) hn,fun _ f t u H5 s5 ef fr bt bu => ?_⟩,fun h => absurd h (by rw [ho]; decide)⟩
          refine ⟨_,rfl,_,rfl,two_th ef,_,rfl,iteFalse (by rw [two_low ef fr.low]; rfl) ?_⟩
          refine ⟨_,rfl,_,rfl,f,p,t,u,a0,a1,a2,a3,rfl,ef,⟨bt,bu⟩,Ra.mono s5,(fun c hc g => ?_),_,rfl,iteFalse rfl ?_⟩
          · have e := fr.eq
            rw [(own_root hc g hR).2] at e
            exact e.symm
          exact ⟨_,_,_,_,_,_,_,_,_,rfl,S4.trans s5⟩
        · refine ⟨_,rfl,a2,rfl,Ra.p2,bits_le Ra.b2 (by decide),fun c hc => ?_⟩
          have bc : bits c ≤ 70 := bits_range hc.nn (rtf_le hc) Ra.b2
          refine ⟨_,_,rfl,rfl,cpx2 bc (by decide),_,rfl,rfl,_,rfl,ite3 (fun g => ?_) (fun g => ?_)⟩
          · have g : c * c = a2 := by
              have g : c ^ (2 : Int).toNat = a2 := by simpa using g
              rw [← pow2]
              exact g
            have own : ∀ R,Rtf 1 (a1 * a1 * a2) R → R * R = a1 * a1 * a2 := fun R hR => (own_root hc (.inr g) hR).1
            refine ⟨_,rfl,_,rfl,p,q,a0,a1,a2,a3,b0,b1,b2,b3,176,85,10,1294,rfl,Ra2.rt,Rb.rt,zab.two Ra.p2 Ra.p3 Rb.p2 Rb.p3,⟨by decide,by decide,by decide⟩,fun h => absurd h (by rw [ho]; decide),fun _ R hR => ⟨fun hn => absurd (own R hR) hn,fun _ f t u H5 s5 ef fr bt bu => ?_⟩,fun h => absurd h (by rw [ho]; decide)⟩
            refine ⟨_,rfl,_,rfl,two_th ef,_,rfl,iteFalse (by rw [two_low ef fr.low]; rfl) ?_⟩
            refine ⟨_,rfl,_,rfl,f,p,t,u,a0,a1,a2,a3,rfl,ef,⟨bt,bu⟩,Ra.mono s5,(fun c hc g => ?_),_,rfl,iteFalse rfl ?_⟩
            · have e := fr.eq
              rw [(own_root hc g hR).2] at e
              exact e.symm
            exact ⟨_,_,_,_,_,_,_,_,_,rfl,S4.trans s5⟩
          · exact ⟨_,_,_,_,_,_,_,_,_,rfl,S4⟩
      refine ⟨_,rfl,rfl,_,rfl,iteFalse (ne h3) ?_⟩
      exact ⟨_,_,_,_,_,_,_,_,_,rfl,S4⟩
    · rintro σ H3 ⟨z1,z2,z3,z4,z5,z6,z7,z8,z9,rfl,sm⟩
      exact fin H3
end
theorem hLeft : PySem.W.LeftO PySem.Challenge.rw_oneleash_k06_whole_roots_parted.prog hView hLoose (fun _ => true) (PySem.W.Hook.obs (Hd.hook hFacts hGood)) (PySem.W.Hook.val (Hd.hook hFacts hGood)) 100000 := hAll
theorem all_of {P : Program} {w : World} {K : PySem.W.Frag} (FK : hFacts K = hGood) {h : Heap} {mg : Str → Option Value} {fa : Addr} (X : K.In h) (G : h.Ns mainGlobals mg) (hfa : mg "law" = some (.ref fa)) :
    ∃ fd : FuncData,(∀ (s : Shared) (v : Value),BindsTo s fd ⟨[v],[]⟩ [("script",v)]) ∧ ∀ base : Heap,K.In base → base.Ns mainGlobals mg → FnOk P w K mg base CX0 7 fa fd ["script"] (spLaw K) := by
  have H0 : (hNames0.map (fun p => Hd.fnFact K p.1) : List (Option (Arguments × List Stmt × Scope × Value))) = hNames0.map (fun p => some (defArgs (top p.2),defBody (top p.2),defScope (top p.2),.none)) := (congrArg Prod.fst FK)
  have H1 : (hNamesD.map (fun p => Hd.fnFactD K p.1) : List (Option (Arguments × List Stmt × Scope × List V))) = hNamesD.map (fun p => some (defArgs (top p.2.1),defBody (top p.2.1),defScope (top p.2.1),p.2.2)) := (congrArg Prod.fst (congrArg Prod.snd FK))
  have H2 : (hExc.all (Hd.excFact K) : Bool) = true := (congrArg Prod.fst (congrArg Prod.snd (congrArg Prod.snd FK)))
  have H3 : (hNo.all (Hd.noFact K) : Bool) = true := (congrArg Prod.fst (congrArg Prod.snd (congrArg Prod.snd (congrArg Prod.snd FK))))
  have H4 : (hTup.map (fun p => Hd.tupFact K p.1) : List (Option (List V))) = hTup.map (fun p => some p.2) := (congrArg Prod.snd (congrArg Prod.snd (congrArg Prod.snd (congrArg Prod.snd FK))))
  have D_is_whole : Df K mg "is_whole" (top 4) := Hd.df_of X G (Hd.at_map H0 0 rfl)
  have D_common_divisor : Df K mg "common_divisor" (top 5) := Hd.df_of X G (Hd.at_map H0 1 rfl)
  have D_sign_of : Df K mg "sign_of" (top 8) := Hd.df_of X G (Hd.at_map H0 2 rfl)
  have D_signed_square : Df K mg "signed_square" (top 9) := Hd.df_of X G (Hd.at_map H0 3 rfl)
  have D_sign_with_root : Df K mg "sign_with_root" (top 10) := Hd.df_of X G (Hd.at_map H0 4 rfl)
  have D_sign_with_roots : Df K mg "sign_with_roots" (top 11) := Hd.df_of X G (Hd.at_map H0 5 rfl)
  have D_root_order : Df K mg "root_order" (top 12) := Hd.df_of X G (Hd.at_map H0 6 rfl)
  have D_floor_root : Df K mg "floor_root" (top 13) := Hd.df_of X G (Hd.at_map H0 7 rfl)
  have D_own_fraction : Df K mg "own_fraction" (top 14) := Hd.df_of X G (Hd.at_map H0 8 rfl)
  have D_scaled_floor : Df K mg "scaled_floor" (top 15) := Hd.df_of X G (Hd.at_map H0 9 rfl)
  have D_below_all : Df K mg "below_all" (top 16) := Hd.df_of X G (Hd.at_map H0 10 rfl)
  have D_shared_terms : Df K mg "shared_terms" (top 17) := Hd.df_of X G (Hd.at_map H0 11 rfl)
  have D_fraction_of_terms : Df K mg "fraction_of_terms" (top 18) := Hd.df_of X G (Hd.at_map H0 12 rfl)
  have D_fraction_within : Df K mg "fraction_within" (top 19) := Hd.df_of X G (Hd.at_map H0 13 rfl)
  have D_root_between : Df K mg "root_between" (top 20) := Hd.df_of X G (Hd.at_map H0 14 rfl)
  have D_law_mixed : Df K mg "_law_mixed" (top 22) := Hd.df_of X G (Hd.at_map H0 15 rfl)
  have D_law_numbers : Df K mg "_law_numbers" (top 23) := Hd.df_of X G (Hd.at_map H0 16 rfl)
  have D_law_whole : Df K mg "_law_whole" (top 24) := Hd.df_of X G (Hd.at_map H0 17 rfl)
  have D_law_common : Df K mg "_law_common" (top 25) := Hd.df_of X G (Hd.at_map H0 18 rfl)
  have D_law_lowest : Df K mg "_law_lowest" (top 26) := Hd.df_of X G (Hd.at_map H0 19 rfl)
  have D_law_root : Df K mg "_law_root" (top 27) := Hd.df_of X G (Hd.at_map H0 20 rfl)
  have D_law_side : Df K mg "_law_side" (top 28) := Hd.df_of X G (Hd.at_map H0 21 rfl)
  have D_law_sign : Df K mg "_law_sign" (top 29) := Hd.df_of X G (Hd.at_map H0 22 rfl)
  have D_law_order : Df K mg "_law_order" (top 30) := Hd.df_of X G (Hd.at_map H0 23 rfl)
  have D_law_single : Df K mg "_law_single" (top 31) := Hd.df_of X G (Hd.at_map H0 24 rfl)
  have D_law_beside : Df K mg "_law_beside" (top 32) := Hd.df_of X G (Hd.at_map H0 25 rfl)
  have D_law_pair : Df K mg "_law_pair" (top 33) := Hd.df_of X G (Hd.at_map H0 26 rfl)
  have D_law_is_that : Df K mg "_law_is_that" (top 34) := Hd.df_of X G (Hd.at_map H0 27 rfl)
  have D_law_parted : Df K mg "_law_parted" (top 35) := Hd.df_of X G (Hd.at_map H0 28 rfl)
  have D_law : Df K mg "law" (top 36) := Hd.df_of X G (Hd.at_map H0 29 rfl)
  have D_ratio : DfD K mg "ratio" (top 6) [.int 1] := Hd.dfd_of X G (Hd.at_map H1 0 rfl)
  have O_NoRatio : ExcC K mg "NoRatio" (Hd.cls K "NoRatio") := Hd.exc_of X G (Hd.at_all H2 0 rfl)
  have T : Txt mg := ⟨PySem.W.mg_none_of X G (Hd.no_of (Hd.at_all H3 0 rfl)),PySem.W.mg_none_of X G (Hd.no_of (Hd.at_all H3 1 rfl)),PySem.W.mg_none_of X G (Hd.no_of (Hd.at_all H3 2 rfl)),PySem.W.mg_none_of X G (Hd.no_of (Hd.at_all H3 3 rfl)),PySem.W.mg_none_of X G (Hd.no_of (Hd.at_all H3 4 rfl)),PySem.W.mg_none_of X G (Hd.no_of (Hd.at_all H3 5 rfl)),PySem.W.mg_none_of X G (Hd.no_of (Hd.at_all H3 6 rfl)),PySem.W.mg_none_of X G (Hd.no_of (Hd.at_all H3 7 rfl))⟩
  refine law_fd h hfa fun base => ?_
  have F_is_whole := fn_is_whole (P := P) (w := w) (base := base) D_is_whole T
  have F_common_divisor := fn_common_divisor (P := P) (w := w) (base := base) D_common_divisor T
  have F_ratio := fn_ratio (P := P) (w := w) (base := base) D_ratio O_NoRatio F_is_whole F_common_divisor
  have F_sign_of := fn_sign_of (P := P) (w := w) (base := base) D_sign_of
  have F_signed_square := fn_signed_square (P := P) (w := w) (base := base) D_signed_square T
  have F_sign_with_root := fn_sign_with_root (P := P) (w := w) (base := base) D_sign_with_root F_sign_of F_signed_square
  have F_sign_with_roots := fn_sign_with_roots (P := P) (w := w) (base := base) D_sign_with_roots F_sign_of F_signed_square F_sign_with_root
  have F_root_order := fn_root_order (P := P) (w := w) (base := base) D_root_order F_sign_with_roots
  have F_law_mixed := fn_law_mixed (P := P) (w := w) (base := base) D_law_mixed
  have F_law_numbers := fn_law_numbers (P := P) (w := w) (base := base) D_law_numbers F_law_mixed T
  have F_law_whole := fn_law_whole (P := P) (w := w) (base := base) D_law_whole T
  have F_floor_root := fn_floor_root (P := P) (w := w) (base := base) D_floor_root
  have F_scaled_floor := fn_scaled_floor (P := P) (w := w) (base := base) D_scaled_floor F_floor_root
  have F_below_all := fn_below_all (P := P) (w := w) (base := base) D_below_all F_scaled_floor
  have F_shared_terms := fn_shared_terms (P := P) (w := w) (base := base) D_shared_terms T
  have F_fraction_of_terms := fn_fraction_of_terms (P := P) (w := w) (base := base) D_fraction_of_terms F_ratio T
  have F_fraction_within := fn_fraction_within (P := P) (w := w) (base := base) D_fraction_within F_scaled_floor F_below_all F_fraction_of_terms F_shared_terms
  have F_own_fraction := fn_own_fraction (P := P) (w := w) (base := base) D_own_fraction O_NoRatio F_floor_root F_sign_of F_ratio
  have F_root_between := fn_root_between (P := P) (w := w) (base := base) D_root_between O_NoRatio F_root_order F_own_fraction F_fraction_within
  have F_law_root := fn_law_root (P := P) (w := w) (base := base) D_law_root
  have F_law_side := fn_law_side (P := P) (w := w) (base := base) D_law_side T
  have F_law_sign := fn_law_sign (P := P) (w := w) (base := base) D_law_sign F_law_root F_law_side T
  have F_law_single := fn_law_single (P := P) (w := w) (base := base) D_law_single
  have F_law_order := fn_law_order (P := P) (w := w) (base := base) D_law_order F_law_sign
  have F_law_beside := fn_law_beside (P := P) (w := w) (base := base) D_law_beside F_law_side F_law_root T
  have F_law_pair := fn_law_pair (P := P) (w := w) (base := base) D_law_pair F_law_numbers F_law_single F_law_beside
  have F_law_common := fn_law_common (P := P) (w := w) (base := base) D_law_common
  have F_law_lowest := fn_law_lowest (P := P) (w := w) (base := base) D_law_lowest F_law_whole F_law_common T
  have F_law_is_that := fn_law_is_that (P := P) (w := w) (base := base) D_law_is_that F_law_root T
  have F_law_parted := fn_law_parted (P := P) (w := w) (base := base) D_law_parted F_root_between F_law_lowest F_law_order T
  exact fn_law D_law F_law_pair F_law_order F_law_parted F_root_between F_law_lowest F_law_root F_law_is_that T
end K6
end
open PySem PySem.W PyProof.Rows
set_option maxRecDepth 100000 in
set_option maxHeartbeats 0 in
theorem PySem.Challenge.cw_oneleash_k06_whole_roots_parted_holds : PySem.Challenge.rw_oneleash_k06_whole_roots_parted.Holds := by
  w_on; o_law
  refine holds_open (q := K6.hView) (loose := K6.hLoose) (Xt := fun _ => true) (XP := fun _ _ => True) (Yf := Hook.obs (Hd.hook K6.hFacts K6.hGood)) (Ya := Hook.val (Hd.hook K6.hFacts K6.hGood)) (YP := Hook.says (Hd.hook K6.hFacts K6.hGood)) (N := 100000) K6.hLeft (Hook.of _) (Hook.keeps _) (fun _ _ => trivial) (fun _ _ _ _ _ => trivial) (by rfl) (by rfl) (by rfl) (fun _ _ => recFacts_nil rfl) (by rfl) (by first | assumption | decide +kernel) (by decide +kernel) ⟨rfl,rfl,rfl,rfl,rfl,by decide +kernel⟩ ?hw ?hc
  case hw => w_witness2
  exact Hd.law_walk (l := PySem.Challenge.rw_oneleash_k06_whole_roots_parted) (k := 7) ⟨rfl,by decide,by decide,rfl⟩ rfl rfl fun K FK w mg fa h KX G hmg => K6.all_of FK KX G hmg
