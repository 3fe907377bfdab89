import PyProof.Rows.All
import Wide.All
import OpenK.AllK
import Wide.FinOn
import Lean
import PyProof.EqAt
import PyProof.EqKinds
import PyProof.TupleCall
import PyProof.ExcArgsOwn
import KE.KTryMore
import PyProof.NsDelKeeps
import PyProof.ConsumeWalk
import PyProof.ZipIter
import PyProof.WalksEnum
import PyProof.EnumMake
import PyProof.NeKinds
import PyProof.CompMap
import PySem.Challenge.RW_oneleash_k23_gates_walked
section
set_option Elab.async false
set_option linter.all false
set_option maxRecDepth 100000
/-! THE HAND LAYER, for ints, bools, texts, own classes, LISTS and tuples (index, slices, in, append, pop ..), calls, loops. Paste it whole ahead of your own text; what your proof does not reach may be deleted. -/
namespace L2
open PySem PySem.Spec PyProof.Rows

/-- a key: an int or a str -/
abbrev Key := Sum Int Str
def keyIs : Key → Value → Bool
  | .inl k, v => Value.isInt k v
  | .inr x, v => Value.isStrOf x v
def keyH (w : World) : Key → Int
  | .inl k => hashInt k
  | .inr x => hashStr w x
theorem keyIs_shape : ∀ {k : Key} {v : Value}, keyIs k v = true → (∃ i t, k = Sum.inl i ∧ v = Value.int i t) ∨ (∃ x t, k = Sum.inr x ∧ v = Value.str x t)
  | .inl i, v, h => by
    obtain ⟨t, e⟩ := Value.isInt_shape (k := i) (v := v) h
    exact .inl ⟨i, t, rfl, e⟩
  | .inr x, v, h => by
    obtain ⟨t, e⟩ := Value.isStrOf_shape (x := x) (v := v) h
    exact .inr ⟨x, t, rfl, e⟩
theorem key_ll (a b : Int) : decide ((Sum.inl a : Key) = Sum.inl b) = (a == b) := by
  by_cases e : a = b
  · subst e; simp
  · have h : ¬ (Sum.inl a : Key) = Sum.inl b := fun q => e (Sum.inl.inj q)
    rw [decide_eq_false h]
    exact (beq_eq_false_iff_ne.mpr e).symm
theorem key_rr (a b : Str) : decide ((Sum.inr a : Key) = Sum.inr b) = decide (a = b) := by
  by_cases e : a = b
  · subst e; simp
  · have h : ¬ (Sum.inr a : Key) = Sum.inr b := fun q => e (Sum.inr.inj q)
    rw [decide_eq_false h, decide_eq_false e]
theorem key_lr (a : Int) (b : Str) : decide ((Sum.inl a : Key) = Sum.inr b) = false := decide_eq_false (fun q => nomatch q)
theorem key_rl (a : Str) (b : Int) : decide ((Sum.inr a : Key) = Sum.inl b) = false := decide_eq_false (fun q => nomatch q)

def mixKind (prog : Program) (w : World) : PySem.KeyKind prog w Key where
  is := keyIs
  hash := keyH w
  inj := fun v a b ha hb => by
    rcases keyIs_shape ha with ⟨i, t, rfl, rfl⟩ | ⟨x, t, rfl, rfl⟩
    · rcases keyIs_shape hb with ⟨j, u, rfl, e⟩ | ⟨y, u, rfl, e⟩
      · injection e with e1 _; rw [e1]
      · exact nomatch e
    · rcases keyIs_shape hb with ⟨j, u, rfl, e⟩ | ⟨y, u, rfl, e⟩
      · exact nomatch e
      · injection e with e1 _; rw [e1]
  byValue := fun k v h => by
    rcases keyIs_shape h with ⟨i, t, rfl, rfl⟩ | ⟨x, t, rfl, rfl⟩ <;> rfl
  pyHash := fun hv h => by
    rcases keyIs_shape hv with ⟨i, t, rfl, rfl⟩ | ⟨x, t, rfl, rfl⟩
    · exact wpAny_pyHash_int h
    · exact wpAny_pyHash_str h
  eqBool := fun hu hv h => by
    rcases keyIs_shape hu with ⟨i, t, rfl, rfl⟩ | ⟨x, t, rfl, rfl⟩
    · rcases keyIs_shape hv with ⟨j, u, rfl, rfl⟩ | ⟨y, u, rfl, rfl⟩
      · rw [key_ll] at h; exact wpAny_eqBool_int h
      · rw [key_lr] at h; exact SeqAt.EqAt.int_str i t y u _ _ _ _ h
    · rcases keyIs_shape hv with ⟨j, u, rfl, rfl⟩ | ⟨y, u, rfl, rfl⟩
      · rw [key_rl] at h; exact SeqAt.EqAt.str_int x t j u _ _ _ _ h
      · rw [key_rr] at h; exact wpAny_eqBool_str h
  «strs» := fun k x t v h => by
    rcases keyIs_shape h with ⟨i, u, rfl, e⟩ | ⟨y, u, rfl, e⟩
    · exact nomatch e
    · injection e with e1 _
      subst e1
      cases v <;> rfl

end L2

namespace L2
open PySem PySem.Spec PyProof.Rows

/-- a value, without the heap -/
inductive V where
  | non | bl (b : Bool) | int (i : Int) | str (x : Str) | byt (b : Array UInt8) | flt (b : UInt64) | ref (a : Addr) | ty (n : String)
  deriving DecidableEq

def RelV : V → Value → Prop
  | .non, u => u = Value.none
  | .bl b, u => u = Value.bool b
  | .int i, u => ∃ t, u = Value.int i t
  | .str x, u => ∃ t, u = Value.str x t
  | .byt b, u => ∃ t, u = Value.bytes b t
  | .flt b, u => ∃ t, u = Value.float b t
  | .ref a, u => u = Value.ref a
  | .ty n, u => u = Value.type n

abbrev Vals : List V → List Value → Prop := Paired RelV
theorem Vals.length {xs : List V} {us : List Value} (r : Vals xs us) : xs.length = us.length := Paired.length r
theorem Vals.get : ∀ {xs : List V} {us : List Value} {i : Nat} {x : V}, Vals xs us → xs[i]? = some x → ∃ u, us[i]? = some u ∧ RelV x u
  | _, _, _, _, .nil, e => by simp at e
  | _, _, 0, _, .cons r _, e => by simp at e; subst e; exact ⟨_, rfl, r⟩
  | _, _, i + 1, x, .cons _ t, e => by
    obtain ⟨u, h1, h2⟩ := Vals.get (i := i) (x := x) t (by simpa using e)
    exact ⟨u, by simpa using h1, h2⟩
theorem Vals.append : ∀ {xs ys : List V} {us ws : List Value}, Vals xs us → Vals ys ws → Vals (xs ++ ys) (us ++ ws)
  | _, _, _, _, .nil, s => s
  | _, _, _, _, .cons r t, s => .cons r (Vals.append t s)
theorem Vals.take : ∀ {xs : List V} {us : List Value} (n : Nat), Vals xs us → Vals (xs.take n) (us.take n)
  | _, _, 0, _ => .nil
  | _, _, _ + 1, .nil => .nil
  | _, _, n + 1, .cons r t => .cons r (Vals.take n t)
theorem Vals.drop : ∀ {xs : List V} {us : List Value} (n : Nat), Vals xs us → Vals (xs.drop n) (us.drop n)
  | _, _, 0, r => r
  | _, _, _ + 1, .nil => .nil
  | _, _, n + 1, .cons _ t => Vals.drop n t
def RelO : Option V → Option Value → Prop
  | some v, some u => RelV v u
  | none, none => True
  | _, _ => False
def KV {κ : Type} : List (κ × V) → List (κ × Value) → Prop := Paired fun (p : κ × V) (q : κ × Value) => p.1 = q.1 ∧ RelV p.2 q.2

/-- a key of a dict (00_mix): an int or a text -/
def kV : Key → V
  | .inl i => .int i
  | .inr x => .str x

/-- what stands at a tracked address -/
inductive HO where
  /-- a list -/
  | lst (xs : List V)
  /-- a tuple (never changes) -/
  | tup (xs : List V)
  /-- a dict whose keys are ints and texts; one whose keys are tuples of ints and texts (the empty one is both) -/
  | dK (kvs : List (Key × V)) | dT (kvs : List (List Key × V))
  /-- a set of ints: its members, its size -/
  | set (S : Int → Bool) (n : Nat)
  /-- an instance of the class at C, its dict at dx, its attributes -/
  | ins (C dx : Addr) (fs : List (Str × V))
  /-- the dict of the instance at x -/
  | own (x : Addr)
  /-- the dict of an exception -/
  | xd (fs : List (Str × V))
  /-- a bound method, f of x -/
  | met (f x : Addr)
  /-- a range object lo, lo + 1, .. below hi -/
  | rng (lo hi : Int)
  /-- a thing that is known to the object (the script; a dict while a loop walks it): read, never written while it is so -/
  | frz (o : Obj) (u : HO)
  /-- a code object's table -/
  | tbl (ps : Array Value)
  /-- any other thing, by what is true of its one object (a def of one's own: SetO a S n := HO.ext fun h => ..) -/
  | ext (φ : Heap → Prop)

abbrev Hp := Addr → Option HO
def upd (H : Hp) (a : Addr) (o : HO) : Hp := fun b => if b = a then some o else H b
theorem upd_same {H : Hp} {a : Addr} {o : HO} : upd H a o a = some o := by unfold upd; rw [if_pos rfl]
theorem upd_ne {H : Hp} {a b : Addr} {o : HO} (h : b ≠ a) : upd H a o b = H b := by unfold upd; rw [if_neg h]
/-- two objects of different content stand apart -/
theorem ne_of {H : Hp} {a b : Addr} {o u : HO} (h : H a = some o) (h' : H b = some u) (d : o ≠ u) : a ≠ b := by
  intro e; subst e; rw [h] at h'; exact d (Option.some.inj h')
theorem ne_of_none {H : Hp} {a b : Addr} {o : HO} (h : H a = some o) (h' : H b = none) : a ≠ b := by
  intro e; subst e; rw [h] at h'; cases h'

section
variable (P : Program) (w : World)
def ObjOk (H : Hp) (h : Heap) (a : Addr) : HO → Prop
  | .lst xs => xs.length ≤ sizeLine ∧ ∃ (its : List Value) (n : Nat), Vals xs its ∧ h.get? a = some { cls := .type "list", data := .seq its.toArray n }
  | .tup xs => xs.length ≤ sizeLine ∧ ∃ its : List Value, Vals xs its ∧ IsTup h a its.toArray
  | .dK kvs => kvs.length ≤ sizeLine ∧ (a == sysModules) = false ∧ ∃ vs, KV kvs vs ∧ h.DictOf (mixKind P w) a vs
  | .dT kvs => kvs.length ≤ sizeLine ∧ (a == sysModules) = false ∧ ∃ xs : List (List Key × Addr × Value),
      Paired (fun (p : List Key × V) (q : List Key × Addr × Value) => p.1 = q.1 ∧ H q.2.1 = some (.tup (p.1.map kV)) ∧ RelV p.2 q.2.2) kvs xs ∧
      ∃ o es ep, h.get? a = some o ∧ o.ExactDict ∧ o.data = .dict es ep ∧ es.toList = xs.map (entryOfKey (tupleKind (mixKind P w))) ∧ (xs.map (·.1)).Nodup
  | .set S n => h.SetOf (intKind P w) a S n
  | .ins C dx fs => H dx = some (.own a) ∧ fs.length ≤ 1000 ∧ dx ≠ a ∧ h.get? a = some (PySem.W.instObj C dx) ∧
      ∃ mA, h.Ns1 dx mA ∧ (∀ f, RelO (fs.lookup f) (mA f)) ∧ PySem.Within mA (fs.map (·.1))
  | .own _ => ∃ o, h.get? a = some o
  | .xd fs => ∃ mA, h.Ns1 a mA ∧ ∀ f, RelO (fs.lookup f) (mA f)
  | .rng lo hi => ∃ t u v, h.get? a = some { cls := .type "range", data := .fields #[.int lo t, .int hi u, .int 1 v] }
  | .frz o u => h.get? a = some o ∧ ObjOk H h a u
  | .tbl ps => h.get? a = some { cls := .none, data := .fields ps }
  | .met f x => h.get? a = some (PySem.W.methodObj (.ref f) (.ref x))
  | .ext φ => φ h ∧ (∃ o, h.get? a = some o) ∧ ∀ h1 h2 : Heap, φ h1 → (∀ o, h1.get? a = some o → h2.get? a = some o) → φ h2
/-- the abstract heap is held -/
def HOk (H : Hp) (h : Heap) : Prop := ∀ a o, H a = some o → ObjOk P w H h a o
end

section
variable {P : Program} {w : World} {H H' : Hp} {h h' : Heap} {a : Addr} {o : HO}
theorem ObjOk.lt (x : ObjOk P w H h a o) : a < h.objs.size := by
  cases o with
  | lst xs => obtain ⟨_, _, _, _, e⟩ := x; exact Heap.lt_size e
  | tup xs => obtain ⟨_, _, _, p⟩ := x; exact p.lt
  | dK kvs => obtain ⟨_, _, _, _, o, _, _, e, _⟩ := x; exact Heap.lt_size e
  | dT kvs => obtain ⟨_, _, _, _, o, _, _, e, _⟩ := x; exact Heap.lt_size e
  | set S n => obtain ⟨o, _, _, _, e, _⟩ := x; exact Heap.lt_size e
  | ins C dx fs => obtain ⟨_, _, _, e, _⟩ := x; exact Heap.lt_size e
  | own y => obtain ⟨_, e⟩ := x; exact Heap.lt_size e
  | xd fs => obtain ⟨_, ⟨_, _, _, e, _⟩, _⟩ := x; exact Heap.lt_size e
  | rng lo hi => obtain ⟨_, _, _, e⟩ := x; exact Heap.lt_size e
  | frz ob u => obtain ⟨e, _⟩ := x; exact Heap.lt_size e
  | tbl ps => exact Heap.lt_size (show h.get? a = some _ from x)
  | met f y => exact Heap.lt_size (show h.get? a = some _ from x)
  | ext φ => obtain ⟨_, ⟨_, e⟩, _⟩ := x; exact Heap.lt_size e
theorem Paired.mapP {α β : Type} {F G : α → β → Prop} : ∀ {l₁ : List α} {l₂ : List β}, Paired F l₁ l₂ → (∀ a b, F a b → G a b) → Paired G l₁ l₂
  | _, _, .nil, _ => .nil
  | _, _, .cons r t, f => .cons (f _ _ r) (Paired.mapP t f)
/-- what an object's description leans on: its own object, its own dict, the tuples -/
theorem ObjOk.stay (x : ObjOk P w H h a o) (k : ∀ b u, (b = a ∨ H b = some (.own a)) → h.get? b = some u → h'.get? b = some u)
    (ho : ∀ b, H b = some (.own a) → H' b = some (.own a)) (ht : ∀ b xs, H b = some (.tup xs) → H' b = some (.tup xs)) : ObjOk P w H' h' a o := by
  induction o with
  | lst xs => obtain ⟨z, its, n, r, e⟩ := x; exact ⟨z, its, n, r, k _ _ (.inl rfl) e⟩
  | tup xs => obtain ⟨z, its, r, ob, e, c⟩ := x; exact ⟨z, its, r, ob, k _ _ (.inl rfl) e, c⟩
  | dK kvs => obtain ⟨z, y, vs, r, ob, es, ep, e, c⟩ := x; exact ⟨z, y, vs, r, ob, es, ep, k _ _ (.inl rfl) e, c⟩
  | dT kvs =>
    obtain ⟨z, y, xs, r, ob, es, ep, e, c⟩ := x
    exact ⟨z, y, xs, Paired.mapP r fun p q z => ⟨z.1, ht _ _ z.2.1, z.2.2⟩, ob, es, ep, k _ _ (.inl rfl) e, c⟩
  | set S n => obtain ⟨ob, es, ep, t, e, c⟩ := x; exact ⟨ob, es, ep, t, k _ _ (.inl rfl) e, c⟩
  | ins C dx fs =>
    obtain ⟨d, z, ne, e, mA, ⟨od, es, ep, e2, c⟩, r⟩ := x
    exact ⟨ho _ d, z, ne, k _ _ (.inl rfl) e, mA, ⟨od, es, ep, k _ _ (.inr d) e2, c⟩, r⟩
  | own y => obtain ⟨ob, e⟩ := x; exact ⟨ob, k _ _ (.inl rfl) e⟩
  | xd fs => obtain ⟨mA, ⟨od, es, ep, e, c⟩, r⟩ := x; exact ⟨mA, ⟨od, es, ep, k _ _ (.inl rfl) e, c⟩, r⟩
  | rng lo hi => obtain ⟨t, u, v, e⟩ := x; exact ⟨t, u, v, k _ _ (.inl rfl) e⟩
  | frz ob u ih => obtain ⟨e, q⟩ := x; exact ⟨k _ _ (.inl rfl) e, ih q⟩
  | tbl ps =>
    have e : h.get? a = some { cls := .none, data := .fields ps } := x
    show h'.get? a = some { cls := .none, data := .fields ps }
    exact k a _ (.inl rfl) e
  | met f y =>
    have e : h.get? a = some (PySem.W.methodObj (.ref f) (.ref y)) := x
    show h'.get? a = some (PySem.W.methodObj (.ref f) (.ref y))
    exact k a _ (.inl rfl) e
  | ext φ => obtain ⟨p, ⟨o, e⟩, st⟩ := x; exact ⟨st _ _ p fun o q => k _ _ (.inl rfl) q, ⟨o, k _ _ (.inl rfl) e⟩, st⟩
theorem HOk.lt (x : HOk P w H h) (e : H a = some o) : a < h.objs.size := (x a o e).lt
theorem HOk.fresh (x : HOk P w H h) (e : h.objs.size ≤ a) : H a = none := by
  cases q : H a with
  | none => rfl
  | some u => exact absurd (Nat.lt_of_lt_of_le (x.lt q) e) (Nat.lt_irrefl _)
/-- every object of the heap is kept -/
theorem HOk.kept (x : HOk P w H h) (k : ∀ b u, h.get? b = some u → h'.get? b = some u) : HOk P w H h' := fun a o e =>
  (x a o e).stay (fun b u _ q => k b u q) (fun _ q => q) fun _ _ q => q
/-- a new object is laid and tracked -/
theorem HOk.laid (x : HOk P w H h) (k : ∀ b u, h.get? b = some u → h'.get? b = some u) (hp : h.objs.size ≤ a) (new : ObjOk P w (upd H a o) h' a o) : HOk P w (upd H a o) h' := fun b u e => by
  have hn := x.fresh hp
  by_cases hb : b = a
  · subst hb; rw [upd_same] at e; cases e; exact new
  · rw [upd_ne hb] at e
    exact (x b u e).stay (fun c v _ q => k c v q) (fun c q => by rw [upd_ne (ne_of_none q hn)]; exact q) fun c xs q => by rw [upd_ne (ne_of_none q hn)]; exact q
end

/-- what may be read as u: it is u, or a known u -/
def Rd (H : Hp) (a : Addr) (u : HO) : Prop := H a = some u ∨ ∃ o, H a = some (.frz o u)
theorem Rd.ok {P : Program} {w : World} {H : Hp} {h : Heap} {a : Addr} {u : HO} (r : Rd H a u) (x : HOk P w H h) : ObjOk P w H h a u := by
  rcases r with r | ⟨o, r⟩
  · exact x a u r
  · obtain ⟨_, q⟩ := x a _ r
    exact q
/-- what may be written -/
def Mut : Option HO → Prop
  | some (.lst _) => True
  | some (.dK _) => True
  | some (.dT _) => True
  | some (.set _ _) => True
  | some (.ins _ _ _) => True
  | some (.ext _) => True
  | _ => False
section
variable {P : Program} {w : World} {H : Hp} {h h' : Heap} {x e : Addr} {o' : HO}
/-- the object at e is changed: x itself, or the dict of the instance x -/
theorem HOk.write (ok : HOk P w H h) (mu : Mut (H x)) (he : e = x ∨ H e = some (.own x)) (k : ∀ b u, b ≠ e → h.get? b = some u → h'.get? b = some u) (heo : ∃ u, h'.get? e = some u)
    (new : ObjOk P w (upd H x o') h' x o') : HOk P w (upd H x o') h' := fun b u q => by
  have nown : ∀ c y, H c = some (.own y) → c ≠ x := fun c y r z => by subst z; rw [r] at mu; exact mu
  have ntup : ∀ c xs, H c = some (.tup xs) → c ≠ x := fun c xs r z => by subst z; rw [r] at mu; exact mu
  by_cases hb : b = x
  · subst hb; rw [upd_same] at q; cases q; exact new
  · rw [upd_ne hb] at q
    by_cases hbe : b = e
    · have q' : H b = some (.own x) := by
        rcases he with z | z
        · exact absurd (hbe.trans z) hb
        · rw [hbe]; exact z
      rw [q] at q'; cases q'
      obtain ⟨v, hv⟩ := heo
      exact ⟨v, by rw [hbe]; exact hv⟩
    · refine (ok b u q).stay (fun c v hc r => k c v ?_ r) (fun c r => by rw [upd_ne (nown c b r)]; exact r) fun c xs r => by rw [upd_ne (ntup c xs r)]; exact r
      rcases hc with rfl | hc
      · exact hbe
      · rintro rfl
        rcases he with z | z
        · exact nown c b hc z
        · rw [hc] at z; cases z; exact hb rfl
end

/-! ### kept unless tracked; of the frames at fs (the callers') the slots may change (an exception that passes writes there); of the records at ex (iterators) nothing is said -/
structure Un (fs ex : List Addr) (H H' : Hp) (h h' : Heap) : Prop where
  keep : ∀ b o, h.get? b = some o → H b = none → b ∉ fs → b ∉ ex → h'.get? b = some o
  slot : ∀ b o, h.get? b = some o → H b = none → b ∈ fs → b ∉ ex → ∃ sl, h'.get? b = some { o with slots := sl }
  free : ∀ b o, h.get? b = some o → H b = none → b ∉ ex → H' b = none
  there : ∀ b o, h.get? b = some o → b ∉ ex → ∃ o', h'.get? b = some o'
  tups : ∀ b xs, H b = some (.tup xs) → H' b = some (.tup xs)
  frzs : ∀ b o u, H b = some (.frz o u) → H' b = some (.frz o u)
  tbls : ∀ b ps, H b = some (.tbl ps) → ∃ more, H' b = some (.tbl (ps ++ more))
section
variable {fs fs' ex ex' : List Addr} {H H1 H2 : Hp} {h h1 h2 h' : Heap} {a x e : Addr} {o : HO}
theorem Un.any (u : Un fs ex H H1 h h1) {b : Addr} {ob : Obj} (q : h.get? b = some ob) (n : H b = none) (hx : b ∉ ex) : ∃ sl, h1.get? b = some { ob with slots := sl } := by
  by_cases hb : b ∈ fs
  · exact u.slot b ob q n hb hx
  · exact ⟨ob.slots, u.keep b ob q n hb hx⟩
theorem Un.kept (k : ∀ b u, h.get? b = some u → h'.get? b = some u) : Un fs ex H H h h' :=
  ⟨fun b ob q _ _ _ => k b ob q, fun b ob q _ _ _ => ⟨ob.slots, k b ob q⟩, fun _ _ _ n _ => n, fun b ob q _ => ⟨ob, k b ob q⟩, fun _ _ q => q, fun _ _ _ q => q, fun _ ps q => ⟨#[], by rw [q]; simp⟩⟩
theorem Un.refl : Un fs ex H H h h := Un.kept fun _ _ q => q
theorem Un.laid (k : ∀ b u, h.get? b = some u → h'.get? b = some u) (hp : h.objs.size ≤ a) (hn : H a = none) : Un fs ex H (upd H a o) h h' where
  keep := fun b u q _ _ _ => k b u q
  slot := fun b u q _ _ _ => ⟨u.slots, k b u q⟩
  free := fun b u q n _ => by rw [upd_ne (Nat.ne_of_lt (Nat.lt_of_lt_of_le (Heap.lt_size q) hp))]; exact n
  there := fun b u q _ => ⟨u, k b u q⟩
  tups := fun b xs q => by rw [upd_ne (ne_of_none q hn)]; exact q
  frzs := fun b u xs q => by rw [upd_ne (ne_of_none q hn)]; exact q
  tbls := fun b ps q => ⟨#[], by rw [upd_ne (ne_of_none q hn), q]; simp⟩
theorem Un.write (mu : Mut (H x)) (he : e = x ∨ H e = some (.own x)) (k : ∀ b u, b ≠ e → h.get? b = some u → h'.get? b = some u) (heo : ∃ u, h'.get? e = some u) : Un fs ex H (upd H x o) h h' := by
  have hx : ∀ b, H b = none → b ≠ x := fun b n z => by subst z; rw [n] at mu; exact mu
  have hb : ∀ b, H b = none → b ≠ e := fun b n z => by
    subst z
    rcases he with r | r
    · exact hx b n r
    · rw [n] at r; cases r
  have hm : ∀ b u, H b = some u → ¬ Mut (some u) → b ≠ x := fun b u q nm z => by subst z; rw [q] at mu; exact nm mu
  refine ⟨fun b u q n _ _ => k b u (hb b n) q, fun b u q n _ _ => ⟨u.slots, k b u (hb b n) q⟩, fun b u q n _ => by rw [upd_ne (hx b n)]; exact n, fun b u q _ => ?_,
    fun b xs q => by rw [upd_ne (hm b _ q fun z => z)]; exact q, fun b u xs q => by rw [upd_ne (hm b _ q fun z => z)]; exact q, fun b ps q => ⟨#[], by rw [upd_ne (hm b _ q fun z => z), q]; simp⟩⟩
  by_cases hbe : b = e
  · subst hbe; exact heo
  · exact ⟨u, k b u hbe q⟩
end

/-! ### the heap without what is tracked -/
def trk (h : Heap) (H : Hp) : List Addr := (List.range h.objs.size).filter fun a => (H a).isSome
def hidT (h : Heap) (H : Hp) : Heap := PySem.W.hideAll h (trk h H)
theorem hidT_size (h : Heap) (H : Hp) : (hidT h H).objs.size = h.objs.size := PySem.W.hideAll_size _ _
theorem hidT_get {h : Heap} {H : Hp} {b : Addr} {o : Obj} (e : h.get? b = some o) (n : H b = none) : (hidT h H).get? b = some o :=
  PySem.W.hideAll_get _ e fun hm => by
    have q : (H b).isSome = true := (List.mem_filter.mp hm).2
    rw [n] at q; simp at q
theorem of_hidT {h : Heap} {H : Hp} {b : Addr} {o : Obj} (e : (hidT h H).get? b = some o) : h.get? b = some o ∧ H b = none := by
  have e' : h.get? b = some o := PySem.W.of_hideAll (trk h H) e
  refine ⟨e', ?_⟩
  cases q : H b with
  | none => rfl
  | some x =>
    have hm : b ∈ trk h H := List.mem_filter.mpr ⟨List.mem_range.mpr (Heap.lt_size e'), by simp [q]⟩
    have z : (hidT h H).get? b = none := PySem.W.hideAll_none (trk h H) hm
    rw [z] at e; cases e

/-! ### OpenK's ledger, filled with every new object but one -/
end L2

namespace L2
open PySem PySem.Spec PyProof.Rows

/-- the module's facts, over the base: the heap at the law's entry without what is tracked there -/
structure Mod (K : PySem.W.Frag) (mg : Str → Option Value) (base : Heap) : Prop where
  kin : K.In base
  glob : base.Ns mainGlobals mg
  blt : ∃ mb, base.Ns builtinsNs mb ∧ ∀ x : Str, x ≠ "__name__" → mb x = bootBuiltins x
  nolimit : base.NoLimit

/-- the context: a def's body (or a comprehension's block) running. base: fixed through the whole law; s₀, H₀: the entry; outer: the frames whose slots others may change (a def's callers); stack: all frames that run;
   ex: iterators that were made ahead of the entry and are walked here (a comprehension's); fn: the names whose cells were made at the entry (a def: all; a comprehension's block: its own); calm: not within an except suite; pn: pins that every state bears; xe: what is wanted of an exception that leaves the code -/
structure Cx where
  prog : Program
  w : World
  K : PySem.W.Frag
  mg : Str → Option Value
  base : Heap
  A : Around
  N : List Str
  s₀ : Shared
  H₀ : Hp
  env : Env
  outer : List Env
  stack : List Env
  ex : List Addr
  fn : Str → Bool
  calm : Bool
  pn : List (Addr × Obj)
  xe : Value → Shared → Prop
/-- the callers' frames -/
def frs (l : List Env) : List Addr := l.filterMap (·.frame)
abbrev Cx.fs (X : Cx) : List Addr := frs X.outer

def Vis (sc : Scope) (x : Str) : Prop := sc.names.lookup x = some .local ∨ sc.names.lookup x = some .cell ∨ sc.names.lookup x = some .free
def Loc (sc : Scope) (x : Str) : Prop := sc.names.lookup x = some .local ∨ sc.names.lookup x = some .cell
def Look (env : Env) (h : Heap) (m : Str → Option Value) (x : Str) (u : Value) : Prop :=
  (env.kindOf x = some .local ∧ m x = some u) ∨ ((env.kindOf x = some .cell ∨ env.kindOf x = some .free) ∧ ∃ c, env.cells.lookup x = some c ∧ h.IsCell c (some u))

structure Cx.Ok (X : Cx) : Prop where
  mod : Mod X.K X.mg X.base
  kind : X.env.scope.kind = .function
  glob : X.env.globals = mainGlobals
  blt : X.env.builtins = builtinsNs
  above : X.s₀.heap.objs.size ≤ X.env.locals
  inj : ∀ x y c, X.env.cells.lookup x = some c → X.env.cells.lookup y = some c → x = y
  has : ∀ x, (X.env.kindOf x = some .cell ∨ X.env.kindOf x = some .free) → ∃ c, X.env.cells.lookup x = some c
  cab : ∀ x c, X.fn x = true → X.env.cells.lookup x = some c → X.s₀.heap.objs.size ≤ c
  hd : X.calm = true → X.A.handled = none
  frames : X.A.frames = some X.stack
  stk : X.stack = X.outer ∨ (X.stack = X.env :: X.outer ∧ X.env.frame = some X.env.locals)
  exf : ∀ b ∈ X.ex, b ≠ X.env.locals ∧ ∀ x c, X.env.cells.lookup x = some c → c ≠ b
  bs : ∀ b o, X.base.get? b = some o → X.s₀.heap.get? b = some o ∧ X.H₀ b = none
  bsz : X.base.objs.size ≤ X.s₀.heap.objs.size
  noex : ∀ b o, X.base.get? b = some o → b ∉ X.ex
  exfs : ∀ b ∈ X.ex, b ∉ X.fs
  funs : X.s₀.heap.FunFrames X.base X.outer
  frf : ∀ b ∈ X.fs, X.H₀ b = none

structure Inv (X : Cx) (pins : List (Addr × Obj)) (σ : List (Option V)) (H : Hp) (s : Shared) : Prop where
  ok : X.Ok
  os : s.os = X.s₀.os
  bare : AllBare s.gens
  base : Un X.fs X.ex X.H₀ H X.s₀.heap s.heap
  loc : ∃ m, s.heap.Ns X.env.locals m ∧ ∀ (i : Nat) (x : Str) (v : V), X.N[i]? = some x → σ[i]? = some (some v) → Vis X.env.scope x → ∃ u, RelV v u ∧ Look X.env s.heap m x u
  cell : ∀ x c, X.env.cells.lookup x = some c → ∃ v, s.heap.IsCell c v
  free : H X.env.locals = none
  freeC : ∀ x c, X.env.cells.lookup x = some c → H c = none
  pin : ∀ p ∈ X.pn ++ pins, s.heap.get? p.1 = some p.2 ∧ H p.1 = none ∧ p.1 ≠ X.env.locals ∧ p.1 ∉ X.fs ∧ ∀ v, p.2.data ≠ .cell v
  hok : HOk X.prog X.w H s.heap
  len : σ.length = X.N.length

section
variable {X : Cx} {pins : List (Addr × Obj)} {σ : List (Option V)} {H H' : Hp} {s : Shared} {h' : Heap}

theorem Cx.Ok.nofr (ok : X.Ok) {b : Addr} {o : Obj} (e : X.base.get? b = some o) : b ∉ X.fs := fun hb => by
  have := (ok.funs.mem hb).1
  rw [e] at this; cases this
theorem Inv.bs (I : Inv X pins σ H s) : ∀ b o, X.base.get? b = some o → s.heap.get? b = some o ∧ H b = none := fun b o e =>
  ⟨I.base.keep b o (I.ok.bs b o e).1 (I.ok.bs b o e).2 (I.ok.nofr e) (I.ok.noex b o e), I.base.free b o (I.ok.bs b o e).1 (I.ok.bs b o e).2 (I.ok.noex b o e)⟩
theorem Inv.bk (I : Inv X pins σ H s) : ∀ b o, X.base.get? b = some o → s.heap.get? b = some o := fun b o e => (I.bs b o e).1
theorem Inv.mod (I : Inv X pins σ H s) : Mod X.K X.mg X.base := I.ok.mod
theorem Inv.kIn (I : Inv X pins σ H s) : X.K.In s.heap := I.ok.mod.kin.keeps I.bk
theorem Inv.lt (I : Inv X pins σ H s) : X.env.locals < s.heap.objs.size := let ⟨_, hn, _⟩ := I.loc; hn.lt
theorem Inv.sz (I : Inv X pins σ H s) : X.s₀.heap.objs.size ≤ s.heap.objs.size := Nat.le_trans I.ok.above (Nat.le_of_lt I.lt)
theorem Inv.nofs (I : Inv X pins σ H s) {a : Addr} (h : s.heap.objs.size ≤ a) : a ∉ X.fs := fun hb => by
  obtain ⟨_, o, ho, _⟩ := I.ok.funs.mem hb
  exact absurd (Nat.lt_of_lt_of_le (Heap.lt_size ho) (Nat.le_trans I.sz h)) (Nat.lt_irrefl _)
theorem Inv.cne (I : Inv X pins σ H s) : ∀ x c, X.env.cells.lookup x = some c → c ≠ X.env.locals := fun x c e z => by
  obtain ⟨v, o, ho, hd⟩ := I.cell x c e
  obtain ⟨m, ⟨o', es, ep, ho', hd', _⟩, _⟩ := I.loc
  rw [z, ho'] at ho; cases ho; rw [hd'] at hd; cases hd
theorem Inv.funs (I : Inv X pins σ H s) : s.heap.FunFrames X.base X.outer := by
  have all : ∀ (l : List Env), (∀ b ∈ frs l, b ∈ X.fs) → X.s₀.heap.FunFrames X.base l → s.heap.FunFrames X.base l := by
    intro l
    induction l with
    | nil => intro _ _; trivial
    | cons env r ih =>
      intro hs hl
      obtain ⟨hk, ⟨L, o, hf, hn, ho, hd⟩, hr⟩ := hl
      have hL : L ∈ X.fs := hs L (by unfold frs; rw [List.filterMap_cons, hf]; exact List.mem_cons_self)
      obtain ⟨sl, e⟩ := I.base.slot L o ho (I.ok.frf L hL) hL fun z => I.ok.exfs L z hL
      exact ⟨hk, ⟨L, _, hf, hn, e, hd⟩, ih (fun b hb => hs b (by unfold frs; rw [List.filterMap_cons, hf]; exact List.mem_cons_of_mem _ hb)) hr⟩
  exact all X.outer (fun _ hb => hb) I.ok.funs

/-- the frames that run, for a call -/
theorem Inv.stack (I : Inv X pins σ H s) : s.heap.FunFrames X.base X.stack := by
  rcases I.ok.stk with e | ⟨e, hf⟩
  · rw [e]; exact I.funs
  · rw [e]
    obtain ⟨m, hn, _⟩ := I.loc
    refine .cons (by rw [I.ok.kind]; decide) hf hn ?_ I.funs
    exact Heap.get?_none_of_le (Nat.le_trans I.ok.bsz I.ok.above)
theorem Inv.stkSub (I : Inv X pins σ H s) : ∀ b ∈ frs X.stack, b ∈ X.env.locals :: X.fs := fun b hb => by
  rcases I.ok.stk with e | ⟨e, hf⟩
  · rw [e] at hb; exact List.mem_cons_of_mem _ hb
  · rw [e] at hb
    unfold frs at hb
    rw [List.filterMap_cons, hf] at hb
    exact hb
theorem Inv.stkFree (I : Inv X pins σ H s) : ∀ b ∈ frs X.stack, H b = none := fun b hb => by
  rcases List.mem_cons.mp (I.stkSub b hb) with e | hb
  · rw [e]; exact I.free
  · obtain ⟨_, o, ho, _⟩ := I.ok.funs.mem hb
    exact I.base.free b o ho (I.ok.frf b hb) fun z => I.ok.exfs b z hb

/-- THE STEP: the untracked objects but the frame and the records at ch are kept (the callers' frames up to slots), the frame's map is kept, the new abstract heap is held -/
theorem Inv.step {g' : Array GenState} {t' : Nat} {d' : Drawn} {ch : List Addr} (I : Inv X pins σ H s)
    (hch : ∀ b ∈ ch, (b ∈ X.ex ∨ X.s₀.heap.objs.size ≤ b) ∧ b ≠ X.env.locals ∧ (∀ x c, X.env.cells.lookup x = some c → c ≠ b) ∧ ∀ p ∈ X.pn ++ pins, p.1 ≠ b)
    (keep : ∀ b o, b ≠ X.env.locals → b ∉ X.fs → b ∉ ch → s.heap.get? b = some o → H b = none → h'.get? b = some o)
    (slot : ∀ b o, b ≠ X.env.locals → b ∈ X.fs → b ∉ ch → s.heap.get? b = some o → H b = none → ∃ sl, h'.get? b = some { o with slots := sl }) (free : ∀ b o, b ∉ ch → s.heap.get? b = some o → H b = none → H' b = none)
    (there : ∀ b o, b ∉ ch → s.heap.get? b = some o → ∃ o', h'.get? b = some o')
    (tups : ∀ b xs, H b = some (.tup xs) → H' b = some (.tup xs)) (frzs : ∀ b o u, H b = some (.frz o u) → H' b = some (.frz o u)) (tbls : ∀ b ps, H b = some (.tbl ps) → ∃ more, H' b = some (.tbl (ps ++ more)))
    (ns : ∀ m, s.heap.Ns X.env.locals m → h'.Ns X.env.locals m) (hok : HOk X.prog X.w H' h') (hg : AllBare g') :
    Inv X pins σ H' { s with heap := h', gens := g', drawn := d', toks := t' } := by
  have neL : ∀ b o, X.s₀.heap.get? b = some o → b ≠ X.env.locals := fun b o e => Nat.ne_of_lt (Nat.lt_of_lt_of_le (Heap.lt_size e) I.ok.above)
  have neC : ∀ b o, X.s₀.heap.get? b = some o → b ∉ X.ex → b ∉ ch := fun b o e hx hb => by
    rcases (hch b hb).1 with z | z
    · exact hx z
    · exact absurd (Nat.lt_of_lt_of_le (Heap.lt_size e) z) (Nat.lt_irrefl _)
  have cellK : ∀ x c, X.env.cells.lookup x = some c → ∀ v, s.heap.IsCell c v → h'.IsCell c v := fun x c e v ⟨o, ho, hd⟩ => by
    have nch : c ∉ ch := fun z => (hch c z).2.2.1 x c e rfl
    by_cases hc : c ∈ X.fs
    · obtain ⟨sl, q⟩ := slot c o (I.cne x c e) hc nch ho (I.freeC x c e)
      exact ⟨_, q, hd⟩
    · exact ⟨o, keep c o (I.cne x c e) hc nch ho (I.freeC x c e), hd⟩
  refine ⟨I.ok, I.os, hg, ⟨fun b o e n hb hx => ?_, fun b o e n hb hx => ?_, fun b o e n hx => ?_, fun b o e hx => ?_, fun b xs e => tups b xs (I.base.tups b xs e), fun b o xs e => frzs b o xs (I.base.frzs b o xs e), fun b ps e => ?_⟩, ?_, fun x c e => ?_, ?_, fun x c e => ?_, fun p hp => ?_, hok, I.len⟩
  · exact keep b o (neL b o e) hb (neC b o e hx) (I.base.keep b o e n hb hx) (I.base.free b o e n hx)
  · obtain ⟨sl, e1⟩ := I.base.slot b o e n hb hx
    obtain ⟨sl', e2⟩ := slot b _ (neL b o e) hb (neC b o e hx) e1 (I.base.free b o e n hx)
    exact ⟨sl', e2⟩
  · obtain ⟨o', e1⟩ := I.base.there b o e hx
    exact free b o' (neC b o e hx) e1 (I.base.free b o e n hx)
  · obtain ⟨o', e1⟩ := I.base.there b o e hx
    exact there b o' (neC b o e hx) e1
  · obtain ⟨m1, e1⟩ := I.base.tbls b ps e
    obtain ⟨m2, e2⟩ := tbls b _ e1
    exact ⟨m1 ++ m2, by rw [e2, Array.append_assoc]⟩
  · obtain ⟨m, hn, hl⟩ := I.loc
    refine ⟨m, ns m hn, fun i x v e1 e2 e3 => ?_⟩
    obtain ⟨u, r, l⟩ := hl i x v e1 e2 e3
    refine ⟨u, r, ?_⟩
    rcases l with l | ⟨k, c, e, z⟩
    · exact .inl l
    · exact .inr ⟨k, c, e, cellK x c e _ z⟩
  · obtain ⟨v, z⟩ := I.cell x c e
    exact ⟨v, cellK x c e v z⟩
  · obtain ⟨m, ⟨o, _, _, ho, _⟩, _⟩ := I.loc
    exact free _ o (fun z => (hch _ z).2.1 rfl) ho I.free
  · obtain ⟨v, o, ho, hd⟩ := I.cell x c e
    exact free c o (fun z => (hch c z).2.2.1 x c e rfl) ho (I.freeC x c e)
  · obtain ⟨e, n, ne, nf, d⟩ := I.pin p hp
    have nch : p.1 ∉ ch := fun z => (hch p.1 z).2.2.2 p hp rfl
    exact ⟨keep p.1 p.2 ne nf nch e n, free p.1 p.2 nch e n, ne, nf, d⟩
/-- .. where the frame's own object is kept too -/
theorem Inv.un {t' : Nat} (I : Inv X pins σ H s) (u : Un X.fs [] H H' s.heap h') (hok : HOk X.prog X.w H' h') : Inv X pins σ H' { s with heap := h', toks := t' } := by
  obtain ⟨m, ⟨o, es, ep, ho, r⟩, _⟩ := id I.loc
  obtain ⟨sl, hL⟩ := u.any ho I.free (by simp)
  exact I.step (g' := s.gens) (d' := s.drawn) (ch := []) (fun _ z => nomatch z) (fun b o _ hb _ e n => u.keep b o e n hb (by simp)) (fun b o _ hb _ e n => u.slot b o e n hb (by simp)) (fun b o _ e n => u.free b o e n (by simp)) (fun b o _ e => u.there b o e (by simp)) u.tups u.frzs u.tbls (fun m' hm => by
    obtain ⟨o', es', ep', ho', r'⟩ := hm
    rw [ho] at ho'; cases ho'
    exact ⟨_, es', ep', hL, r'⟩) hok I.bare
/-- behind a call (or a comprehension's block): the slots of this frame may have changed too, the records at ch may have turned -/
theorem Inv.call {g' : Array GenState} {t' : Nat} {d' : Drawn} {ch : List Addr} (I : Inv X pins σ H s) (u : Un (frs X.stack) ch H H' s.heap h') (hok : HOk X.prog X.w H' h') (hg : AllBare g')
    (hch : ∀ b ∈ ch, (b ∈ X.ex ∨ X.s₀.heap.objs.size ≤ b) ∧ b ≠ X.env.locals ∧ (∀ x c, X.env.cells.lookup x = some c → c ≠ b) ∧ ∀ p ∈ X.pn ++ pins, p.1 ≠ b) :
    Inv X pins σ H' { s with heap := h', gens := g', drawn := d', toks := t' } := by
  obtain ⟨m, ⟨o, es, ep, ho, r⟩, _⟩ := id I.loc
  obtain ⟨sl, hL⟩ := u.any ho I.free fun z => (hch _ z).2.1 rfl
  exact I.step (ch := ch) hch (fun b o hL hb hc e n => u.keep b o e n (fun z => (List.mem_cons.mp (I.stkSub b z)).elim hL hb) hc) (fun b o _ _ hc e n => u.any e n hc) (fun b o hc e n => u.free b o e n hc) (fun b o hc e => u.there b o e hc) u.tups u.frzs u.tbls (fun m' hm => by
    obtain ⟨o', es', ep', ho', r'⟩ := hm
    rw [ho] at ho'; cases ho'
    exact ⟨_, es', ep', hL, r'⟩) hok hg
/-- an untracked record of ours (an iterator) has turned -/
theorem Inv.turned {t' : Nat} {it : Addr} (I : Inv X pins σ H s) (k : ∀ b o, b ≠ it → s.heap.get? b = some o → h'.get? b = some o) (hn : H it = none) (hL : it ≠ X.env.locals)
    (h1 : it ∈ X.ex ∨ X.s₀.heap.objs.size ≤ it) (h2 : ∀ x c, X.env.cells.lookup x = some c → c ≠ it) (h3 : ∀ p ∈ X.pn ++ pins, p.1 ≠ it) : Inv X pins σ H { s with heap := h', toks := t' } := by
  have nit : ∀ b u, H b = some u → b ≠ it := fun b u e z => by rw [z, hn] at e; cases e
  refine I.step (g' := s.gens) (d' := s.drawn) (ch := [it]) (fun b hb => ?_) (fun b o _ _ hc e _ => k b o (fun z => hc (by simp [z])) e) (fun b o _ _ hc e _ => ⟨o.slots, k b o (fun z => hc (by simp [z])) e⟩) (fun _ _ _ _ n => n)
    (fun b o hc e => ⟨o, k b o (fun z => hc (by simp [z])) e⟩) (fun _ _ e => e) (fun _ _ _ e => e) (fun b ps e => ⟨#[], by rw [e]; simp⟩) (fun m hm => ?_) (fun b u e => ?_) I.bare
  · have e : b = it := by simpa using hb
    subst e
    exact ⟨h1, hL, h2, h3⟩
  · obtain ⟨o, es, ep, ho, r⟩ := hm
    exact ⟨o, es, ep, k _ o (Ne.symm hL) ho, r⟩
  · refine (I.hok b u e).stay (fun c v hc q => k c v ?_ q) (fun _ q => q) fun _ _ q => q
    rcases hc with z | z
    · rw [z]; exact nit b u e
    · exact nit c _ z
theorem Inv.tok (I : Inv X pins σ H s) (t : Nat) : Inv X pins σ H { s with toks := t } := I.un (h' := s.heap) (t' := t) Un.refl I.hok
/-- all objects kept -/
theorem Inv.kept {t' : Nat} (I : Inv X pins σ H s) (k : ∀ b u, s.heap.get? b = some u → h'.get? b = some u) : Inv X pins σ H { s with heap := h', toks := t' } := I.un (Un.kept k) (I.hok.kept k)
/-- a new object laid and tracked -/
theorem Inv.laid {a : Addr} {o : HO} {t' : Nat} (I : Inv X pins σ H s) (k : ∀ b u, s.heap.get? b = some u → h'.get? b = some u) (hp : s.heap.objs.size ≤ a) (new : ObjOk X.prog X.w (upd H a o) h' a o) :
    Inv X pins σ (upd H a o) { s with heap := h', toks := t' } := I.un (Un.laid k hp (I.hok.fresh hp)) (I.hok.laid k hp new)
/-- an object written -/
theorem Inv.write {x e : Addr} {o : HO} {t' : Nat} (I : Inv X pins σ H s) (mu : Mut (H x)) (he : e = x ∨ H e = some (.own x)) (k : ∀ b u, b ≠ e → s.heap.get? b = some u → h'.get? b = some u) (heo : ∃ u, h'.get? e = some u)
    (new : ObjOk X.prog X.w (upd H x o) h' x o) : Inv X pins σ (upd H x o) { s with heap := h', toks := t' } := I.un (Un.write mu he k heo) (I.hok.write mu he k heo new)
theorem Inv.pins_of {pins' : List (Addr × Obj)} (I : Inv X pins σ H s) (h : ∀ p ∈ pins', s.heap.get? p.1 = some p.2 ∧ H p.1 = none ∧ p.1 ≠ X.env.locals ∧ p.1 ∉ X.fs ∧ ∀ v, p.2.data ≠ .cell v) : Inv X pins' σ H s :=
  ⟨I.ok, I.os, I.bare, I.base, I.loc, I.cell, I.free, I.freeC, fun p hp => (List.mem_append.mp hp).elim (fun z => I.pin p (List.mem_append_left _ z)) (h p), I.hok, I.len⟩

theorem nodup_ix {N : List Str} (hN : N.Nodup) {i j : Nat} {x : Str} (a : N[i]? = some x) (b : N[j]? = some x) : i = j := by
  obtain ⟨h1, e1⟩ := List.getElem?_eq_some_iff.mp a
  obtain ⟨h2, e2⟩ := List.getElem?_eq_some_iff.mp b
  exact (List.getElem_inj hN).mp (e1.trans e2.symm)

/-- a name is stored; what changed -/
theorem store_ok2 {M : Model} {A : Around} {E : Value → Shared → Prop} {i : Nat} {x : Str} {v : V} {u : Value} {Q : Unit → Shared → Prop} (I : Inv X pins σ H s) (hN : X.N.Nodup) (hi : X.N[i]? = some x) (hx : Loc X.env.scope x) (r : RelV v u)
    (h : ∀ s', Inv X pins (σ.set i (some v)) H s' → (∃ a, Heap.SameBut a s.heap s'.heap ∧ (a = X.env.locals ∨ X.env.cells.lookup x = some a)) → Q () s') (hf : X.fn x = true ∨ X.env.scope.names.lookup x = some .local := by first | exact .inl rfl | exact .inr rfl | assumption) : wpAny M A (storeName X.env x u) Q E s := by
  obtain ⟨m, hn, hl⟩ := id I.loc
  have hcls : (X.env.scope.kind == .class || (X.env.scope.kind == .module && X.env.locals != X.env.globals)) = false := by rw [I.ok.kind]; rfl
  have hiσ : i < σ.length := by rw [I.len]; exact (List.getElem?_eq_some_iff.mp hi).1
  have cne := I.cne
  have tracked : ∀ {a : Addr} {h' : Heap}, (∃ o, s.heap.get? a = some o ∧ H a = none) → Heap.SameBut a s.heap h' → HOk X.prog X.w H h' := fun {a h'} ha hs b ob e => by
    obtain ⟨_, _, hfree⟩ := ha
    refine (I.hok b ob e).stay (fun c w' hc q => (hs.2 c ?_).trans q) (fun _ q => q) fun _ _ q => q
    rintro rfl
    rcases hc with rfl | hc
    · rw [hfree] at e; cases e
    · rw [hfree] at hc; cases hc
  rcases hx with hk | hk
  · refine wpAny_storeName_local hk hn (fun h' hn' hs => ?_) hcls
    obtain ⟨oL, _, _, hoL, _⟩ := id hn
    refine h _ ⟨I.ok, I.os, I.bare, ⟨fun b o e n hb hx => ?_, fun b o e n hb hx => ?_, I.base.free, fun b o e hx => ?_, I.base.tups, I.base.frzs, I.base.tbls⟩, ⟨_, hn', fun j y v' e1 e2 e3 => ?_⟩, fun y c e => ?_, I.free, I.freeC, fun p hp => ?_, tracked ⟨oL, hoL, I.free⟩ hs, by simpa using I.len⟩ ⟨_, hs, .inl rfl⟩
    · exact (hs.2 b (Nat.ne_of_lt (Nat.lt_of_lt_of_le (Heap.lt_size e) I.ok.above))).trans (I.base.keep b o e n hb hx)
    · obtain ⟨sl, e1⟩ := I.base.slot b o e n hb hx
      exact ⟨sl, (hs.2 b (Nat.ne_of_lt (Nat.lt_of_lt_of_le (Heap.lt_size e) I.ok.above))).trans e1⟩
    · obtain ⟨o', e1⟩ := I.base.there b o e hx
      exact ⟨o', (hs.2 b (Nat.ne_of_lt (Nat.lt_of_lt_of_le (Heap.lt_size e) I.ok.above))).trans e1⟩
    · by_cases hj : j = i
      · subst hj
        rw [hi] at e1; cases e1
        rw [List.getElem?_set_self hiσ] at e2
        cases e2
        exact ⟨u, r, .inl ⟨hk, by simp⟩⟩
      · rw [List.getElem?_set_ne (Ne.symm hj)] at e2
        obtain ⟨u', r', q⟩ := hl j y v' e1 e2 e3
        refine ⟨u', r', ?_⟩
        rcases q with ⟨k, e⟩ | ⟨k, c, e, z⟩
        · refine .inl ⟨k, ?_⟩
          have : y ≠ x := fun e => hj (nodup_ix hN e1 (e ▸ hi))
          simp [this, e]
        · exact .inr ⟨k, c, e, z.sameBut hs (cne y c e)⟩
    · obtain ⟨w', z⟩ := I.cell y c e
      exact ⟨w', z.sameBut hs (cne y c e)⟩
    · obtain ⟨e, n, ne, nf, d⟩ := I.pin p hp
      exact ⟨(hs.2 p.1 ne).trans e, n, ne, nf, d⟩
  · have hfn : X.fn x = true := by
      rcases hf with z | z
      · exact z
      · rw [z] at hk; cases hk
    obtain ⟨c, hc⟩ := I.ok.has x (.inl hk)
    obtain ⟨w', z⟩ := I.cell x c hc
    refine wpAny_storeName_cell I.ok.kind hk hc z (fun h' hc' hs => ?_)
    obtain ⟨oc, hoc, hocd⟩ := id z
    refine h { s with heap := h' } ⟨I.ok, I.os, I.bare, ⟨fun b o e n hb hx => ?_, fun b o e n hb hx => ?_, I.base.free, fun b o e hx => ?_, I.base.tups, I.base.frzs, I.base.tbls⟩, ⟨m, hn.sameBut hs (Ne.symm (cne x c hc)), fun j y v' e1 e2 e3 => ?_⟩, fun y c' e => ?_, I.free, I.freeC, fun p hp => ?_, tracked ⟨oc, hoc, I.freeC x c hc⟩ hs, by simpa using I.len⟩ ⟨c, hs, .inr hc⟩
    · exact (hs.2 b (Nat.ne_of_lt (Nat.lt_of_lt_of_le (Heap.lt_size e) (I.ok.cab x c hfn hc)))).trans (I.base.keep b o e n hb hx)
    · obtain ⟨sl, e1⟩ := I.base.slot b o e n hb hx
      exact ⟨sl, (hs.2 b (Nat.ne_of_lt (Nat.lt_of_lt_of_le (Heap.lt_size e) (I.ok.cab x c hfn hc)))).trans e1⟩
    · obtain ⟨o', e1⟩ := I.base.there b o e hx
      exact ⟨o', (hs.2 b (Nat.ne_of_lt (Nat.lt_of_lt_of_le (Heap.lt_size e) (I.ok.cab x c hfn hc)))).trans e1⟩
    · by_cases hj : j = i
      · subst hj
        rw [hi] at e1; cases e1
        rw [List.getElem?_set_self hiσ] at e2
        cases e2
        exact ⟨u, r, .inr ⟨.inl hk, c, hc, hc'⟩⟩
      · rw [List.getElem?_set_ne (Ne.symm hj)] at e2
        obtain ⟨u', r', q⟩ := hl j y v' e1 e2 e3
        refine ⟨u', r', ?_⟩
        rcases q with q | ⟨k, c', e, z'⟩
        · exact .inl q
        · refine .inr ⟨k, c', e, z'.sameBut hs ?_⟩
          rintro rfl
          exact hj (nodup_ix hN e1 (I.ok.inj _ _ _ e hc ▸ hi))
    · by_cases hcc : c' = c
      · subst hcc; exact ⟨_, hc'⟩
      · obtain ⟨w2, z2⟩ := I.cell y c' e
        exact ⟨w2, z2.sameBut hs hcc⟩
    · obtain ⟨e, n, ne, nf, d⟩ := I.pin p hp
      refine ⟨(hs.2 p.1 ?_).trans e, n, ne, nf, d⟩
      intro q
      rw [q, hoc] at e
      have q' : oc = p.2 := Option.some.inj e
      exact d w' (by rw [← q']; exact hocd)
theorem store_ok {M : Model} {A : Around} {E : Value → Shared → Prop} {i : Nat} {x : Str} {v : V} {u : Value} {Q : Unit → Shared → Prop} (I : Inv X pins σ H s) (hN : X.N.Nodup) (hi : X.N[i]? = some x) (hx : Loc X.env.scope x) (r : RelV v u)
    (h : ∀ s', Inv X pins (σ.set i (some v)) H s' → Q () s') (hf : X.fn x = true ∨ X.env.scope.names.lookup x = some .local := by first | exact .inl rfl | exact .inr rfl | assumption) : wpAny M A (storeName X.env x u) Q E s :=
  store_ok2 I hN hi hx r (fun s' I' _ => h s' I') hf
/-- behind a call or a block, the state as it is -/
theorem Inv.call' {s' : Shared} {ch : List Addr} (I : Inv X pins σ H s) (ho : s'.os = s.os) (u : Un (frs X.stack) ch H H' s.heap s'.heap) (hok : HOk X.prog X.w H' s'.heap) (hg : AllBare s'.gens)
    (hch : ∀ b ∈ ch, (b ∈ X.ex ∨ X.s₀.heap.objs.size ≤ b) ∧ b ≠ X.env.locals ∧ (∀ x c, X.env.cells.lookup x = some c → c ≠ b) ∧ ∀ p ∈ X.pn ++ pins, p.1 ≠ b) : Inv X pins σ H' s' := by
  obtain ⟨h', g', d', t', o'⟩ := s'
  have e : o' = s.os := ho
  subst e
  exact I.call (g' := g') (t' := t') (d' := d') u hok hg hch
end

/-! ### the judgements -/
/-- an exception: its class, its own dict's address (where it has one), the abstract heap behind it -/
abbrev XK := Value → Option Addr → Hp → Prop
abbrev St := List (Option V)
abbrev VK := V → Hp → Prop
/-- an expression's reading; a test's; an argument list's -/
abbrev TE := St → Hp → VK → Prop
abbrev TT := St → Hp → (Bool → Hp → Prop) → Prop
abbrev TA := St → Hp → (List V → Hp → Prop) → Prop
/-- what is wanted behind a statement -/
structure Ends where
  nx : St → Hp → Prop
  rt : VK
  bk : St → Hp → Prop := fun _ _ => False
  ct : St → Hp → Prop := fun _ _ => False
abbrev TS := Ends → St → Hp → Prop

def EP (X : Cx) (pins : List (Addr × Obj)) (σ : St) (Q : VK) (u : Value) (s' : Shared) : Prop := ∃ v H', Inv X pins σ H' s' ∧ RelV v u ∧ Q v H'
def TP (X : Cx) (pins : List (Addr × Obj)) (σ : St) (Q : Bool → Hp → Prop) (b : Bool) (s' : Shared) : Prop := ∃ H', Inv X pins σ H' s' ∧ Q b H'
def AP (X : Cx) (pins : List (Addr × Obj)) (σ : St) (Q : List V → Hp → Prop) (us : List Value) (s' : Shared) : Prop := ∃ vs H', Inv X pins σ H' s' ∧ Vals vs us ∧ Q vs H'
def SP (X : Cx) (pins : List (Addr × Obj)) (D : Ends) (f : Flow) (s' : Shared) : Prop :=
  match f with
  | .next => ∃ σ' H', Inv X pins σ' H' s' ∧ D.nx σ' H'
  | .brk => ∃ σ' H', Inv X pins σ' H' s' ∧ D.bk σ' H'
  | .cont => ∃ σ' H', Inv X pins σ' H' s' ∧ D.ct σ' H'
  | .ret u => ∃ v σ' H', Inv X pins σ' H' s' ∧ RelV v u ∧ D.rt v H'

def PE (X : Cx) (e : Expr) (t : TE) : Prop :=
  ∀ (pins : List (Addr × Obj)) (s : Shared) (σ : St) (H : Hp) (Q : VK), Inv X pins σ H s → t σ H Q → wpAny (model X.prog X.w) X.A (eval e X.env) (EP X pins σ Q) X.xe s
def PT (X : Cx) (e : Expr) (t : TT) : Prop :=
  ∀ (pins : List (Addr × Obj)) (s : Shared) (σ : St) (H : Hp) (Q : Bool → Hp → Prop), Inv X pins σ H s → t σ H Q → wpAny (model X.prog X.w) X.A (isTrue e X.env (eval e X.env)) (TP X pins σ Q) X.xe s
/-- a test whatever its 'whole' is (and, or) -/
def PW (X : Cx) (e : Expr) (t : TT) : Prop :=
  ∀ (whole : Sem Value) (pins : List (Addr × Obj)) (s : Shared) (σ : St) (H : Hp) (Q : Bool → Hp → Prop), Inv X pins σ H s → t σ H Q → wpAny (model X.prog X.w) X.A (isTrue e X.env whole) (TP X pins σ Q) X.xe s
theorem PW.pt {X : Cx} {e : Expr} {t : TT} (h : PW X e t) : PT X e t := h _
/-- an argument list (no star), from the left -/
def PA (X : Cx) (es : List Expr) (t : TA) : Prop :=
  ∀ (pos : Pos) (pins : List (Addr × Obj)) (s : Shared) (σ : St) (H : Hp) (Q : List V → Hp → Prop), Inv X pins σ H s → t σ H Q → wpAny (model X.prog X.w) X.A (spliced (backTo pos (starEach es X.env))) (AP X pins σ Q) X.xe s
def PS (X : Cx) (st : Stmt) (t : TS) : Prop :=
  ∀ (pins : List (Addr × Obj)) (s : Shared) (σ : St) (H : Hp) (D : Ends), Inv X pins σ H s → t D σ H → wpAny (model X.prog X.w) X.A (exec st X.env) (SP X pins D) X.xe s
def PSs (X : Cx) (st : List Stmt) (t : TS) : Prop :=
  ∀ (pins : List (Addr × Obj)) (s : Shared) (σ : St) (H : Hp) (D : Ends), Inv X pins σ H s → t D σ H → wpAny (model X.prog X.w) X.A (execs st X.env) (SP X pins D) X.xe s
/-- weaken the end -/
theorem thn {α : Type} {t : Sem α} {Q Q' : α → Shared → Prop} {M : Model} {A : Around} {E : Value → Shared → Prop} {s : Shared} (h : wpAny M A t Q E s) (hQ : ∀ a s, Q a s → Q' a s) : wpAny M A t Q' E s := wpAny_mono h hQ fun _ _ x => x
end L2

namespace L2
open PySem PySem.Spec PyProof.Rows
section
variable {X : Cx}

/-! ### names and constants -/
def tVar (i : Nat) : TE := fun σ H Q => ∃ v, σ[i]? = some (some v) ∧ Q v H
def tC (v : V) : TE := fun _ H Q => Q v H
theorem pe_var {i : Nat} {x : Str} {pos : Pos} (hN : X.N[i]? = some x) (hv : Vis X.env.scope x) (hd : (x == ("__debug__" : Str)) = false := by decide) (hcd : (x == ("__classdict__" : Str)) = false := by decide) : PE X (.Name x pos) (tVar i) := by
  intro pins s σ H Q I h
  obtain ⟨v, e, h⟩ := h
  obtain ⟨m, hn, hl⟩ := I.loc
  obtain ⟨u, r, l⟩ := hl i x v hN e hv
  have fin : EP X pins σ Q u s := ⟨v, H, I, r, h⟩
  rcases l with ⟨hk, hm⟩ | ⟨hk, c, hc, hcell⟩
  · exact wpAny_Name (wpAny_loadName_local I.ok.kind hk hn hm fin) hd
  · rcases hk with hk | hk
    · exact wpAny_Name (wpAny_loadName_cell I.ok.kind hk hc hcell fin) hd
    · exact wpAny_Name (wpAny_loadName_free I.ok.kind hk hc hcell fin hcd) hd
theorem pe_int {i j pos} : PE X (.Constant (.int i) j pos) (tC (.int i)) := fun _ _ _ H _ I h => wpAny_Constant_int ⟨.int i, H, I.tok _, ⟨_, rfl⟩, h⟩
theorem pe_bl {b j pos} : PE X (.Constant (.bool b) j pos) (tC (.bl b)) := fun _ _ _ H _ I h => Constant_bool ⟨.bl b, H, I, rfl, h⟩
theorem pe_non {j pos} : PE X (.Constant .none j pos) (tC .non) := fun _ _ _ H _ I h => Constant_none ⟨.non, H, I, rfl, h⟩
/-- a global name of the def -/
def Gl (X : Cx) (x : Str) : Prop := X.env.kindOf x = some .globalImplicit
theorem ld_glob {E : Value → Shared → Prop} {pins : List (Addr × Obj)} {s : Shared} {σ : St} {H : Hp} {x : Str} {u : Value} {pos : Pos} {Q : Value → Shared → Prop} (I : Inv X pins σ H s) (hg : Gl X x) (hm : X.mg x = some u) (h : Q u s)
    (hd : (x == ("__debug__" : Str)) = false := by decide) : wpAny (model X.prog X.w) X.A (eval (.Name x pos) X.env) Q E s :=
  Calls.Name_function_global I.ok.kind hg (Calls.loadGlobal_global (by rw [I.ok.glob]; exact I.mod.glob.keeps I.bk) hm h) hd
theorem ld_blt {E : Value → Shared → Prop} {pins : List (Addr × Obj)} {s : Shared} {σ : St} {H : Hp} {x : Str} {u : Value} {pos : Pos} {Q : Value → Shared → Prop} (I : Inv X pins σ H s) (hg : Gl X x) (hm : X.mg x = none) (hv : bootBuiltins x = some u) (h : Q u s)
    (hn : x ≠ "__name__" := by decide) (hd : (x == ("__debug__" : Str)) = false := by decide) : wpAny (model X.prog X.w) X.A (eval (.Name x pos) X.env) Q E s := by
  obtain ⟨mb, h1, h2⟩ := I.mod.blt
  exact Calls.Name_function_global I.ok.kind hg (Calls.loadGlobal_builtin (by rw [I.ok.glob]; exact I.mod.glob.keeps I.bk) hm (by rw [I.ok.blt]; exact h1.keeps I.bk) ((h2 x hn).trans hv) h) hd
/-- a module's constant, a class, a function, as a value -/
theorem pe_glob {x : Str} {v : V} {u : Value} {pos : Pos} (hg : Gl X x) (hm : X.mg x = some u) (r : RelV v u) (hd : (x == ("__debug__" : Str)) = false := by decide) : PE X (.Name x pos) (tC v) :=
  fun _ _ _ H _ I h => ld_glob I hg hm ⟨v, H, I, r, h⟩ hd
theorem pe_bltn {x : Str} {v : V} {u : Value} {pos : Pos} (hg : Gl X x) (hm : X.mg x = none) (hv : bootBuiltins x = some u) (r : RelV v u) (hn : x ≠ "__name__" := by decide) (hd : (x == ("__debug__" : Str)) = false := by decide) : PE X (.Name x pos) (tC v) :=
  fun _ _ _ H _ I h => ld_blt I hg hm hv ⟨v, H, I, r, h⟩ hn hd

/-! ### arithmetic -/
variable {a b : Expr} {ta tb : TE} {pos : Pos}
/-! ### comparisons -/
/-- a comparison as a value, as a test -/
def tB (t : TE) : TT := fun σ H Q => t σ H fun x H1 => ∃ c, x = .bl c ∧ Q c H1
/-- an expression whose value is a bool, as a test -/
theorem pt_val {e : Expr} {t : TE} (h : PE X e t) (he : ∀ whole, isTrue e X.env whole = (do let v ← whole; standAt e.pos; holding [v] (truthy v)) := by intro _; rfl) : PT X e (tB t) := by
  intro pins s σ H Q I hw
  refine isTrue_plain (thn (h pins s σ H _ I hw) fun v s1 ⟨x, H1, I1, r1, q1⟩ => ?_) (he _)
  obtain ⟨d, rfl, q⟩ := q1
  cases r1
  exact wpAny_truthy_bool ⟨H1, I1, q⟩

/-! ### and, or, not -/
variable {tA tB' : TT} {rest : List Expr}
def tAnd (t u : TT) : TT := fun σ H Q => t σ H fun c H1 => if c = true then u σ H1 Q else Q false H1
def tOr (t u : TT) : TT := fun σ H Q => t σ H fun c H1 => if c = true then Q true H1 else u σ H1 Q
def tNot (t : TT) : TT := fun σ H Q => t σ H fun c H1 => Q (!c) H1
theorem pw_and1 (ha : PT X a tA) : PW X (.BoolOp .And [a] pos) tA := by
  intro wh pins s σ H Q I h
  refine isTrue_and (thn (ha pins s σ H Q I h) fun c s1 e => ?_)
  cases c with
  | true => exact isTrue_and_nil e
  | false => exact e
theorem pw_or1 (ha : PT X a tA) : PW X (.BoolOp .Or [a] pos) tA := by
  intro wh pins s σ H Q I h
  refine isTrue_or (thn (ha pins s σ H Q I h) fun c s1 e => ?_)
  cases c with
  | false => exact isTrue_or_nil e
  | true => exact e
theorem pw_and (ha : PT X a tA) (hb : PW X (.BoolOp .And (b :: rest) pos) tB') : PW X (.BoolOp .And (a :: b :: rest) pos) (tAnd tA tB') := by
  intro wh pins s σ H Q I h
  refine isTrue_and (thn (ha pins s σ H _ I h) fun c s1 ⟨H1, I1, q1⟩ => ?_)
  cases c with
  | true => exact hb wh pins s1 σ H1 Q I1 q1
  | false => exact ⟨H1, I1, q1⟩
theorem pw_or (ha : PT X a tA) (hb : PW X (.BoolOp .Or (b :: rest) pos) tB') : PW X (.BoolOp .Or (a :: b :: rest) pos) (tOr tA tB') := by
  intro wh pins s σ H Q I h
  refine isTrue_or (thn (ha pins s σ H _ I h) fun c s1 ⟨H1, I1, q1⟩ => ?_)
  cases c with
  | true => exact ⟨H1, I1, q1⟩
  | false => exact hb wh pins s1 σ H1 Q I1 q1
theorem pt_not (ha : PT X a tA) : PT X (.UnaryOp .Not a pos) (tNot tA) := by
  intro pins s σ H Q I h
  exact isTrue_not (ha pins s σ H (fun c H1 => Q (!c) H1) I h)
/-- .. as values (bools) -/
def tAndV (ta tb : TE) : TE := fun σ H Q => ta σ H fun x H1 => ∃ c, x = .bl c ∧ if c = true then tb σ H1 Q else Q (.bl false) H1
def tNotV (ta : TE) : TE := fun σ H Q => ta σ H fun x H1 => ∃ c, x = .bl c ∧ Q (.bl (!c)) H1
theorem pe_one {op} {t : TE} (h : PE X a t) : PE X (.BoolOp op [a] pos) t := fun pins s σ H Q I hw => BoolOp_one (h pins s σ H Q I hw)
theorem pe_and (ha : PE X a ta) (hb : PE X (.BoolOp .And (b :: rest) pos) tb) : PE X (.BoolOp .And (a :: b :: rest) pos) (tAndV ta tb) := by
  intro pins s σ H Q I h
  refine BoolOp_and (thn (ha pins s σ H _ I h) fun v s1 ⟨x, H1, I1, r1, q1⟩ => ?_)
  obtain ⟨c, rfl, q1⟩ := q1
  cases r1
  refine wpAny_truthy_bool ?_
  cases c with
  | true => exact hb pins s1 σ H1 Q I1 q1
  | false => exact ⟨.bl false, H1, I1, rfl, q1⟩
theorem pe_not (ha : PE X a ta) : PE X (.UnaryOp .Not a pos) (tNotV ta) := by
  intro pins s σ H Q I h
  refine UnaryOp_ (thn (ha pins s σ H _ I h) fun v s1 ⟨x, H1, I1, r1, q1⟩ => ?_)
  obtain ⟨c, rfl, q1⟩ := q1
  cases r1
  exact not_of (wpAny_truthy_bool ⟨.bl (!c), H1, I1, rfl, q1⟩)
/-- a if t else b -/
def tIf (t : TT) (ta tb : TE) : TE := fun σ H Q => t σ H fun c H1 => if c = true then ta σ H1 Q else tb σ H1 Q
theorem pe_ifExp {c : Expr} (hc : PT X c tA) (ha : PE X a ta) (hb : PE X b tb) : PE X (.IfExp c a b pos) (tIf tA ta tb) := by
  intro pins s σ H Q I h
  refine wpAny_IfExp (thn (hc pins s σ H _ I h) fun d s1 ⟨H1, I1, q1⟩ => ?_)
  cases d with
  | true => exact ha pins s1 σ H1 Q I1 q1
  | false => exact hb pins s1 σ H1 Q I1 q1
end
end L2

namespace L2
open PySem PySem.Spec PyProof.Rows

/-! ### a list, a tuple that is read: tracked, frozen, or an object of the module -/
def SqL (K : PySem.W.Frag) (H : Hp) (a : Addr) (xs : List V) : Prop :=
  Rd H a (.lst xs) ∨
    ∃ (o : Obj) (its : Array Value) (n : Nat), K.lookup a = some o ∧ o.cls = .type "list" ∧ o.dict = none ∧ o.data = .seq its n ∧ its.size ≤ sizeLine ∧ Vals xs its.toList
def SqT (K : PySem.W.Frag) (H : Hp) (a : Addr) (xs : List V) : Prop :=
  Rd H a (.tup xs) ∨
    ∃ (o : Obj) (its : Array Value) (n : Nat), K.lookup a = some o ∧ o.cls = .type "tuple" ∧ o.data = .seq its n ∧ its.size ≤ sizeLine ∧ Vals xs its.toList
def absV : Value → Option V
  | .none => some .non
  | .bool b => some (.bl b)
  | .int i _ => some (.int i)
  | .str x _ => some (.str x)
  | .bytes b _ => some (.byt b)
  | .float b _ => some (.flt b)
  | .ref a => some (.ref a)
  | .type n => some (.ty n)
  | _ => none
theorem RelV.abs {x : V} {u : Value} (r : RelV x u) : absV u = some x := by
  cases x with
  | non => cases r; rfl
  | bl _ => cases r; rfl
  | int _ => obtain ⟨t, rfl⟩ := r; rfl
  | str _ => obtain ⟨t, rfl⟩ := r; rfl
  | byt _ => obtain ⟨t, rfl⟩ := r; rfl
  | flt _ => obtain ⟨t, rfl⟩ := r; rfl
  | ref _ => cases r; rfl
  | ty _ => cases r; rfl
theorem RelV.inj {x y : V} {u : Value} (r : RelV x u) (q : RelV y u) : x = y := Option.some.inj (r.abs.symm.trans q.abs)
theorem Vals.inj : ∀ {xs ys : List V} {us : List Value}, Vals xs us → Vals ys us → xs = ys
  | _, _, _, .nil, .nil => rfl
  | _, _, _, .cons r t, .cons r' t' => by rw [r.inj r', Vals.inj t t']
section
variable {X : Cx} {pins : List (Addr × Obj)} {σ : St} {H : Hp} {s : Shared} {a : Addr} {xs ys : List V}
theorem SqL.of {K : PySem.W.Frag} (h : H a = some (.lst xs)) : SqL K H a xs := .inl (.inl h)
theorem SqT.of {K : PySem.W.Frag} (h : H a = some (.tup xs)) : SqT K H a xs := .inl (.inl h)
theorem Inv.list (I : Inv X pins σ H s) (h : SqL X.K H a xs) : ∃ its : List Value, Vals xs its ∧ PlainL s.heap a its.toArray ∧ xs.length ≤ sizeLine := by
  rcases h with h | ⟨o, its, n, hk, hc, hd, hs, hz, r⟩
  · obtain ⟨z, its, n, r, e⟩ := h.ok I.hok
    exact ⟨its, r, ⟨_, n, e, rfl, rfl, rfl⟩, z⟩
  · refine ⟨its.toList, r, ⟨o, n, I.kIn a o hk, hc, hd, by simpa using hs⟩, ?_⟩
    have e := r.length
    simp only [Array.length_toList] at e
    omega
theorem Inv.tuple (I : Inv X pins σ H s) (h : SqT X.K H a xs) : ∃ its : List Value, Vals xs its ∧ IsTup s.heap a its.toArray ∧ xs.length ≤ sizeLine := by
  rcases h with h | ⟨o, its, n, hk, hc, hs, hz, r⟩
  · obtain ⟨z, its, r, p⟩ := h.ok I.hok
    exact ⟨its, r, p, z⟩
  · refine ⟨its.toList, r, ⟨o, I.kIn a o hk, hc, n, by simpa using hs⟩, ?_⟩
    have e := r.length
    simp only [Array.length_toList] at e
    omega
theorem Inv.list_inj (I : Inv X pins σ H s) (h : SqL X.K H a xs) (h' : SqL X.K H a ys) : xs = ys := by
  obtain ⟨its, r, ⟨o, n, e, _, _, d⟩, _⟩ := I.list h
  obtain ⟨its', r', ⟨o', n', e', _, _, d'⟩, _⟩ := I.list h'
  rw [e] at e'; cases e'
  rw [d] at d'
  injection d' with d1 _
  have : its = its' := by simpa using congrArg Array.toList d1
  subst this
  exact r.inj r'
theorem Inv.tuple_inj (I : Inv X pins σ H s) (h : SqT X.K H a xs) (h' : SqT X.K H a ys) : xs = ys := by
  obtain ⟨its, r, ⟨o, e, _, n, d⟩, _⟩ := I.tuple h
  obtain ⟨its', r', ⟨o', e', _, n', d'⟩, _⟩ := I.tuple h'
  rw [e] at e'; cases e'
  rw [d] at d'
  injection d' with d1 _
  have : its = its' := by simpa using congrArg Array.toList d1
  subst this
  exact r.inj r'
end

/-! ### another wish about exceptions -/
abbrev Cx.wish (X : Cx) (E : Value → Shared → Prop) : Cx := { X with xe := E }
/-- no exception leaves -/
abbrev Cx.nox (X : Cx) : Cx := X.wish fun _ _ => False
theorem Cx.Ok.wish {X : Cx} (ok : X.Ok) (E : Value → Shared → Prop) : (X.wish E).Ok :=
  ⟨ok.mod, ok.kind, ok.glob, ok.blt, ok.above, ok.inj, ok.has, ok.cab, ok.hd, ok.frames, ok.stk, ok.exf, ok.bs, ok.bsz, ok.noex, ok.exfs, ok.funs, ok.frf⟩
theorem Cx.Ok.unwish {X : Cx} {E : Value → Shared → Prop} (ok : (X.wish E).Ok) : X.Ok :=
  ⟨ok.mod, ok.kind, ok.glob, ok.blt, ok.above, ok.inj, ok.has, ok.cab, ok.hd, ok.frames, ok.stk, ok.exf, ok.bs, ok.bsz, ok.noex, ok.exfs, ok.funs, ok.frf⟩
section
variable {X : Cx} {pins : List (Addr × Obj)} {σ : St} {H : Hp} {s : Shared} {E : Value → Shared → Prop}
theorem Inv.wish (I : Inv X pins σ H s) (E : Value → Shared → Prop) : Inv (X.wish E) pins σ H s := ⟨I.ok.wish E, I.os, I.bare, I.base, I.loc, I.cell, I.free, I.freeC, I.pin, I.hok, I.len⟩
theorem Inv.unwish (I : Inv (X.wish E) pins σ H s) : Inv X pins σ H s := ⟨I.ok.unwish, I.os, I.bare, I.base, I.loc, I.cell, I.free, I.freeC, I.pin, I.hok, I.len⟩
theorem SP.unwish {D : Ends} {f : Flow} {s' : Shared} (h : SP (X.wish E) pins D f s') : SP X pins D f s' := by
  cases f with
  | next => obtain ⟨σ', H', I, q⟩ := h; exact ⟨σ', H', I.unwish, q⟩
  | brk => obtain ⟨σ', H', I, q⟩ := h; exact ⟨σ', H', I.unwish, q⟩
  | cont => obtain ⟨σ', H', I, q⟩ := h; exact ⟨σ', H', I.unwish, q⟩
  | ret u => obtain ⟨v, σ', H', I, r, q⟩ := h; exact ⟨v, σ', H', I.unwish, r, q⟩
theorem PSs.nox {st : List Stmt} {t : TS} (h : PSs X.nox st t) : PSs X st t := fun pins s σ H D I hw =>
  wpAny_mono (h pins s σ H D (I.wish _) hw) (fun _ _ q => q.unwish) fun _ _ z => False.elim z
end

/-! ### blocks and small statements -/
section
variable {X : Cx} {st : Stmt} {rest : List Stmt} {t u : TS} {e : Expr} {te : TE} {pos : Pos}
def tNext : TS := fun D σ H => D.nx σ H
def tSeq (t u : TS) : TS := fun D σ H => t { D with nx := u D } σ H
theorem pss_nil : PSs X [] tNext := fun _ _ σ H _ I h => wpAny_execs_nil ⟨σ, H, I, h⟩
theorem pss_cons (h1 : PS X st t) (h2 : PSs X rest u) : PSs X (st :: rest) (tSeq t u) := by
  intro pins s σ H D I h
  refine wpAny_execs_cons (thn (h1 pins s σ H { D with nx := u D } I h) fun f s1 q => ?_)
  cases f with
  | next =>
    obtain ⟨σ', H', I', q⟩ := q
    exact h2 pins s1 σ' H' D I' q
  | ret v => exact q
  | brk => exact q
  | cont => exact q
theorem pss_one (h1 : PS X st t) : PSs X [st] t := by
  intro pins s σ H D I h
  refine wpAny_execs_cons (thn (h1 pins s σ H D I h) fun f s1 q => ?_)
  cases f with
  | next => exact wpAny_execs_nil q
  | ret v => exact q
  | brk => exact q
  | cont => exact q
/-- in a def's body nothing is shown -/
theorem Inv.quiet {pins : List (Addr × Obj)} {σ : St} {H : Hp} {s : Shared} (I : Inv X pins σ H s) : interactive X.env = false := by simp [interactive, I.ok.kind]
/-- an expression whose value is dropped -/
def tDrop (te : TE) : TS := fun D σ H => te σ H fun _ H1 => D.nx σ H1
theorem ps_expr (he : PE X e te) (hs : swapsWith e none pos.line X.env = pure false := by rfl) : PS X (.Expr e pos) (tDrop te) := by
  intro pins s σ H D I h
  exact wpAny_Expr_any (thn (he pins s σ H _ I h) fun v s1 ⟨x, H1, I1, r1, q1⟩ => ⟨σ, H1, I1, q1⟩) I.quiet hs
def tRet (te : TE) : TS := fun D σ H => te σ H D.rt
theorem ps_ret (he : PE X e te) : PS X (.Return (some e) pos) (tRet te) := by
  intro pins s σ H D I h
  exact wpAny_Return_some (thn (he pins s σ H _ I h) fun v s1 ⟨x, H1, I1, r1, q1⟩ => ⟨x, σ, H1, I1, r1, q1⟩)
def tIfS (c : TT) (t u : TS) : TS := fun D σ H => c σ H fun b H1 => if b = true then t D σ H1 else u D σ H1
theorem ps_if {c : Expr} {a b : List Stmt} {tc : TT} (hc : PT X c tc) (ha : PSs X a t) (hb : PSs X b u) : PS X (.If c a b pos) (tIfS tc t u) := by
  intro pins s σ H D I h
  refine wpAny_If (thn (hc pins s σ H _ I h) fun d s1 ⟨H1, I1, q1⟩ => ?_)
  cases d with
  | true => exact ha pins s1 σ H1 D I1 q1
  | false => exact hb pins s1 σ H1 D I1 q1
end

/-! ### targets -/
abbrev TG := V → St → Hp → (St → Hp → Prop) → Prop
abbrev TGs := List V → St → Hp → (St → Hp → Prop) → Prop
def PG (X : Cx) (target : Expr) (t : TG) : Prop :=
  ∀ (pins : List (Addr × Obj)) (s : Shared) (σ : St) (H : Hp) (v : V) (u : Value) (Q : St → Hp → Prop), Inv X pins σ H s → RelV v u → t v σ H Q →
    wpAny (model X.prog X.w) X.A (assign target X.env u) (fun _ s' => ∃ σ' H', Inv X pins σ' H' s' ∧ Q σ' H') X.xe s
/-- several targets, one after another -/
def PGs (X : Cx) (ts : List Expr) (t : TGs) : Prop :=
  ∀ (pins : List (Addr × Obj)) (s : Shared) (σ : St) (H : Hp) (vs : List V) (us : List Value) (Q : St → Hp → Prop), Inv X pins σ H s → Vals vs us → t vs σ H Q →
    wpAny (model X.prog X.w) X.A (assignInOrder ((assignEach ts X.env).map (·.2)) us) (fun _ s' => ∃ σ' H', Inv X pins σ' H' s' ∧ Q σ' H') X.xe s
section
variable {X : Cx} {pos : Pos}
def gName (i : Nat) : TG := fun v σ H Q => Q (σ.set i (some v)) H
theorem pg_name {i : Nat} {x : Str} (hN : X.N.Nodup) (hi : X.N[i]? = some x) (hx : Loc X.env.scope x) (hf : X.fn x = true ∨ X.env.scope.names.lookup x = some .local := by first | exact .inl rfl | exact .inr rfl | assumption) : PG X (.Name x pos) (gName i) := by
  intro pins s σ H v u Q I r h
  exact wpAny_assign_Name (store_ok I hN hi hx r (fun s' I' => ⟨_, H, I', h⟩) hf)
def gNil : TGs := fun vs σ H Q => vs = [] ∧ Q σ H
def gCons (t : TG) (u : TGs) : TGs := fun vs σ H Q => ∃ v r, vs = v :: r ∧ t v σ H fun σ' H' => u r σ' H' Q
theorem pgs_nil : PGs X [] gNil := by
  intro pins s σ H vs us Q I r h
  obtain ⟨e, h⟩ := h
  subst e
  cases r
  exact assignInOrder_nil ⟨σ, H, I, h⟩
theorem pgs_cons {e : Expr} {es : List Expr} {t : TG} {u : TGs} (h1 : PG X e t) (h2 : PGs X es u)
    (hs : (assignEach (e :: es) X.env).map (·.2) = assign e X.env :: (assignEach es X.env).map (·.2) := by rfl) : PGs X (e :: es) (gCons t u) := by
  intro pins s σ H vs us Q I r h
  obtain ⟨v, vr, e1, h⟩ := h
  subst e1
  cases r with
  | cons r rr =>
    rw [hs]
    refine assignInOrder_cons (thn (h1 pins s σ H _ _ _ I r h) fun _ s1 ⟨σ1, H1, I1, q1⟩ => ?_)
    exact h2 pins s1 σ1 H1 _ _ Q I1 rr q1
/-- (a, b, ..) = a tuple of that length -/
def gTup (K : PySem.W.Frag) (n : Nat) (t : TGs) : TG := fun v σ H Q => ∃ a xs, v = .ref a ∧ SqT K H a xs ∧ xs.length = n ∧ t xs σ H Q
theorem pg_tup {es : List Expr} {k : Nat} {t : TGs} {n : Nat} (hc : X.calm = true) (h : PGs X es t)
    (hn : (assignEach es X.env).length = n := by rfl) (hst : (assignEach es X.env).findIdx? (·.1) = none := by rfl) : PG X (.Tuple es k pos) (gTup X.K n t) := by
  intro pins s σ H v u Q I r hw
  obtain ⟨a, xs, e1, hq, hl, hw⟩ := hw
  subst e1
  cases r
  obtain ⟨its, rv, ht, hz⟩ := I.tuple hq
  refine assign_Tuple_tuple (I.ok.hd hc) ht (by simp [hn, ← hl, rv.length]) hst fun h' hx => ?_
  have I1 : Inv X pins σ H { s with heap := h' } := I.kept (t' := s.toks) fun b o e => hx b o (Nat.ne_of_lt (Heap.lt_size e)) e
  exact h pins _ σ H xs _ Q I1 (by simpa using rv) hw
/-- target = value -/
def tAsg (te : TE) (g : TG) : TS := fun D σ H => te σ H fun x H1 => g x σ H1 D.nx
theorem ps_asg {tg e : Expr} {te : TE} {g : TG} (he : PE X e te) (hg : PG X tg g) (hs : swapsWithSole [tg] e pos.line X.env = pure false := by rfl) (hw : swappedStores [tg] e X.env = pure none := by rfl)
    (h1 : (assignEach [tg] X.env).map (·.2) = [assign tg X.env] := by rfl) : PS X (.Assign [tg] e pos) (tAsg te g) := by
  intro pins s σ H D I h
  refine wpAny_Assign_stores (thn (he pins s σ H _ I h) fun v s1 ⟨x, H1, I1, r1, q1⟩ => ?_) hs hw
  rw [h1]
  exact thn (hg pins s1 σ H1 x v _ I1 r1 q1) fun _ s2 q => q
/-- name = value -/
theorem ps_set {i : Nat} {x : Str} {e : Expr} {te : TE} {pos' : Pos} (hN : X.N.Nodup) (hi : X.N[i]? = some x) (hx : Loc X.env.scope x) (he : PE X e te) (hs : swapsWith e (some (.Name x pos')) pos.line X.env = pure false := by rfl) (hf : X.fn x = true ∨ X.env.scope.names.lookup x = some .local := by first | exact .inl rfl | exact .inr rfl | assumption) :
    PS X (.Assign [.Name x pos'] e pos) (tAsg te (gName i)) := by
  intro pins s σ H D I h
  refine wpAny_Assign_Name (thn (he pins s σ H _ I h) fun v s1 ⟨y, H1, I1, r1, q1⟩ => ?_) hs
  exact store_ok I1 hN hi hx r1 (fun s2 I2 => ⟨_, H1, I2, q1⟩) hf
/-- a, b = x, y with plain local names: stored from the right; the pair itself is not tracked (the opening rows as in PyProof/Rows/TupAssign.lean:23) -/
def tPar (i j : Nat) (ta : TA) : TS := fun D σ H => ta σ H fun vs H1 => ∃ v w, vs = [v, w] ∧ D.nx ((σ.set i (some v)).set j (some w)) H1
theorem ps_par {i j : Nat} {x y : Str} {a b : Expr} {ta : TA} {px py pt : Pos} {kt k2 pt2} (hc : X.calm = true) (hN : X.N.Nodup) (hi : X.N[i]? = some x) (hj : X.N[j]? = some y) (hij : i ≠ j)
    (hx : X.env.scope.names.lookup x = some .local) (hy : X.env.scope.names.lookup y = some .local) (ha : PA X [a, b] ta)
    (hw : swappedStores [.Tuple [.Name x px, .Name y py] kt pt] (.Tuple [a, b] k2 pt2) X.env = pure (some [x, y]))
    (hs : swapsWithSole [.Tuple [.Name x px, .Name y py] kt pt] (.Tuple [a, b] k2 pt2) pos.line X.env = pure false := by rfl) :
    PS X (.Assign [.Tuple [.Name x px, .Name y py] kt pt] (.Tuple [a, b] k2 pt2) pos) (tPar i j ta) := by
  intro pins s σ H D I h
  rw [exec_Assign_arm]
  refine wpAny_bind (wpAny_standAt ?_)
  rw [hs]
  refine wpAny_bind (wpAny_pure ?_)
  rw [if_neg (by decide)]
  refine wpAny_bind (Tuple_ (thn (ha _ pins s σ H _ I h) fun us s1 ⟨vs, H1, I1, r1, q1⟩ => ?_))
  obtain ⟨v, w, e1, q1⟩ := q1
  subst e1
  obtain ⟨u1, u2, rfl, rv, rw'⟩ : ∃ u1 u2, us = [u1, u2] ∧ RelV v u1 ∧ RelV w u2 := by
    cases r1 with
    | cons p q =>
      cases q with
      | cons p' q' =>
        cases q'
        exact ⟨_, _, rfl, p, p'⟩
  refine wpAny_newObj_type ?_ (by show 2 ≤ sizeLine; decide)
  have I2 : Inv X pins σ H1 { s1 with heap := s1.heap.push { cls := .type "tuple", data := .seq [u1, u2].toArray } } := I1.kept (t' := s1.toks) fun b o e => Heap.get?_push_of_some _ e
  rw [hw]
  refine wpAny_bind (wpAny_pure ?_)
  show wpAny (model X.prog X.w) X.A (do rule "assign.swapped-stores"; let items ← unpackItems (.ref s1.heap.objs.size) 2 none; assignInOrder [fun v => bindName X.env y v, fun v => bindName X.env x v] items.reverse; pure Flow.next) _ _ _
  refine wpAny_bind (wpAny_rule (wpAny_bind (unpackItems_tuple (items := #[u1, u2]) (I.ok.hd hc) (IsTup.new s1.heap _) fun h' hx' => ?_)))
  have I3 := I2.kept (h' := h') (t' := s1.toks) fun b o e => hx' b o (Nat.ne_of_lt (Heap.lt_size e)) e
  show wpAny _ _ (assignInOrder [fun v => bindName X.env y v, fun v => bindName X.env x v] [u2, u1] >>= fun _ => pure Flow.next) _ _ _
  refine wpAny_bind (assignInOrder_cons (wpAny_bindName (store_ok I3 hN hj (.inl hy) rw' (fun s2 I4 => ?_) (.inr hy))))
  refine assignInOrder_cons (wpAny_bindName (store_ok I4 hN hi (.inl hx) rv (fun s3 I5 => assignInOrder_nil (wpAny_pure ?_)) (.inr hx)))
  rw [List.set_comm _ _ (Ne.symm hij)] at I5
  exact ⟨_, H1, I5, q1⟩
end

/-! ### while -/
section
variable {X : Cx} {pos : Pos}
/-- the invariant W with its measure -/
def tWhile (c : TT) (tb : TS) : TS := fun D σ H => ∃ W : Nat → St → Hp → Prop, (∃ m, W m σ H) ∧ ∀ m σ H, W m σ H →
  c σ H fun b H1 => if b = true then ∃ N : St → Hp → Prop, (∀ σ' H', N σ' H' → ∃ m', m' < m ∧ W m' σ' H') ∧ tb { D with nx := N, ct := N, bk := D.nx } σ H1 else D.nx σ H1
theorem ps_while {c : Expr} {body : List Stmt} {tc : TT} {tb : TS} (hp : PassesOwn (model X.prog X.w) X.A X.env X.xe) (hc : PT X c tc) (hb : PSs X body tb) : PS X (.While c body [] pos) (tWhile tc tb) := by
  intro pins s σ H D I h
  obtain ⟨W, ⟨m0, w0⟩, turn⟩ := h
  refine wpAny_While (codeAny_whileLoop (fun n s' => ∃ σ' H', Inv X pins σ' H' s' ∧ W n σ' H') ?_ m0 ⟨σ, H, I, w0⟩)
  rintro n s1 ⟨σ1, H1, I1, w1⟩
  refine wpAny_passesOwn hp (thn (hc pins s1 σ1 H1 _ I1 (turn n σ1 H1 w1)) fun b s2 ⟨H2, I2, q2⟩ => ?_)
  cases b with
  | true =>
    obtain ⟨N, hN, q2⟩ := q2
    rw [if_pos rfl]
    refine wpAny_passesOwn hp (thn (hb pins s2 σ1 H2 _ I2 q2) fun f s3 q3 => ?_)
    cases f with
    | next =>
      obtain ⟨σ3, H3, I3, n3⟩ := q3
      obtain ⟨m', hm, w3⟩ := hN σ3 H3 n3
      exact ⟨m', hm, σ3, H3, I3, w3⟩
    | cont =>
      obtain ⟨σ3, H3, I3, n3⟩ := q3
      obtain ⟨m', hm, w3⟩ := hN σ3 H3 n3
      exact ⟨m', hm, σ3, H3, I3, w3⟩
    | brk => exact q3
    | ret v => exact q3
  | false =>
    rw [if_neg Bool.false_ne_true]
    exact wpAny_execs_nil ⟨σ1, H2, I2, q2⟩
end

/-! ### what a loop or a comprehension walks -/
/-- at turn i: it yields x (the heap may grow), or it stops -/
structure It where
  go : Nat → Hp → Prop
  yld : Nat → Hp → V → Hp → Prop
  stop : Nat → Hp → Prop
/-- the iterator's own objects may turn: they are not the frame's, not pinned, younger than the entry (or a comprehension's own) -/
def FpOk (X : Cx) (pins : List (Addr × Obj)) (H : Hp) (b : Addr) : Prop :=
  H b = none ∧ b ≠ X.env.locals ∧ b ∉ X.fs ∧ (b ∈ X.ex ∨ X.s₀.heap.objs.size ≤ b) ∧ (∀ x c, X.env.cells.lookup x = some c → c ≠ b) ∧ ∀ p ∈ X.pn ++ pins, p.1 ≠ b
theorem Inv.fpOk {X : Cx} {pins : List (Addr × Obj)} {σ : St} {H H' : Hp} {s : Shared} {b : Addr} (I : Inv X pins σ H s) (hb : s.heap.objs.size ≤ b) (hn : H' b = none) : FpOk X pins H' b := by
  refine ⟨hn, Nat.ne_of_gt (Nat.lt_of_lt_of_le I.lt hb), I.nofs hb, .inr (Nat.le_trans I.sz hb), fun x c e z => ?_, fun p hp z => ?_⟩
  · obtain ⟨v, q⟩ := I.cell x c e
    exact absurd (Nat.lt_of_lt_of_le q.lt (by rw [z]; exact hb)) (Nat.lt_irrefl _)
  · exact absurd (Nat.lt_of_lt_of_le (Heap.lt_size (I.pin p hp).1) (by rw [z]; exact hb)) (Nat.lt_irrefl _)
structure Turn (P : Program) (w : World) (K : PySem.W.Frag) (tg : Expr) (J : It) (fp : List Addr) (it : Addr) (tn : Nat → Heap → Prop) : Prop where
  mem : it ∈ fp
  obj : ∀ i h, tn i h → ∀ b ∈ fp, ∃ o, h.get? b = some o ∧ ∀ v, o.data ≠ .cell v
  keep : ∀ i h h', tn i h → (∀ b ∈ fp, ∀ o, h.get? b = some o → h'.get? b = some o) → tn i h'
  item : ∀ (X : Cx), X.prog = P → X.w = w → X.K = K → X.calm = true → ∀ (i : Nat) (pins : List (Addr × Obj)) (s : Shared) (σ : St) (H : Hp) (E : Value → Shared → Prop), Inv X pins σ H s → (∀ b ∈ fp, FpOk X pins H b) → tn i s.heap → J.go i H →
    wpAny (model P w) X.A (pyNext (.ref it)) (fun r s1 => ∃ u, r = some u ∧
      wpAny (model P w) X.A (letOwnedTupleGo tg (.ref it) u) (fun _ s2 => ∃ x H', Inv X pins σ H' s2 ∧ RelV x u ∧ J.yld i H x H' ∧ tn (i + 1) s2.heap ∧ ∀ b ∈ fp, H' b = none) E s1) E s
  done : ∀ (X : Cx), X.prog = P → X.w = w → X.K = K → X.calm = true → ∀ (i : Nat) (pins : List (Addr × Obj)) (s : Shared) (σ : St) (H : Hp) (E : Value → Shared → Prop), Inv X pins σ H s → (∀ b ∈ fp, FpOk X pins H b) → tn i s.heap → J.stop i H →
    wpAny (model P w) X.A (pyNext (.ref it)) (fun r s1 => r = none ∧ Inv X pins σ H s1) E s
  self : ∀ (A : Around) (i : Nat) (s : Shared) (Q : Value → Shared → Prop) (E : Value → Shared → Prop), tn i s.heap → Q (.ref it) s → wpAny (model P w) A (pyIter (.ref it)) Q E s
abbrev TI := St → Hp → (It → Hp → Prop) → Prop
/-- an iterator has come -/
def PIE (X : Cx) (pins : List (Addr × Obj)) (σ : St) (tg : Expr) (R : It → Hp → Prop) (itv : Value) (s2 : Shared) : Prop :=
  ∃ (it : Addr) (fp : List Addr) (tn : Nat → Heap → Prop) (J : It) (H' : Hp), itv = .ref it ∧ Inv X pins σ H' s2 ∧ Turn X.prog X.w X.K tg J fp it tn ∧ tn 0 s2.heap ∧ (∀ b ∈ fp, FpOk X pins H' b) ∧ R J H'
def PI (X : Cx) (tg iter : Expr) (wi : TI) : Prop :=
  ∀ (pins : List (Addr × Obj)) (s : Shared) (σ : St) (H : Hp) (R : It → Hp → Prop), Inv X pins σ H s → wi σ H R →
    wpAny (model X.prog X.w) X.A (eval iter X.env) (fun v s1 => wpAny (model X.prog X.w) X.A (pyIter v) (PIE X pins σ tg R) X.xe s1) X.xe s

/-- the step ahead of the store is nothing for an iterator that keeps no tuple -/
theorem go_of {M : Model} {A : Around} {E : Value → Shared → Prop} {s : Shared} {tg : Expr} {it : Addr} {u : Value} {o : Obj} {n : String} {vs : Array Value} {Q : Unit → Shared → Prop} (ho : s.heap.get? it = some o) (hc : o.cls = .type n) (hd : o.data = .fields vs)
    (hn : ["enumerate", "zip", "dict_itemiterator", "dict_reverseitemiterator", "odict_iterator", "itertools.zip_longest", "itertools.pairwise"].contains n = false) (hQ : Q () s) : wpAny M A (letOwnedTupleGo tg (.ref it) u) Q E s := by
  unfold letOwnedTupleGo
  cases tg <;> first
    | exact wpAny_pure hQ
    | (cases u <;> first
        | exact wpAny_pure hQ
        | (refine wpAny_bind (wpAny_load ho ?_)
           rw [hc, hd]
           show wpAny M A (if (["enumerate", "zip", "dict_itemiterator", "dict_reverseitemiterator", "odict_iterator", "itertools.zip_longest", "itertools.pairwise"].contains n && vs[0]? == some (rawInt _)) = true then _ else _) Q E s
           rw [if_neg (by intro h; rw [hn, Bool.false_and] at h; cases h)]
           exact wpAny_pure hQ))

/-- the list at a, as it stands at each turn (a loop may append to it) -/
def Itl (K : PySem.W.Frag) (a : Addr) : It :=
  ⟨fun i H => ∃ xs x, SqL K H a xs ∧ xs[i]? = some x, fun i H x H' => H' = H ∧ ∀ xs, SqL K H a xs → xs[i]? = some x, fun i H => ∃ xs, SqL K H a xs ∧ xs.length ≤ i⟩
def Itt (K : PySem.W.Frag) (a : Addr) : It :=
  ⟨fun i H => ∃ xs x, SqT K H a xs ∧ xs[i]? = some x, fun i H x H' => H' = H ∧ ∀ xs, SqT K H a xs → xs[i]? = some x, fun i H => ∃ xs, SqT K H a xs ∧ xs.length ≤ i⟩
/-- lo, lo + 1, .. (n of them) -/
def Itr (lo : Int) (n : Nat) : It := ⟨fun i _ => i < n, fun i H x H' => H' = H ∧ x = .int (lo + i), fun i _ => n ≤ i⟩
theorem turn_list {P : Program} {w : World} {K : PySem.W.Frag} {tg : Expr} (a it : Addr) : Turn P w K tg (Itl K a) [it] it (fun i h => h.IsListIter it a i) where
  mem := by simp
  obj := fun i h st b hb => by
    have e : b = it := by simpa using hb
    subst e
    obtain ⟨o, e, c, d⟩ := st
    exact ⟨o, e, fun v z => by rw [d] at z; cases z⟩
  keep := fun i h h' st k => st.at fun o e => k it (by simp) o e
  item := by
    intro X hP hw hK hc i pins s σ H E I hf st hg
    subst hP hw hK
    obtain ⟨xs, x, hq, hx⟩ := hg
    obtain ⟨its, rv, p, hz⟩ := I.list hq
    obtain ⟨u, hu, ru⟩ := rv.get hx
    obtain ⟨f0, f1, f2, f3, f4, f5⟩ := hf it (by simp)
    refine wpAny_pyNext_list_item st p.isList (x := u) (by simpa using hu) fun h' st' sb => ?_
    have I1 : Inv X pins σ H { s with heap := h' } := I.turned (t' := s.toks) (fun b o hb e => (sb.2 b hb).trans e) f0 f1 f3 f4 f5
    obtain ⟨o, e, c, d⟩ := id st'
    exact ⟨u, rfl, go_of (s := { s with heap := h' }) e c d (by decide) ⟨x, H, I1, ru, ⟨rfl, fun ys hy => by rw [I.list_inj hy hq]; exact hx⟩, st', fun b hb => (hf b hb).1⟩⟩
  done := by
    intro X hP hw hK hc i pins s σ H E I hf st hg
    subst hP hw hK
    obtain ⟨xs, hq, hx⟩ := hg
    obtain ⟨its, rv, p, hz⟩ := I.list hq
    obtain ⟨f0, f1, f2, f3, f4, f5⟩ := hf it (by simp)
    have hl := rv.length
    exact wpAny_pyNext_list_end (I.ok.hd hc) st p.isList (by simp; omega) fun h' eb => ⟨rfl, I.turned (t' := s.toks) (fun b o hb e => eb b o hb e) f0 f1 f3 f4 f5⟩
  self := fun _ _ _ _ _ st h => wpAny_pyIter_listiter st h
theorem turn_tuple {P : Program} {w : World} {K : PySem.W.Frag} {tg : Expr} (a it : Addr) : Turn P w K tg (Itt K a) [it] it (fun i h => h.IsTupleIter it a i) where
  mem := by simp
  obj := fun i h st b hb => by
    have e : b = it := by simpa using hb
    subst e
    obtain ⟨o, e, c, d⟩ := st
    exact ⟨o, e, fun v z => by rw [d] at z; cases z⟩
  keep := fun i h h' st k => st.at fun o e => k it (by simp) o e
  item := by
    intro X hP hw hK hc i pins s σ H E I hf st hg
    subst hP hw hK
    obtain ⟨xs, x, hq, hx⟩ := hg
    obtain ⟨its, rv, p, hz⟩ := I.tuple hq
    obtain ⟨u, hu, ru⟩ := rv.get hx
    obtain ⟨f0, f1, f2, f3, f4, f5⟩ := hf it (by simp)
    refine wpAny_pyNext_tuple_item st (show s.heap.IsTuple a its.toArray from p) (x := u) (by simpa using hu) fun h' st' sb => ?_
    have I1 : Inv X pins σ H { s with heap := h' } := I.turned (t' := s.toks) (fun b o hb e => (sb.2 b hb).trans e) f0 f1 f3 f4 f5
    obtain ⟨o, e, c, d⟩ := id st'
    exact ⟨u, rfl, go_of (s := { s with heap := h' }) e c d (by decide) ⟨x, H, I1, ru, ⟨rfl, fun ys hy => by rw [I.tuple_inj hy hq]; exact hx⟩, st', fun b hb => (hf b hb).1⟩⟩
  done := by
    intro X hP hw hK hc i pins s σ H E I hf st hg
    subst hP hw hK
    obtain ⟨xs, hq, hx⟩ := hg
    obtain ⟨its, rv, p, hz⟩ := I.tuple hq
    obtain ⟨f0, f1, f2, f3, f4, f5⟩ := hf it (by simp)
    have hl := rv.length
    exact wpAny_pyNext_tuple_end (I.ok.hd hc) st (show s.heap.IsTuple a its.toArray from p) (by simp; omega) fun h' eb => ⟨rfl, I.turned (t' := s.toks) (fun b o hb e => eb b o hb e) f0 f1 f3 f4 f5⟩
  self := fun _ _ _ _ _ st h => wpAny_pyIter_tupleiter st h
theorem turn_range {P : Program} {w : World} {K : PySem.W.Frag} {tg : Expr} (it : Addr) (lo : Int) (n : Nat) : Turn P w K tg (Itr lo n) [it] it (fun i h => IsRangeIter h it (lo + (i : Nat) * 1) ((n : Int) - (i : Nat)) 1) where
  mem := by simp
  obj := fun i h st b hb => by
    have e : b = it := by simpa using hb
    subst e
    exact ⟨_, st, fun v z => by
      have z' : Data.fields _ = Data.cell v := z
      cases z'⟩
  keep := fun i h h' st k => k it (by simp) _ st
  item := by
    intro X hP hw hK hc i pins s σ H E I hf st hg
    subst hP hw hK
    obtain ⟨f0, f1, f2, f3, f4, f5⟩ := hf it (by simp)
    have W := Walks.range (prog := X.prog) (w := X.w) (I.ok.hd hc) it lo 1 n
    refine W.item i s _ _ hg st fun v h' tk hv st' kk => ?_
    obtain ⟨t, rfl⟩ := hv
    have I1 : Inv X pins σ H { s with heap := h', toks := tk } := I.turned (fun b o hb e => kk b o (by simpa using hb) e) f0 f1 f3 f4 f5
    refine ⟨_, rfl, go_of (s := { s with heap := h', toks := tk }) (n := "range_iterator") st' rfl rfl (by decide) ⟨.int (lo + i), H, I1, ⟨t, ?_⟩, ⟨rfl, rfl⟩, st', fun b hb => (hf b hb).1⟩⟩
    rw [Int.mul_one]
  done := by
    intro X hP hw hK hc i pins s σ H E I hf st hg
    subst hP hw hK
    obtain ⟨f0, f1, f2, f3, f4, f5⟩ := hf it (by simp)
    exact wpAny_pyNext_range_end (I.ok.hd hc) st (by have : n ≤ i := hg; omega) fun h' eb => ⟨rfl, I.turned (t' := s.toks) (fun b o hb e => eb b o hb e) f0 f1 f3 f4 f5⟩
  self := fun _ _ _ _ _ st h => wpAny_pyIter_rangeiter st h
end L2

namespace L2
open PySem PySem.Spec PyProof.Rows
section
variable {X : Cx} {tg : Expr}
def iList (K : PySem.W.Frag) (tl : TE) : TI := fun σ H R => tl σ H fun x H1 => ∃ a, x = .ref a ∧ (∃ xs, SqL K H1 a xs) ∧ R (Itl K a) H1
def iTup (K : PySem.W.Frag) (tl : TE) : TI := fun σ H R => tl σ H fun x H1 => ∃ a, x = .ref a ∧ (∃ xs, SqT K H1 a xs) ∧ R (Itt K a) H1
theorem pi_list {l : Expr} {tl : TE} (hl : PE X l tl) : PI X tg l (iList X.K tl) := by
  intro pins s σ H R I h
  refine thn (hl pins s σ H _ I h) fun v s1 ⟨x, H1, I1, r1, q1⟩ => ?_
  obtain ⟨a, e, ⟨xs, hq⟩, q⟩ := q1
  subst e
  cases r1
  obtain ⟨its, rv, p, hz⟩ := I1.list hq
  refine wpAny_pyIter_list p.isList ?_
  refine ⟨s1.heap.objs.size, [s1.heap.objs.size], _, _, H1, rfl, I1.kept (t' := s1.toks) fun b o e => Heap.get?_push_of_some _ e, turn_list a _, ⟨_, Heap.get?_push_size _ rfl, rfl, rfl⟩, fun b hb => ?_, q⟩
  have e : b = s1.heap.objs.size := by simpa using hb
  subst e
  exact I1.fpOk (Nat.le_refl _) (I1.hok.fresh (Nat.le_refl _))
theorem pi_tup {l : Expr} {tl : TE} (hl : PE X l tl) : PI X tg l (iTup X.K tl) := by
  intro pins s σ H R I h
  refine thn (hl pins s σ H _ I h) fun v s1 ⟨x, H1, I1, r1, q1⟩ => ?_
  obtain ⟨a, e, ⟨xs, hq⟩, q⟩ := q1
  subst e
  cases r1
  obtain ⟨its, rv, p, hz⟩ := I1.tuple hq
  refine wpAny_pyIter_tuple (show s1.heap.IsTuple a its.toArray from p) ?_
  refine ⟨s1.heap.objs.size, [s1.heap.objs.size], _, _, H1, rfl, I1.kept (t' := s1.toks) fun b o e => Heap.get?_push_of_some _ e, turn_tuple a _, ⟨_, Heap.get?_push_size _ rfl, rfl, rfl⟩, fun b hb => ?_, q⟩
  have e : b = s1.heap.objs.size := by simpa using hb
  subst e
  exact I1.fpOk (Nat.le_refl _) (I1.hok.fresh (Nat.le_refl _))
/-- a range object just made, walked -/
theorem range_it {pins : List (Addr × Obj)} {σ : St} {H : Hp} {s : Shared} {R : It → Hp → Prop} {E : Value → Shared → Prop} {lo hi : Int} {t u v : Tok} {tk : Nat} (I : Inv X pins σ H s) (h1 : -(2 ^ 62) ≤ lo) (h2 : lo < 2 ^ 62) (h3 : -(2 ^ 62) ≤ hi) (h4 : hi < 2 ^ 62)
    (q : R (Itr lo (hi - lo).toNat) H) : wpAny (model X.prog X.w) X.A (pyIter (.ref s.heap.objs.size)) (PIE X pins σ tg R) E { s with heap := s.heap.push { cls := .type "range", data := .fields #[.int lo t, .int hi u, .int 1 v] }, toks := tk } := by
  refine wpAny_pyIter_range (IsRange.new ..) (small_one h1 h2 h3 h4) ?_
  have I1 : Inv X pins σ H { s with heap := s.heap.push { cls := .type "range", data := .fields #[.int lo t, .int hi u, .int 1 v] }, toks := tk } := I.kept fun b o e => Heap.get?_push_of_some _ e
  refine ⟨(s.heap.push { cls := .type "range", data := .fields #[.int lo t, .int hi u, .int 1 v] }).objs.size, [(s.heap.push { cls := .type "range", data := .fields #[.int lo t, .int hi u, .int 1 v] }).objs.size], _, _, H, rfl,
    I1.kept (t' := tk) fun b o e => Heap.get?_push_of_some _ e, turn_range _ lo (hi - lo).toNat, ?_, fun b hb => ?_, q⟩
  · have e1 : lo + ((0 : Nat) : Int) * 1 = lo := by simp
    have e2 : (((hi - lo).toNat : Nat) : Int) - ((0 : Nat) : Int) = Builtin.Range.rangeSize lo hi 1 := by rw [rangeSize_one]; split <;> omega
    show IsRangeIter _ _ (lo + ((0 : Nat) : Int) * 1) ((((hi - lo).toNat : Nat) : Int) - ((0 : Nat) : Int)) 1
    rw [e1, e2]
    exact Heap.get?_push_size _ rfl
  · have e : b = (s.heap.push { cls := .type "range", data := .fields #[.int lo t, .int hi u, .int 1 v] }).objs.size := by simpa using hb
    subst e
    exact I1.fpOk (Nat.le_refl _) (I1.hok.fresh (Nat.le_refl _))
def iRng1 (ta : TA) : TI := fun σ H R => ta σ H fun vs H1 => ∃ j : Int, vs = [.int j] ∧ -(2 ^ 62) ≤ j ∧ j < 2 ^ 62 ∧ R (Itr 0 j.toNat) H1
def iRng2 (ta : TA) : TI := fun σ H R => ta σ H fun vs H1 => ∃ i j : Int, vs = [.int i, .int j] ∧ (-(2 ^ 62) ≤ i ∧ i < 2 ^ 62 ∧ -(2 ^ 62) ≤ j ∧ j < 2 ^ 62) ∧ R (Itr i (j - i).toNat) H1
theorem pi_range1 {a : Expr} {ta : TA} {p pos : Pos} (hg : Gl X "range") (hm : X.mg "range" = none) (ha : PA X [a] ta) (hs : starEach [a] X.env = [(false, eval a X.env)] := by rfl) : PI X tg (.Call (.Name "range" p) [a] [] pos) (iRng1 ta) := by
  intro pins s σ H R I h
  refine Call_ (ld_blt I hg hm boot_range (PyProof.Rows.callWith_type1 (thn (ha pos pins s σ H _ I h) fun us s1 ⟨vs, H1, I1, r1, q1⟩ => ?_) hs rfl))
  obtain ⟨j, e, q1, q2, q⟩ := q1
  subst e
  cases r1 with
  | cons r rr =>
    cases rr
    obtain ⟨t, rfl⟩ := r
    exact call_range_1 (range_it I1 (by omega) (by omega) q1 q2 (by simpa using q))
theorem pi_range2 {a b : Expr} {ta : TA} {p pos : Pos} (hg : Gl X "range") (hm : X.mg "range" = none) (ha : PA X [a, b] ta) (hs : starEach [a, b] X.env = [(false, eval a X.env), (false, eval b X.env)] := by rfl) (hs2 : starEach [b] X.env = [(false, eval b X.env)] := by rfl) :
    PI X tg (.Call (.Name "range" p) [a, b] [] pos) (iRng2 ta) := by
  intro pins s σ H R I h
  refine Call_ (ld_blt I hg hm boot_range (PyProof.Rows.callWith_type1 (thn (ha pos pins s σ H _ I h) fun us s1 ⟨vs, H1, I1, r1, q1⟩ => ?_) (by rw [hs, hs2]) (by rw [hs2]; rfl)))
  obtain ⟨i, j, e, ⟨q1, q2, q3, q4⟩, q⟩ := q1
  subst e
  cases r1 with
  | cons r rr =>
    cases rr with
    | cons r' rr =>
      cases rr
      obtain ⟨t, rfl⟩ := r
      obtain ⟨t', rfl⟩ := r'
      exact call_range_2 (range_it I1 q1 q2 q3 q4 q)

/-! ### for -/
/-- W: the invariant by the turn and a measure; N: what the body is to reach -/
def tFor (wi : TI) (g : TG) (tb : TS) : TS := fun D σ H => wi σ H fun J H1 => ∃ W : Nat → Nat → St → Hp → Prop, (∃ m, W 0 m σ H1) ∧ ∀ i m σ H, W i m σ H →
  (J.stop i H ∧ D.nx σ H) ∨ (J.go i H ∧ ∃ N : St → Hp → Prop, (∀ σ' H', N σ' H' → ∃ m', m' < m ∧ W (i + 1) m' σ' H') ∧ ∀ x H', J.yld i H x H' → g x σ H' fun σ2 H2 => tb { D with nx := N, ct := N, bk := D.nx } σ2 H2)
/-- the records at fp as they stand -/
def pinsAt (fp : List Addr) (h : Heap) : List (Addr × Obj) := fp.filterMap fun b => (h.get? b).map fun o => (b, o)
theorem mem_pinsAt {fp : List Addr} {h : Heap} {b : Addr} {o : Obj} (hb : b ∈ fp) (e : h.get? b = some o) : (b, o) ∈ pinsAt fp h := List.mem_filterMap.mpr ⟨b, hb, by rw [e]; rfl⟩
theorem of_pinsAt {fp : List Addr} {h : Heap} {p : Addr × Obj} (hp : p ∈ pinsAt fp h) : p.1 ∈ fp ∧ h.get? p.1 = some p.2 := by
  obtain ⟨b, hb, e⟩ := List.mem_filterMap.mp hp
  cases q : h.get? b with
  | none => rw [q] at e; cases e
  | some o =>
    rw [q] at e
    have e' : (b, o) = p := Option.some.inj e
    subst e'
    exact ⟨hb, q⟩
theorem Inv.pinned {pins : List (Addr × Obj)} {σ : St} {H : Hp} {s : Shared} {fp : List Addr} (I : Inv X pins σ H s) (hf : ∀ b ∈ fp, FpOk X pins H b) (ho : ∀ b ∈ fp, ∃ o, s.heap.get? b = some o ∧ ∀ v, o.data ≠ .cell v) : Inv X (pins ++ pinsAt fp s.heap) σ H s :=
  I.pins_of fun p hp => (List.mem_append.mp hp).elim (fun z => I.pin p (List.mem_append_right _ z)) fun z => by
    obtain ⟨hb, e⟩ := of_pinsAt z
    obtain ⟨f0, f1, f2, _⟩ := hf p.1 hb
    obtain ⟨o, e', d⟩ := ho p.1 hb
    rw [e] at e'; cases e'
    exact ⟨e, f0, f1, f2, d⟩
theorem Inv.unpinned {pins pl : List (Addr × Obj)} {σ : St} {H : Hp} {s : Shared} (I : Inv X (pins ++ pl) σ H s) : Inv X pins σ H s := I.pins_of fun p hp => I.pin p (List.mem_append_right _ (List.mem_append_left _ hp))
theorem ps_for {iter : Expr} {body : List Stmt} {wi : TI} {g : TG} {tb : TS} {pos : Pos} (hp : PassesOwn (model X.prog X.w) X.A X.env X.xe) (hc : X.calm = true) (hi : PI X tg iter wi) (hg : PG X tg g) (hb : PSs X body tb)
    (hs : ∀ x, foldedSetIterable iter X.env x = pure x := by intro _; rfl) : PS X (.For tg iter body [] pos) (tFor wi g tb) := by
  intro pins s σ H D I h
  refine wpAny_For (thn (hi pins s σ H _ I h) fun v s1 h1 => thn h1 fun itv s2 h2 => ?_) hs
  obtain ⟨it, fp, tn, J, H2, e, I2, T, st2, f2, W, ⟨m0, w0⟩, turn⟩ := h2
  subst e
  -- what stays true of the iterator's objects through the loop
  have stat : ∀ {H' : Hp}, (∀ b ∈ fp, H' b = none) → ∀ b ∈ fp, FpOk X pins H' b := fun hn b hb => ⟨hn b hb, (f2 b hb).2⟩
  refine codeAny_forLoop_any (fun n s' => ∃ i σ' H', Inv X pins σ' H' s' ∧ tn i s'.heap ∧ (∀ b ∈ fp, H' b = none) ∧ W i n σ' H') ?_ m0 ⟨0, σ, H2, I2, st2, fun b hb => (f2 b hb).1, w0⟩
  rintro n s3 ⟨i, σ3, H3, I3, st3, fr3, w3⟩
  rcases turn i n σ3 H3 w3 with ⟨stop, qn⟩ | ⟨go, N, hN, step⟩
  · refine wpAny_passesOwn hp (thn (T.done X rfl rfl rfl hc i pins s3 σ3 H3 X.xe I3 (stat fr3) st3 stop) fun r s4 ⟨hr, I4⟩ => ?_)
    subst hr
    exact wpAny_execs_nil ⟨σ3, H3, I4, qn⟩
  · refine wpAny_passesOwn hp (thn (T.item X rfl rfl rfl hc i pins s3 σ3 H3 X.xe I3 (stat fr3) st3 go) fun r s4 ⟨u, hr, h4⟩ => ?_)
    subst hr
    refine wpAny_passesOwn hp (thn h4 fun _ s5 ⟨x, H5, I5, r5, y5, st5, fr5⟩ => ?_)
    have I5' := I5.pinned (stat fr5) (T.obj _ _ st5)
    refine wpAny_passesOwn hp (thn (hg _ s5 σ3 H5 x u _ I5' r5 (step x H5 y5)) fun _ s6 ⟨σ6, H6, I6, q6⟩ => ?_)
    refine wpAny_passesOwn hp (thn (hb _ s6 σ6 H6 _ I6 q6) fun f s7 q7 => ?_)
    have again : ∀ {σ7 : St} {H7 : Hp}, Inv X (pins ++ pinsAt fp s5.heap) σ7 H7 s7 → N σ7 H7 → ∃ m, m < n ∧ ∃ i σ' H', Inv X pins σ' H' s7 ∧ tn i s7.heap ∧ (∀ b ∈ fp, H' b = none) ∧ W i m σ' H' := fun {σ7 H7} I7 n7 => by
      obtain ⟨m', hm, w7⟩ := hN σ7 H7 n7
      refine ⟨m', hm, i + 1, σ7, H7, I7.unpinned, T.keep _ _ _ st5 fun b hb o e => (I7.pin (b, o) (List.mem_append_right _ (List.mem_append_right _ (mem_pinsAt hb e)))).1, fun b hb => ?_, w7⟩
      obtain ⟨o, e, d⟩ := T.obj _ _ st5 b hb
      exact (I7.pin (b, o) (List.mem_append_right _ (List.mem_append_right _ (mem_pinsAt hb e)))).2.1
    cases f with
    | next => obtain ⟨σ7, H7, I7, n7⟩ := q7; exact again I7 n7
    | cont => obtain ⟨σ7, H7, I7, n7⟩ := q7; exact again I7 n7
    | brk => obtain ⟨σ7, H7, I7, q7⟩ := q7; exact ⟨σ7, H7, I7.unpinned, q7⟩
    | ret v => obtain ⟨x7, σ7, H7, I7, r7, q7⟩ := q7; exact ⟨x7, σ7, H7, I7.unpinned, r7, q7⟩
end

/-! ### the forms one uses -/
/-- over a list that the body leaves as it is -/
theorem for_list {K : PySem.W.Frag} {a : Addr} {xs : List V} {g : TG} {tb : TS} {D : Ends} {σ : St} {H : Hp} (Pv : Nat → St → Hp → Prop) (h0 : Pv 0 σ H) (hl : ∀ i σ H, i ≤ xs.length → Pv i σ H → SqL K H a xs)
    (hs : ∀ i x σ H, xs[i]? = some x → Pv i σ H → g x σ H fun σ2 H2 => tb { D with nx := Pv (i + 1), ct := Pv (i + 1), bk := D.nx } σ2 H2) (hd : ∀ σ H, Pv xs.length σ H → D.nx σ H) :
    ∃ W : Nat → Nat → St → Hp → Prop, (∃ m, W 0 m σ H) ∧ ∀ i m σ H, W i m σ H →
      ((Itl K a).stop i H ∧ D.nx σ H) ∨ ((Itl K a).go i H ∧ ∃ N : St → Hp → Prop, (∀ σ' H', N σ' H' → ∃ m', m' < m ∧ W (i + 1) m' σ' H') ∧ ∀ x H', (Itl K a).yld i H x H' → g x σ H' fun σ2 H2 => tb { D with nx := N, ct := N, bk := D.nx } σ2 H2) := by
  refine ⟨fun i m σ H => m = xs.length - i ∧ i ≤ xs.length ∧ Pv i σ H, ⟨xs.length, by simp, Nat.zero_le _, h0⟩, ?_⟩
  rintro i m σ H ⟨rfl, hi, p⟩
  have q := hl i σ H hi p
  by_cases hlt : i < xs.length
  · refine .inr ⟨⟨xs, xs[i], q, by simp [hlt]⟩, Pv (i + 1), fun σ' H' p' => ⟨xs.length - (i + 1), by omega, rfl, hlt, p'⟩, fun x H' y => ?_⟩
    obtain ⟨e, y⟩ := y
    subst e
    exact hs i x σ _ (y xs q) p
  · have e : i = xs.length := by omega
    subst e
    exact .inl ⟨⟨xs, q, Nat.le_refl _⟩, hd σ H p⟩
theorem for_tup {K : PySem.W.Frag} {a : Addr} {xs : List V} {g : TG} {tb : TS} {D : Ends} {σ : St} {H : Hp} (Pv : Nat → St → Hp → Prop) (h0 : Pv 0 σ H) (hl : ∀ i σ H, i ≤ xs.length → Pv i σ H → SqT K H a xs)
    (hs : ∀ i x σ H, xs[i]? = some x → Pv i σ H → g x σ H fun σ2 H2 => tb { D with nx := Pv (i + 1), ct := Pv (i + 1), bk := D.nx } σ2 H2) (hd : ∀ σ H, Pv xs.length σ H → D.nx σ H) :
    ∃ W : Nat → Nat → St → Hp → Prop, (∃ m, W 0 m σ H) ∧ ∀ i m σ H, W i m σ H →
      ((Itt K a).stop i H ∧ D.nx σ H) ∨ ((Itt K a).go i H ∧ ∃ N : St → Hp → Prop, (∀ σ' H', N σ' H' → ∃ m', m' < m ∧ W (i + 1) m' σ' H') ∧ ∀ x H', (Itt K a).yld i H x H' → g x σ H' fun σ2 H2 => tb { D with nx := N, ct := N, bk := D.nx } σ2 H2) := by
  refine ⟨fun i m σ H => m = xs.length - i ∧ i ≤ xs.length ∧ Pv i σ H, ⟨xs.length, by simp, Nat.zero_le _, h0⟩, ?_⟩
  rintro i m σ H ⟨rfl, hi, p⟩
  have q := hl i σ H hi p
  by_cases hlt : i < xs.length
  · refine .inr ⟨⟨xs, xs[i], q, by simp [hlt]⟩, Pv (i + 1), fun σ' H' p' => ⟨xs.length - (i + 1), by omega, rfl, hlt, p'⟩, fun x H' y => ?_⟩
    obtain ⟨e, y⟩ := y
    subst e
    exact hs i x σ _ (y xs q) p
  · have e : i = xs.length := by omega
    subst e
    exact .inl ⟨⟨xs, q, Nat.le_refl _⟩, hd σ H p⟩
theorem for_range {lo : Int} {n : Nat} {g : TG} {tb : TS} {D : Ends} {σ : St} {H : Hp} (Pv : Nat → St → Hp → Prop) (h0 : Pv 0 σ H)
    (hs : ∀ i σ H, i < n → Pv i σ H → g (.int (lo + i)) σ H fun σ2 H2 => tb { D with nx := Pv (i + 1), ct := Pv (i + 1), bk := D.nx } σ2 H2) (hd : ∀ σ H, Pv n σ H → D.nx σ H) :
    ∃ W : Nat → Nat → St → Hp → Prop, (∃ m, W 0 m σ H) ∧ ∀ i m σ H, W i m σ H →
      ((Itr lo n).stop i H ∧ D.nx σ H) ∨ ((Itr lo n).go i H ∧ ∃ N : St → Hp → Prop, (∀ σ' H', N σ' H' → ∃ m', m' < m ∧ W (i + 1) m' σ' H') ∧ ∀ x H', (Itr lo n).yld i H x H' → g x σ H' fun σ2 H2 => tb { D with nx := N, ct := N, bk := D.nx } σ2 H2) := by
  refine ⟨fun i m σ H => m = n - i ∧ i ≤ n ∧ Pv i σ H, ⟨n, by simp, Nat.zero_le _, h0⟩, ?_⟩
  rintro i m σ H ⟨rfl, hi, p⟩
  by_cases hlt : i < n
  · refine .inr ⟨hlt, Pv (i + 1), fun σ' H' p' => ⟨n - (i + 1), by omega, rfl, hlt, p'⟩, fun x H' y => ?_⟩
    obtain ⟨e, y⟩ := y
    subst e y
    exact hs i σ _ hlt p
  · have e : i = n := by omega
    subst e
    exact .inl ⟨Nat.le_refl _, hd σ H p⟩
/-- while, by a word and a measure of the state -/
theorem while_by {c : TT} {tb : TS} {D : Ends} {σ : St} {H : Hp} (Pv : St → Hp → Prop) (μ : St → Hp → Nat) (h0 : Pv σ H)
    (hs : ∀ σ H, Pv σ H → c σ H fun b H1 => if b = true then tb { D with nx := fun σ' H' => Pv σ' H' ∧ μ σ' H' < μ σ H, ct := fun σ' H' => Pv σ' H' ∧ μ σ' H' < μ σ H, bk := D.nx } σ H1 else D.nx σ H1)
    (mono : ∀ σ H Q Q', (∀ b H1, Q b H1 → Q' b H1) → c σ H Q → c σ H Q') : tWhile c tb D σ H := by
  refine ⟨fun m σ H => m = μ σ H ∧ Pv σ H, ⟨_, rfl, h0⟩, ?_⟩
  rintro m σ H ⟨rfl, p⟩
  refine mono σ H _ _ (fun b H1 q => ?_) (hs σ H p)
  cases b with
  | true => exact ⟨_, fun σ' H' ⟨p', l⟩ => ⟨_, l, rfl, p'⟩, q⟩
  | false => exact q
end L2

namespace L2
open PySem PySem.Spec PyProof.Rows

abbrev R2 := V → V → Hp → VK → Prop
/-- a two-place operation on values: f is binaryOp op, inplaceOp op or compareOp op -/
def OpR (X : Cx) (f : Value → Value → Sem Value) (r : R2) : Prop :=
  ∀ (pins : List (Addr × Obj)) (s : Shared) (σ : St) (H : Hp) (x y : V) (v u : Value) (Q : VK), Inv X pins σ H s → RelV x v → RelV y u → r x y H Q →
    wpAny (model X.prog X.w) X.A (f v u) (EP X pins σ Q) X.xe s
/-- a one-place operation -/
def UnR (X : Cx) (f : Value → Sem Value) (r : V → Hp → VK → Prop) : Prop :=
  ∀ (pins : List (Addr × Obj)) (s : Shared) (σ : St) (H : Hp) (x : V) (v : Value) (Q : VK), Inv X pins σ H s → RelV x v → r x H Q →
    wpAny (model X.prog X.w) X.A (f v) (EP X pins σ Q) X.xe s
/-- a call of a value that is known (a builtin, a type) with values -/
def CallR (X : Cx) (f : Value) (r : List V → Hp → VK → Prop) : Prop :=
  ∀ (pins : List (Addr × Obj)) (s : Shared) (σ : St) (H : Hp) (xs : List V) (us : List Value) (Q : VK), Inv X pins σ H s → Vals xs us → r xs H Q →
    wpAny (model X.prog X.w) X.A (call f us) (EP X pins σ Q) X.xe s
def tOp (r : R2) (ta tb : TE) : TE := fun σ H Q => ta σ H fun x H1 => tb σ H1 fun y H2 => r x y H2 Q
def tUn (r : V → Hp → VK → Prop) (ta : TE) : TE := fun σ H Q => ta σ H fun x H1 => r x H1 Q
/-- ints in, under C, and a value out -/
def rI (C : Int → Int → Prop) (g : Int → Int → V) : R2 := fun x y H Q => ∃ i j, x = .int i ∧ y = .int j ∧ C i j ∧ Q (g i j) H
def rI0 (g : Int → Int → V) : R2 := fun x y H Q => ∃ i j, x = .int i ∧ y = .int j ∧ Q (g i j) H
def rU (g : Int → V) : V → Hp → VK → Prop := fun x H Q => ∃ i, x = .int i ∧ Q (g i) H

section
variable {X : Cx} {a b c : Expr} {ta tb tc : TE} {pos : Pos}

theorem binT (ha : PE X a ta) (hb : PE X b tb) {pins : List (Addr × Obj)} {s : Shared} {σ : St} {H : Hp} {R : V → V → Hp → Prop} (I : Inv X pins σ H s)
    (h : ta σ H fun x H1 => tb σ H1 fun y H2 => R x y H2) {Q : Value → Shared → Prop} {f : Value → Value → Sem Value}
    (hf : ∀ v u s2 x y H2, Inv X pins σ H2 s2 → RelV x v → RelV y u → R x y H2 → wpAny (model X.prog X.w) X.A (f v u) Q X.xe s2) :
    wpAny (model X.prog X.w) X.A (eval a X.env) (fun v s₁ => wpAny (model X.prog X.w) X.A (eval b X.env) (fun u s₂ => wpAny (model X.prog X.w) X.A (f v u) Q X.xe s₂) X.xe s₁) X.xe s := by
  refine thn (ha pins s σ H _ I h) fun v s1 ⟨x, H1, I1, r1, q1⟩ => ?_
  refine thn (hb pins s1 σ H1 _ I1 q1) fun u s2 ⟨y, H2, I2, r2, q2⟩ => ?_
  exact hf v u s2 x y H2 I2 r1 r2 q2

theorem pe_op {op : Operator} {r : R2} (ho : OpR X (binaryOp op) r) (ha : PE X a ta) (hb : PE X b tb) : PE X (.BinOp a op b pos) (tOp r ta tb) := by
  intro pins s σ H Q I h
  exact wpAny_BinOp (binT ha hb I h fun v u s2 x y H2 I2 rx ry q => ho pins s2 σ H2 x y v u Q I2 rx ry q)
theorem pe_un {op : UnaryOp} {r : V → Hp → VK → Prop} (ho : UnR X (unaryOp op) r) (ha : PE X a ta) : PE X (.UnaryOp op a pos) (tUn r ta) := by
  intro pins s σ H Q I h
  exact UnaryOp_ (thn (ha pins s σ H _ I h) fun v s1 ⟨x, H1, I1, r1, q1⟩ => ho pins s1 σ H1 x v Q I1 r1 q1)
/-! ### ints -/
theorem opI {f : Value → Value → Sem Value} {C : Int → Int → Prop} {g : Int → Int → Int}
    (rule : ∀ (i j : Int) (t u : Tok) (s : Shared) (Q : Value → Shared → Prop) (E : Value → Shared → Prop), C i j → Q (.int (g i j) s.toks) { s with toks := s.toks + 1 } → wpAny (model X.prog X.w) X.A (f (.int i t) (.int j u)) Q E s) :
    OpR X f (rI C fun i j => .int (g i j)) := by
  intro pins s σ H x y v u Q I rx ry h
  obtain ⟨i, j, rfl, rfl, hc, q⟩ := h
  obtain ⟨t, rfl⟩ := rx
  obtain ⟨t', rfl⟩ := ry
  exact rule i j t t' s _ _ hc ⟨.int (g i j), H, I.tok _, ⟨_, rfl⟩, q⟩
theorem opI0 {f : Value → Value → Sem Value} {g : Int → Int → Int}
    (rule : ∀ (i j : Int) (t u : Tok) (s : Shared) (Q : Value → Shared → Prop) (E : Value → Shared → Prop), Q (.int (g i j) s.toks) { s with toks := s.toks + 1 } → wpAny (model X.prog X.w) X.A (f (.int i t) (.int j u)) Q E s) :
    OpR X f (rI0 fun i j => .int (g i j)) := by
  intro pins s σ H x y v u Q I rx ry h
  obtain ⟨i, j, rfl, rfl, q⟩ := h
  obtain ⟨t, rfl⟩ := rx
  obtain ⟨t', rfl⟩ := ry
  exact rule i j t t' s _ _ ⟨.int (g i j), H, I.tok _, ⟨_, rfl⟩, q⟩
theorem opB0 {f : Value → Value → Sem Value} {g : Int → Int → Bool}
    (rule : ∀ (i j : Int) (t u : Tok) (s : Shared) (Q : Value → Shared → Prop) (E : Value → Shared → Prop), Q (.bool (g i j)) s → wpAny (model X.prog X.w) X.A (f (.int i t) (.int j u)) Q E s) :
    OpR X f (rI0 fun i j => .bl (g i j)) := by
  intro pins s σ H x y v u Q I rx ry h
  obtain ⟨i, j, rfl, rfl, q⟩ := h
  obtain ⟨t, rfl⟩ := rx
  obtain ⟨t', rfl⟩ := ry
  exact rule i j t t' s _ _ ⟨.bl (g i j), H, I, rfl, q⟩

def CPow (i j : Int) : Prop := 0 ≤ j ∧ j ≤ 1000000 ∧ i.natAbs < 2 ^ 64
def CMul (i j : Int) : Prop := (-(2 ^ 64) < i ∧ i < 2 ^ 64) ∨ (-(2 ^ 64) < j ∧ j < 2 ^ 64)
theorem CMul.ok {i j : Int} (h : CMul i j) : IntMulOk i j := by
  rcases h with ⟨h1, h2⟩ | ⟨h1, h2⟩
  · exact .of_left (intBits_le_64 h1 h2)
  · exact .of_right (intBits_le_64 h1 h2)
theorem op_add : OpR X (binaryOp .Add) (rI0 fun i j => .int (i + j)) := opI0 fun _ _ _ _ _ _ _ q => add_int q
theorem op_sub : OpR X (binaryOp .Sub) (rI0 fun i j => .int (i - j)) := opI0 fun _ _ _ _ _ _ _ q => sub_int q
/-- % by a positive divisor of any size -/
theorem op_mod : OpR X (binaryOp .Mod) (rI (fun _ j => 0 < j) fun i j => .int (i % j)) := opI fun i j _ _ _ _ _ hc q => by
  have h1 : (0 : Int) < j := hc
  exact mod_int' (by omega) (by rw [Int.fmod_eq_emod_of_nonneg i (by omega)]; exact q)
theorem op_pow : OpR X (binaryOp .Pow) (rI CPow fun i j => .int (i ^ j.toNat)) := opI fun _ _ _ _ _ _ _ hc q => pow_int_small hc.1 hc.2.1 hc.2.2 q
theorem op_shl : OpR X (binaryOp .LShift) (rI CPow fun i j => .int (i * 2 ^ j.toNat)) := opI fun _ _ _ _ _ _ _ hc q => lshift_int_small hc.1 hc.2.1 hc.2.2 q
theorem unI {f : Value → Sem Value} {g : Int → Int}
    (rule : ∀ (i : Int) (t : Tok) (s : Shared) (Q : Value → Shared → Prop) (E : Value → Shared → Prop), Q (.int (g i) s.toks) { s with toks := s.toks + 1 } → wpAny (model X.prog X.w) X.A (f (.int i t)) Q E s) :
    UnR X f (rU fun i => .int (g i)) := by
  intro pins s σ H x v Q I rx h
  obtain ⟨i, rfl, q⟩ := h
  obtain ⟨t, rfl⟩ := rx
  exact rule i t s _ _ ⟨.int (g i), H, I.tok _, ⟨_, rfl⟩, q⟩
theorem un_neg : UnR X (unaryOp .USub) (rU fun i => .int (-i)) := unI fun _ _ _ _ _ q => neg_int q
/-! ### bools among ints: n += (a < b) -/
end

/-! ### comparisons -/
/-- the scalars that == tells apart as data does -/
def scal : V → V → Bool
  | .non, .non => true | .non, .int _ => true | .int _, .non => true | .non, .bl _ => true | .bl _, .non => true | .non, .str _ => true | .str _, .non => true
  | .int _, .int _ => true | .bl _, .bl _ => true | .str _, .str _ => true | .byt _, .byt _ => true
  | .int _, .str _ => true | .str _, .int _ => true | .bl _, .str _ => true | .str _, .bl _ => true
  | _, _ => false
def rEq : R2 := fun x y H Q => scal x y = true ∧ Q (.bl (decide (x = y))) H
def rNe : R2 := fun x y H Q => scal x y = true ∧ Q (.bl (!decide (x = y))) H

theorem dec_int {i j : Int} : decide (V.int i = V.int j) = (i == j) := by
  rw [Bool.eq_iff_iff]
  simp
theorem dec_bl {i j : Bool} : decide (V.bl i = V.bl j) = (i == j) := by
  rw [Bool.eq_iff_iff]
  simp
theorem dec_str {i j : Str} : decide (V.str i = V.str j) = (i == j) := by
  rw [Bool.eq_iff_iff]
  simp
theorem dec_byt {i j : Array UInt8} : decide (V.byt i = V.byt j) = (i.toList == j.toList) := by
  rw [Bool.eq_iff_iff]
  cases i
  cases j
  simp

section
variable {X : Cx} {a b c : Expr} {ta tb tc : TE} {pos : Pos}
theorem fin_bl {pins : List (Addr × Obj)} {σ : St} {H : Hp} {s : Shared} {Q : VK} {k k' : Bool} (I : Inv X pins σ H s) (q : Q (.bl k) H) (e : k = k') : EP X pins σ Q (.bool k') s := by
  subst e
  exact ⟨.bl k, H, I, rfl, q⟩
theorem op_eq : OpR X (compareOp .Eq) rEq := by
  intro pins s σ H x y v u Q I rx ry h
  obtain ⟨hs, q⟩ := h
  cases x with
  | non =>
    cases rx
    cases y with
    | non => cases ry; exact PySem.EqNone.eq_none_none (fin_bl I q (by simp))
    | bl j => cases ry; exact PySem.EqNone.eq_none_bool (fin_bl I q (by simp))
    | int j => obtain ⟨t', rfl⟩ := ry; exact PySem.EqNone.eq_none_int (fin_bl I q (by simp))
    | str j => obtain ⟨t', rfl⟩ := ry; exact PySem.EqNone.eq_none_str (fin_bl I q (by simp))
    | _ => exact absurd (show false = true from hs) Bool.false_ne_true
  | bl i =>
    cases rx
    cases y with
    | non => cases ry; exact PySem.EqNone.eq_bool_none (fin_bl I q (by simp))
    | bl j => cases ry; exact eq_bool (fin_bl I q dec_bl)
    | str j => obtain ⟨t', rfl⟩ := ry; exact PySem.EqMixed.eq_bool_str (fin_bl I q (by simp))
    | _ => exact absurd (show false = true from hs) Bool.false_ne_true
  | int i =>
    obtain ⟨t, rfl⟩ := rx
    cases y with
    | non => cases ry; exact PySem.EqNone.eq_int_none (fin_bl I q (by simp))
    | int j => obtain ⟨t', rfl⟩ := ry; exact eq_int (fin_bl I q dec_int)
    | str j => obtain ⟨t', rfl⟩ := ry; exact PySem.EqMixed.eq_int_str (fin_bl I q (by simp))
    | _ => exact absurd (show false = true from hs) Bool.false_ne_true
  | str i =>
    obtain ⟨t, rfl⟩ := rx
    cases y with
    | non => cases ry; exact PySem.EqNone.eq_str_none (fin_bl I q (by simp))
    | bl j => cases ry; exact PySem.EqMixed.eq_str_bool (fin_bl I q (by simp))
    | int j => obtain ⟨t', rfl⟩ := ry; exact PySem.EqMixed.eq_str_int (fin_bl I q (by simp))
    | str j => obtain ⟨t', rfl⟩ := ry; exact eq_str (fin_bl I q dec_str)
    | _ => exact absurd (show false = true from hs) Bool.false_ne_true
  | byt i =>
    obtain ⟨t, rfl⟩ := rx
    cases y with
    | byt j => obtain ⟨t', rfl⟩ := ry; exact PySem.W.eq_bytes (fin_bl I q dec_byt)
    | _ => exact absurd (show false = true from hs) Bool.false_ne_true
  | _ => cases y <;> exact absurd (show false = true from hs) Bool.false_ne_true
theorem op_ne : OpR X (compareOp .NotEq) rNe := by
  intro pins s σ H x y v u Q I rx ry h
  obtain ⟨hs, q⟩ := h
  cases x with
  | non =>
    cases rx
    cases y with
    | non => cases ry; exact PySem.EqNone.ne_none_none (fin_bl I q (by simp))
    | bl j => cases ry; exact PySem.EqNone.ne_none_bool (fin_bl I q (by simp))
    | int j => obtain ⟨t', rfl⟩ := ry; exact PySem.EqNone.ne_none_int (fin_bl I q (by simp))
    | str j => obtain ⟨t', rfl⟩ := ry; exact PySem.EqNone.ne_none_str (fin_bl I q (by simp))
    | _ => exact absurd (show false = true from hs) Bool.false_ne_true
  | bl i =>
    cases rx
    cases y with
    | non => cases ry; exact PySem.EqNone.ne_bool_none (fin_bl I q (by simp))
    | bl j => cases ry; exact ne_bool (fin_bl I q (congrArg not dec_bl))
    | str j => obtain ⟨t', rfl⟩ := ry; exact PySem.EqMixed.ne_bool_str (fin_bl I q (by simp))
    | _ => exact absurd (show false = true from hs) Bool.false_ne_true
  | int i =>
    obtain ⟨t, rfl⟩ := rx
    cases y with
    | non => cases ry; exact PySem.EqNone.ne_int_none (fin_bl I q (by simp))
    | int j => obtain ⟨t', rfl⟩ := ry; exact ne_int (fin_bl I q (congrArg not dec_int))
    | str j => obtain ⟨t', rfl⟩ := ry; exact PySem.EqMixed.ne_int_str (fin_bl I q (by simp))
    | _ => exact absurd (show false = true from hs) Bool.false_ne_true
  | str i =>
    obtain ⟨t, rfl⟩ := rx
    cases y with
    | non => cases ry; exact PySem.EqNone.ne_str_none (fin_bl I q (by simp))
    | bl j => cases ry; exact PySem.EqMixed.ne_str_bool (fin_bl I q (by simp))
    | int j => obtain ⟨t', rfl⟩ := ry; exact PySem.EqMixed.ne_str_int (fin_bl I q (by simp))
    | str j => obtain ⟨t', rfl⟩ := ry; exact ne_str (fin_bl I q (congrArg not dec_str))
    | _ => exact absurd (show false = true from hs) Bool.false_ne_true
  | byt i =>
    obtain ⟨t, rfl⟩ := rx
    cases y with
    | byt j => obtain ⟨t', rfl⟩ := ry; exact PySem.W.ne_bytes (fin_bl I q (congrArg not dec_byt))
    | _ => exact absurd (show false = true from hs) Bool.false_ne_true
  | _ => cases y <;> exact absurd (show false = true from hs) Bool.false_ne_true

theorem op_lt : OpR X (compareOp .Lt) (rI0 fun i j => .bl (decide (i < j))) := opB0 fun _ _ _ _ _ _ _ q => lt_int q
theorem op_le : OpR X (compareOp .LtE) (rI0 fun i j => .bl (decide (i ≤ j))) := opB0 fun _ _ _ _ _ _ _ q => le_int q
theorem op_gt : OpR X (compareOp .Gt) (rI0 fun i j => .bl (decide (j < i))) := opB0 fun _ _ _ _ _ _ _ q => gt_int q
theorem op_ge : OpR X (compareOp .GtE) (rI0 fun i j => .bl (decide (j ≤ i))) := opB0 fun _ _ _ _ _ _ _ q => ge_int q
/-- is None, is not None: the right side a value none -/
theorem op_isN : OpR X (compareOp .Is) (fun x y H Q => y = .non ∧ Q (.bl (decide (x = .non))) H) := by
  intro pins s σ H x y v u Q I rx ry h
  obtain ⟨rfl, q⟩ := h
  cases ry
  refine is_none_gen (fin_bl I q ?_)
  cases x <;> first
    | (cases rx; rfl)
    | (obtain ⟨t, rfl⟩ := rx; rfl)
theorem op_notN : OpR X (compareOp .IsNot) (fun x y H Q => y = .non ∧ Q (.bl (!decide (x = .non))) H) := by
  intro pins s σ H x y v u Q I rx ry h
  obtain ⟨rfl, q⟩ := h
  cases ry
  refine isnot_none_gen (fin_bl I q ?_)
  cases x <;> first
    | (cases rx; rfl)
    | (obtain ⟨t, rfl⟩ := rx; rfl)

theorem nomark (b : Expr) {op : CmpOp} (h : op ≠ .In := by decide) (h2 : op ≠ .NotIn := by decide) : behindInMarks op b = false := by
  have e1 : (op == CmpOp.In) = false := by cases op <;> first | rfl | exact absurd rfl h
  have e2 : (op == CmpOp.NotIn) = false := by cases op <;> first | rfl | exact absurd rfl h2
  cases b <;> simp [behindInMarks, e1, e2]
/-- a comparison as a value; hm: nomark b, or (for in, not in) by with_unfolding_all rfl -/
theorem pe_cmpR {op : CmpOp} {r : R2} (ho : OpR X (compareOp op) r) (ha : PE X a ta) (hb : PE X b tb) (hm : behindInMarks op b = false) : PE X (.Compare a [op] [b] pos) (tOp r ta tb) := by
  intro pins s σ H Q I h
  exact wpAny_Compare1 (binT ha hb I h fun v u s2 x y H2 I2 rx ry q => ho pins s2 σ H2 x y v u Q I2 rx ry q) hm
/-- a reading of a value as a test -/
def tTest (t : TE) : TT := fun σ H Q => t σ H fun x H' => ∃ k, x = .bl k ∧ Q k H'
theorem pt_cmpR {op : CmpOp} {r : R2} (ho : OpR X (compareOp op) r) (ha : PE X a ta) (hb : PE X b tb) (hm : behindInMarks op b = false) : PT X (.Compare a [op] [b] pos) (tTest (tOp r ta tb)) := by
  intro pins s σ H Q I h
  refine wpAny_isTrue_Compare1 (thn (ha pins s σ H _ I h) fun v s1 ⟨x, H1, I1, r1, q1⟩ => thn (hb pins s1 σ H1 _ I1 q1) fun u s2 ⟨y, H2, I2, r2, q2⟩ =>
    thn (ho pins s2 σ H2 x y v u _ I2 r1 r2 q2) fun c s3 ⟨z, H3, I3, r3, k, e, q3⟩ => ?_) hm
  subst e
  cases r3
  exact wpAny_truthy_bool ⟨H3, I3, q3⟩
/-- a op1 b op2 c -/
def tChain (r r' : R2) (ta tb tc : TE) : TE := fun σ H Q => ta σ H fun x H1 => tb σ H1 fun y H2 => r x y H2 fun z H3 => ∃ k, z = .bl k ∧
  (if k = true then tc σ H3 fun w' H4 => r' y w' H4 Q else Q (.bl false) H3)
theorem pt_chain {op op' : CmpOp} {r r' : R2} (ho : OpR X (compareOp op) r) (ho' : OpR X (compareOp op') r') (ha : PE X a ta) (hb : PE X b tb) (hc : PE X c tc)
    (hm : lastMarks [op, op'] [b, c] = false := by with_unfolding_all rfl) : PT X (.Compare a [op, op'] [b, c] pos) (tTest (tChain r r' ta tb tc)) := by
  intro pins s σ H Q I h
  refine isTrue_chain (thn (ha pins s σ H _ I h) fun v s1 ⟨x, H1, I1, r1, q1⟩ => test_link (thn (hb pins s1 σ H1 _ I1 q1) fun u s2 ⟨y, H2, I2, r2, q2⟩ =>
    thn (ho pins s2 σ H2 x y v u _ I2 r1 r2 q2) fun d s3 ⟨z, H3, I3, r3, k, e, q3⟩ => ?_)) hm
  subst e
  cases r3
  refine wpAny_truthy_bool ?_
  cases k with
  | false =>
    obtain ⟨k', e', q'⟩ := q3
    cases e'
    exact ite_ff ⟨H3, I3, q'⟩
  | true =>
    refine ite_tt (test_last (thn (hc pins s3 σ H3 _ I3 q3) fun w' s4 ⟨z', H4, I4, r4, q4⟩ => thn (ho' pins s4 σ H4 y z' u w' _ I4 r2 r4 q4) fun d' s5 ⟨z2, H5, I5, r5, k2, e2, q5⟩ => ?_))
    subst e2
    cases r5
    exact wpAny_truthy_bool ⟨H5, I5, q5⟩

/-! ### truth -/
theorem line63 : (sizeLine : Nat) < 2 ^ 63 := by rw [sizeLine_eq]; decide
/-! ### strs and bytes -/
/-! ### scalar builtins, by CallR -/
theorem vals1 {x : V} {us : List Value} (r : Vals [x] us) : ∃ u, us = [u] ∧ RelV x u := by
  cases r with
  | cons r1 r2 => cases r2; exact ⟨_, rfl, r1⟩
theorem vals2 {x y : V} {us : List Value} (r : Vals [x, y] us) : ∃ u w', us = [u, w'] ∧ RelV x u ∧ RelV y w' := by
  cases r with
  | cons r1 r2 =>
    cases r2 with
    | cons r3 r4 => cases r4; exact ⟨_, _, rfl, r1, r3⟩
theorem call_abs : CallR X (.builtin "abs") (fun xs H Q => ∃ i, xs = [.int i] ∧ Q (.int (if i < 0 then -i else i)) H) := by
  intro pins s σ H xs us Q I r h
  obtain ⟨i, rfl, q⟩ := h
  obtain ⟨u, rfl, t, rfl⟩ := vals1 r
  exact call_abs_int fun u tk => ⟨.int (if i < 0 then -i else i), H, I.tok _, ⟨_, rfl⟩, q⟩
theorem call_int1 : CallR X (.type "int") (fun xs H Q => (∃ i, xs = [.int i] ∧ Q (.int i) H) ∨ ∃ k, xs = [.bl k] ∧ Q (.int (if k then 1 else 0)) H) := by
  intro pins s σ H xs us Q I r h
  rcases h with ⟨i, rfl, q⟩ | ⟨k, rfl, q⟩
  · obtain ⟨u, rfl, t, rfl⟩ := vals1 r
    exact call_int_int ⟨.int i, H, I, ⟨_, rfl⟩, q⟩
  · obtain ⟨u, rfl, r1⟩ := vals1 r
    cases r1
    exact call_int_bool ⟨.int (if k then 1 else 0), H, I.tok _, ⟨_, rfl⟩, q⟩
end
end L2

namespace L2
open PySem PySem.Spec PyProof.Rows

/-! ### an instance, its attributes a map -/
structure ObjM (h : Heap) (x dx C : Addr) (mA : Str → Option Value) : Prop where
  obj : h.get? x = some (PySem.W.instObj C dx)
  ns : h.Ns1 dx mA
  ne : dx ≠ x

theorem lookIn_ns {h : Heap} {dx : Addr} {mA : Str → Option Value} (n : h.Ns1 dx mA) : ∃ od, h.get? dx = some od ∧ ∀ name, PySem.W.lookIn name od = some (mA name) := by
  obtain ⟨o, es, ep, ho, hd, hk, _, hm⟩ := n
  refine ⟨o, ho, fun name => ?_⟩
  have e := hm name
  unfold nsFind findBy at e
  rw [← Array.find?_toList] at e
  unfold PySem.W.lookIn
  rw [hd]
  dsimp only
  split
  · rename_i y q
    rw [q] at e
    exact congrArg some e
  · rename_i q
    rw [q] at e
    have a : es.toList.any (·.refKey) = false := by
      rw [List.any_eq_false]
      intro y hy
      obtain ⟨z, t, hkey⟩ := hk y (Array.mem_toList_iff.mp hy)
      simp [DictEntry.refKey, hkey]
    have a' : ¬ es.toList.any (·.refKey) = true := by rw [a]; exact Bool.false_ne_true
    rw [if_neg a']
    exact congrArg some e

theorem ObjM.look {h : Heap} {x dx C : Addr} {mA : Str → Option Value} (I : ObjM h x dx C mA) : ∃ od, PySem.W.InstAt h x (PySem.W.instObj C dx) C (some od) ∧ ∀ name, PySem.W.lookIn name od = some (mA name) :=
  let ⟨od, ho, hl⟩ := lookIn_ns I.ns
  ⟨od, ⟨I.obj, rfl, rfl, ho⟩, hl⟩

section
variable {prog : Program} {w : World} {A : Around} {E : Value → Shared → Prop} {s : Shared} {K : PySem.W.Frag} {x dx C f : Addr} {mA : Str → Option Value} {name : Str} {v : Value}

end

/-! ### the attributes as a list of pairs -/
section
variable {P : Program} {w : World} {H H' : Hp} {h h' : Heap} {a C dx : Addr} {fs fs' : List (Str × V)}
theorem ins_get (hok : HOk P w H h) (e : H a = some (.ins C dx fs)) : ∃ mA, ObjM h a dx C mA ∧ (∀ f, RelO (fs.lookup f) (mA f)) ∧ PySem.Within mA (fs.map (·.1)) ∧ fs.length ≤ 1000 ∧ H dx = some (.own a) := by
  obtain ⟨d, z, ne, ob, mA, n, r, q⟩ := (show ObjOk P w H h a (.ins C dx fs) from hok a _ e)
  exact ⟨mA, ⟨ob, n, ne⟩, r, q, z, d⟩
end

/-! ### what of the text a class must have -/
structure Cls (K : PySem.W.Frag) (C : Addr) : Prop where
  pg : PySem.W.plainGet K C Str.empty = true
  hd : PySem.W.hasDictIn K C = true
  po : PySem.W.plainOver K C = true
  sa : PySem.W.findIn K (.ref C) "__setattr__" = some (some (.builtin "object.__setattr__"))
theorem Cls.get {K : PySem.W.Frag} {C : Addr} (c : Cls K C) (f : Str) : PySem.W.plainGet K C f = true := c.pg
section
variable {X : Cx} {pins : List (Addr × Obj)} {σ : St} {H : Hp} {s : Shared} {a C dx : Addr} {fs : List (Str × V)} {f : Str} {v : V} {A : Around} {E : Value → Shared → Prop}

end

/-! ### readings and rules -/
section
variable {X : Cx} {o e value : Expr} {f : Str} {pos pos' tpos : Pos} {ta tv : TE}
end

/-! ### isinstance -/
section
variable {X : Cx} {pins : List (Addr × Obj)} {σ : St} {H : Hp} {s : Shared} {A : Around} {E : Value → Shared → Prop} {Q : Value → Shared → Prop} {c : Value} {b : Bool}
/-- the type of a value, as the fragment's deciders take it; for an instance its class -/
inductive TyOf (K : PySem.W.Frag) (H : Hp) : V → Value → Prop where
  | non : TyOf K H .non (.type "NoneType")
  | bl (x : Bool) : TyOf K H (.bl x) (.type "bool")
  | int (i : Int) : TyOf K H (.int i) (.type "int")
  | str (x : Str) : TyOf K H (.str x) (.type "str")
  | flt (x : UInt64) : TyOf K H (.flt x) (.type "float")
  | lst {a : Addr} {xs : List V} (e : H a = some (.lst xs)) : TyOf K H (.ref a) (.type "list")
  | frz {a : Addr} {o : Obj} {xs : List V} (e : H a = some (.frz o (.lst xs))) : TyOf K H (.ref a) (.type "list")
  | tup {a : Addr} {xs : List V} (e : H a = some (.tup xs)) : TyOf K H (.ref a) (.type "tuple")
  | dK {a : Addr} {kvs : List (Key × V)} (e : H a = some (.dK kvs)) : TyOf K H (.ref a) (.type "dict")
  | dT {a : Addr} {kvs : List (List Key × V)} (e : H a = some (.dT kvs)) : TyOf K H (.ref a) (.type "dict")
  | ins {a C dx : Addr} {fs : List (Str × V)} (e : H a = some (.ins C dx fs)) (cl : Cls K C) (ha : PySem.W.findIn K (.ref C) "__class__" = some (some (.builtin "object.__class__")))
      (hn : PySem.W.specialIn K (.builtin "object.__class__") "__get__" = some (some (.builtin "getset_descriptor.__get__"))) (htk : PySem.W.takesIn K (.builtin "object.__class__") = some true)
      (hm : PySem.W.mroIn K C (.type "object") = some true) : TyOf K H (.ref a) (.ref C)
/-- isinstance(x, c) for one class c, a built-in or an own one: kitOne's answer -/
theorem isinst_ok {x : V} {u t : Value} (I : Inv X pins σ H s) (rx : RelV x u) (ty : TyOf X.K H x t) (e : PySem.W.kitOne X.K t c = some b) (h : ∀ tk, Q (.bool b) { s with toks := tk }) :
    wpAny (model X.prog X.w) A (call (.builtin "isinstance") [u, c]) Q E s := by
  cases ty with
  | non => cases (show u = Value.none from rx); exact PySem.W.kia_one PySem.W.kitx_none I.kIn True.intro e (fun z => nomatch z) h
  | bl y => cases (show u = Value.bool y from rx); exact PySem.W.kia_one PySem.W.kitx_bool I.kIn True.intro e (fun z => nomatch z) h
  | int i => obtain ⟨t, q⟩ := (show ∃ t, u = Value.int i t from rx); cases q; exact PySem.W.kia_one PySem.W.kitx_int I.kIn True.intro e (fun z => nomatch z) h
  | str y => obtain ⟨t, q⟩ := (show ∃ t, u = Value.str y t from rx); cases q; exact PySem.W.kia_one PySem.W.kitx_str I.kIn True.intro e (fun z => nomatch z) h
  | flt y => obtain ⟨t, q⟩ := (show ∃ t, u = Value.float y t from rx); cases q; exact PySem.W.kia_one PySem.W.kitx_float I.kIn True.intro e (fun z => nomatch z) h
  | @lst a xs ea =>
    cases (show u = Value.ref a from rx)
    obtain ⟨_, _, n, _, h1⟩ := (show ObjOk X.prog X.w H s.heap a (.lst xs) from I.hok a _ ea)
    exact PySem.W.kia_one PySem.W.kitx_list I.kIn ⟨_, h1, rfl⟩ e (fun z => nomatch z) h
  | @frz a ob xs ea =>
    cases (show u = Value.ref a from rx)
    obtain ⟨_, _, _, n, _, h1⟩ := (show ObjOk X.prog X.w H s.heap a (.frz ob (.lst xs)) from I.hok a _ ea)
    exact PySem.W.kia_one PySem.W.kitx_list I.kIn ⟨_, h1, rfl⟩ e (fun z => nomatch z) h
  | @tup a xs ea =>
    cases (show u = Value.ref a from rx)
    obtain ⟨_, _, _, p⟩ := (show ObjOk X.prog X.w H s.heap a (.tup xs) from I.hok a _ ea)
    obtain ⟨o, h1, h2, _⟩ := p
    exact PySem.W.kia_one PySem.W.kitx_tuple I.kIn ⟨o, h1, h2⟩ e (fun z => nomatch z) h
  | @dK a kvs ea =>
    cases (show u = Value.ref a from rx)
    obtain ⟨_, _, vs, _, p⟩ := (show ObjOk X.prog X.w H s.heap a (.dK kvs) from I.hok a _ ea)
    obtain ⟨o, es, ep, h1, h2, _⟩ := p
    exact PySem.W.kia_one PySem.W.kitx_dict I.kIn ⟨o, h1, h2.1⟩ e (fun z => nomatch z) h
  | @dT a kvs ea =>
    cases (show u = Value.ref a from rx)
    obtain ⟨_, _, xs, _, o, es, ep, h1, h2, _⟩ := (show ObjOk X.prog X.w H s.heap a (.dT kvs) from I.hok a _ ea)
    exact PySem.W.kia_one PySem.W.kitx_dict I.kIn ⟨o, h1, h2.1⟩ e (fun z => nomatch z) h
  | @ins a C dx fs ea cl ha hn htk hm =>
    cases (show u = Value.ref a from rx)
    obtain ⟨mA, O, _⟩ := ins_get I.hok ea
    obtain ⟨od, J, _⟩ := O.look
    exact PySem.W.kia_one (PySem.W.kitx_own (cl.get _) cl.hd ha hn htk hm) I.kIn J e (fun z => nomatch z) h
end
end L2

namespace L2
open PySem PySem.Spec PyProof.Rows

/-! ### room -/
structure Room (k : Nat) (A : Around) : Prop where
  hd : A.handled = none
  dp : A.depth + 3 * k + 5 < recursionLimit
  un : A.units + 16 * k + 200 < cLine
theorem Room.mono {j k : Nat} {A : Around} (r : Room k A) (h : j ≤ k) : Room j A := ⟨r.hd, by have := r.dp; omega, by have := r.un; omega⟩
theorem Room.deeper {k : Nat} {A : Around} (r : Room (k + 1) A) (env : Env) : Room k (A.deeper env) :=
  ⟨r.hd, by have := r.dp; show A.depth + 1 + 3 * k + 5 < _; omega, by have := r.un; show A.units + 3 + 16 * k + 200 < _; omega⟩
theorem Room.depth {k : Nat} {A : Around} (r : Room k A) : A.depth < recursionLimit := by have := r.dp; omega
theorem Room.units0 {k : Nat} {A : Around} (r : Room k A) : A.units < cLine := by have := r.un; omega

/-! ### argument lists and displays -/
def tNil : TA := fun _ H Q => Q [] H
def tCons (ta : TE) (tr : TA) : TA := fun σ H Q => ta σ H fun x H1 => tr σ H1 fun xs H2 => Q (x :: xs) H2
section
variable {X : Cx} {e : Expr} {es : List Expr} {te : TE} {t : TA} {pos : Pos}
theorem pa_nil : PA X [] tNil := fun _ _ _ _ H Q I h => Calls.spliced_nil ⟨[], H, I, .nil, h⟩
theorem pa_cons (ha : PE X e te) (hr : PA X es t) (hs : starEach (e :: es) X.env = (false, eval e X.env) :: starEach es X.env := by rfl) : PA X (e :: es) (tCons te t) := by
  intro pos pins s σ H Q I h
  rw [hs]
  show wpAny _ _ (spliced ((false, eval e X.env) :: backTo pos (starEach es X.env))) _ _ s
  refine Calls.spliced_cons (thn (ha pins s σ H _ I h) fun u s1 ⟨x, H1, I1, r1, q1⟩ => ?_)
  exact thn (hr pos pins s1 σ H1 _ I1 q1) fun us s2 ⟨xs, H2, I2, r2, q2⟩ => ⟨x :: xs, H2, I2, .cons r1 r2, q2⟩

/-- a tuple, a list of written items -/
def tTup (t : TA) : TE := fun σ H Q => t σ H fun xs H1 => xs.length ≤ sizeLine ∧ ∀ p, H1 p = none → Q (.ref p) (upd H1 p (.tup xs))
def tLst (t : TA) : TE := fun σ H Q => t σ H fun xs H1 => xs.length ≤ sizeLine ∧ ∀ p, H1 p = none → Q (.ref p) (upd H1 p (.lst xs))
theorem pe_tup {x1} (h : PA X es t) : PE X (.Tuple es x1 pos) (tTup t) := by
  intro pins s σ H Q I hq
  refine wpAny_Tuple_spliced (thn (h pos pins s σ H _ I hq) fun us s1 ⟨xs, H1, I1, r, z, q⟩ => ⟨by rw [← r.length]; exact z, ?_⟩)
  have hf : H1 s1.heap.objs.size = none := I1.hok.fresh (Nat.le_refl _)
  refine ⟨.ref s1.heap.objs.size, upd H1 s1.heap.objs.size (.tup xs), I1.laid (t' := s1.toks) (fun b u e => Heap.get?_push_of_some _ e) (Nat.le_refl _) ?_, rfl, q _ hf⟩
  exact ⟨z, us, r, ⟨_, Heap.get?_push_size _ rfl, rfl, _, rfl⟩⟩
theorem pe_lst (h : PA X es t) : PE X (.List es pos) (tLst t) := by
  intro pins s σ H Q I hq
  refine wpAny_List_spliced (thn (h pos pins s σ H _ I hq) fun us s1 ⟨xs, H1, I1, r, z, q⟩ => ⟨by rw [← r.length]; exact z, ?_⟩)
  have hf : H1 s1.heap.objs.size = none := I1.hok.fresh (Nat.le_refl _)
  refine ⟨.ref s1.heap.objs.size, upd H1 s1.heap.objs.size (.lst xs), I1.laid (t' := s1.toks) (fun b u e => Heap.get?_push_of_some _ e) (Nat.le_refl _) ?_, rfl, q _ hf⟩
  exact ⟨z, us, 0, r, Heap.get?_push_size _ rfl⟩
end

/-! ### what a def promises -/
/-- a def's promise: the bound arguments in the parameters' order, the heap, the wanted end, the wanted exception -/
abbrev Sp := List V → Hp → VK → XK → Prop
/-- how an exception lies behind a call (file 08 gives it): the callers' frames, abstract heap and state ahead of the call, the wish, the exception, the state -/
abbrev CXT := List Env → Hp → Shared → XK → Value → Shared → Prop

/-- the state at a call -/
structure Env0 (P : Program) (w : World) (K : PySem.W.Frag) (mg : Str → Option Value) (base : Heap) (A : Around) (outer : List Env) (s : Shared) (H : Hp) : Prop where
  frames : A.frames = some outer
  mod : Mod K mg base
  bs : ∀ b o, base.get? b = some o → s.heap.get? b = some o ∧ H b = none
  bsz : base.objs.size ≤ s.heap.objs.size
  funs : s.heap.FunFrames base outer
  frf : ∀ b ∈ frs outer, H b = none
  hok : HOk P w H s.heap
  bare : AllBare s.gens
/-- a call's end -/
def CE (outer : List Env) (P : Program) (w : World) (H : Hp) (s : Shared) (Q : VK) (u : Value) (s' : Shared) : Prop :=
  ∃ v H', s'.os = s.os ∧ AllBare s'.gens ∧ Un (frs outer) [] H H' s.heap s'.heap ∧ HOk P w H' s'.heap ∧ RelV v u ∧ Q v H'
def CR (CX : CXT) (outer : List Env) (P : Program) (w : World) (H : Hp) (s : Shared) (Q : VK) (E : XK) (r : Result) (s' : Shared) : Prop :=
  match r with
  | .ok (.ret u) => CE outer P w H s Q u s'
  | .ok _ => False
  | .error e => CX outer H s E e s'
structure FnOk (P : Program) (w : World) (K : PySem.W.Frag) (mg : Str → Option Value) (base : Heap) (CX : CXT) (k : Nat) (f : Addr) (fd : FuncData) (ps : List Str) (sp : Sp) : Prop where
  len : ∀ vs H Q E, sp vs H Q E → vs.length = ps.length
  run : ∀ (A : Around) (outer : List Env) (s : Shared) (H : Hp) (args : Args) (us : List Value) (vs : List V) (Q : VK) (E : XK), Room k A → Env0 P w K mg base A outer s H → BindsTo s fd args (ps.zip us) → Vals vs us → sp vs H Q E →
    codeAny (model P w) A (.call (.ref f) args) (CR CX outer P w H s Q E) s
section
variable {X : Cx} {pins : List (Addr × Obj)} {σ : St} {H : Hp} {s s' : Shared}
/-- from a body: what a callee wants -/
theorem Inv.env0 (I : Inv X pins σ H s) : Env0 X.prog X.w X.K X.mg X.base X.A X.stack s H :=
  ⟨I.ok.frames, I.ok.mod, I.bs, Nat.le_trans I.ok.bsz I.sz, I.stack, I.stkFree, I.hok, I.bare⟩
/-- behind a call -/
theorem Inv.after {Q : VK} {u : Value} (I : Inv X pins σ H s) (h : CE X.stack X.prog X.w H s Q u s') : EP X pins σ Q u s' := by
  obtain ⟨v, H', os, bare, un, hok, r, q⟩ := h
  obtain ⟨hh, g, d, t, os'⟩ := s'
  obtain rfl : os' = s.os := os
  exact ⟨v, H', I.call (h' := hh) (g' := g) (d' := d) (t' := t) (ch := []) un hok bare (fun b z => absurd z (by simp)), r, q⟩
end

/-! ### calls -/
/-- f(..): the written arguments, then the defaults dvs; E: what is wanted of an exception -/
def tCall (sp : Sp) (dvs : List V) (E : XK) (t : TA) : TE := fun σ H Q => t σ H fun vs H1 => sp (vs ++ dvs) H1 Q E
/-- how the parameters are bound: us the positional arguments, kw the keywords' values by name, ds the defaults that fill up -/
def Binds (K : PySem.W.Frag) (fd : FuncData) (ps : List Str) (ds : List Value) : Prop :=
  ∀ (s : Shared) (us : List Value), K.In s.heap → (us ++ ds).length = ps.length → BindsTo s fd ⟨us, []⟩ (ps.zip (us ++ ds))
/-- every parameter is given -/
theorem Binds.all {K : PySem.W.Frag} {fd : FuncData} {ps : List Str} (h : ∀ us : List Value, us.length = ps.length → bindArgs fd ⟨us, []⟩ = pure (ps.zip us)) : Binds K fd ps [] := fun s us _ hl => by
  rw [List.append_nil] at hl ⊢
  exact .of_eq (h us hl)

/-- an exception of a callee reaches what this body wants of exceptions -/
def Passes (CX : CXT) (X : Cx) (E : XK) : Prop := ∀ (pins : List (Addr × Obj)) (σ : St) (H : Hp) (s : Shared) (e : Value) (s' : Shared), Inv X pins σ H s → CX X.stack H s E e s' → X.xe e s'

section
variable {X : Cx} {CX : CXT} {k : Nat} {f C : Addr} {fd : FuncData} {ps : List Str} {sp : Sp} {dvs : List V} {ds : List Value} {E : XK} {x m : Str} {p pos apos : Pos} {e o : Expr} {es : List Expr} {ta : TE} {t : TA}

/-- the callee runs -/
theorem run_fn {pins : List (Addr × Obj)} {σ : St} {H : Hp} {s : Shared} {Q : VK} {us : List Value} {vs : List V} (F : FnOk X.prog X.w X.K X.mg X.base CX k f fd ps sp) (hr : Room k X.A) (hb : Binds X.K fd ps ds) (hd : Vals dvs ds) (hx : Passes CX X E)
    (I : Inv X pins σ H s) (r : Vals vs us) (h : sp (vs ++ dvs) H Q E) : wpAny (model X.prog X.w) X.A (call (.ref f) us) (EP X pins σ Q) X.xe s := by
  have r2 : Vals (vs ++ dvs) (us ++ ds) := r.append hd
  have hl : (us ++ ds).length = ps.length := by rw [← r2.length]; exact F.len _ _ _ _ h
  refine wpAny_call (codeAny_mono (F.run X.A X.stack s H ⟨us, []⟩ (us ++ ds) (vs ++ dvs) Q E hr I.env0 (hb s us I.kIn hl) r2 h) fun r s' hq => ?_)
  cases r with
  | error e => exact hx pins σ H s e s' I hq
  | ok fl =>
    cases fl with
    | ret u => exact I.after hq
    | next => exact False.elim hq
    | brk => exact False.elim hq
    | cont => exact False.elim hq

theorem pe_call (F : FnOk X.prog X.w X.K X.mg X.base CX k f fd ps sp) (hr : Room k X.A) (hg : Gl X x) (hm : X.mg x = some (.ref f)) (hk : PySem.W.keepIn X.K (.ref f) = true) (hb : Binds X.K fd ps ds) (hd : Vals dvs ds) (hx : Passes CX X E)
    (ha : PA X (e :: es) t) (hdb : (x == ("__debug__" : Str)) = false := by decide) (he : starEach (e :: es) X.env = (false, eval e X.env) :: starEach es X.env := by rfl) (hpl : (backTo pos (starEach es X.env)).any (·.1) = false := by rfl) :
    PE X (.Call (.Name x p) (e :: es) [] pos) (tCall sp dvs E t) := by
  intro pins s σ H Q I h
  refine wpAny_Call_Name_kw (ld_glob I hg hm ?_ hdb)
  refine PySem.W.callWith_K (h₀ := X.base) I.ok.mod.kin hk (thn (ha pos pins s σ H _ I h) fun us s1 ⟨vs, H1, I1, r, q⟩ => ⟨I1.kIn, ?_⟩) he hpl
  exact run_fn F hr hb hd hx I1 r q
end

/-! ### keywords -/
section
variable {X : Cx} {CX : CXT} {k : Nat} {f C : Addr} {fd : FuncData} {ps ks : List Str} {sp : Sp} {E : XK} {x m : Str} {p pos apos kpos : Pos} {e o : Expr} {es : List Expr} {kws : List Keyword} {te ta : TE} {t tk : TA} {nm : Option Str}
variable {g : List Value → List Value → List Value} {gV : List V → List V → List V}
end

/-! ### a def's body keeps its promise -/
/-- names: the parameters first -/
structure FnScope (N P : List Str) (sc : Scope) : Prop where
  kind : sc.kind = .function
  co : sc.isCoroutine = false
  gen : sc.isGenerator = false
  nd : N.Nodup
  pre : N.take P.length = P
  par : ∀ x ∈ P, sc.names.lookup x = some .local ∨ sc.names.lookup x = some .cell
  nofree : ∀ y ∈ sc.names, y.2 ≠ .free

theorem bindL_out {kindOf : Str → Option NameKind} {x : Str} : ∀ {binds : List (Str × Value)} {m : Str → Option Value}, (∀ v, (x, v) ∉ binds) → bindL kindOf binds m x = m x
  | [], _, _ => rfl
  | (n, v) :: r, m, h => by
    unfold bindL
    rw [bindL_out fun w hw => h w (List.mem_cons_of_mem _ hw)]
    split
    · have : x ≠ n := by rintro rfl; exact h v List.mem_cons_self
      simp [this]
    · rfl
theorem bindC_out {kindOf : Str → Option NameKind} {x : Str} : ∀ {binds : List (Str × Value)} {m : Str → Option Value}, (∀ v, (x, v) ∉ binds) → bindC kindOf binds m x = m x
  | [], _, _ => rfl
  | (n, v) :: r, m, h => by
    unfold bindC
    rw [bindC_out fun w hw => h w (List.mem_cons_of_mem _ hw)]
    split
    · rfl
    · have : x ≠ n := by rintro rfl; exact h v List.mem_cons_self
      simp [this]
theorem bindL_get {kindOf : Str → Option NameKind} {x : Str} {v : Value} : ∀ {P : List Str} {vs : List Value} {i : Nat} {m : Str → Option Value}, P.Nodup → P[i]? = some x → vs[i]? = some v → kindOf x = some .local →
    bindL kindOf (P.zip vs) m x = some v
  | [], _, _, _, _, h, _, _ => by simp at h
  | _ :: _, [], _, _, _, _, h, _ => by simp at h
  | p :: P, w :: vs, 0, m, nd, h1, h2, hk => by
    simp at h1 h2; subst h1; subst h2
    show bindL kindOf ((p, w) :: P.zip vs) m p = _
    unfold bindL
    rw [bindL_out fun v hv => (List.nodup_cons.mp nd).1 (List.of_mem_zip hv).1, if_pos hk]
    simp
  | p :: P, w :: vs, i + 1, m, nd, h1, h2, hk => by
    show bindL kindOf ((p, w) :: P.zip vs) m x = _
    unfold bindL
    exact bindL_get (i := i) (List.nodup_cons.mp nd).2 (by simpa using h1) (by simpa using h2) hk
theorem bindC_get {kindOf : Str → Option NameKind} {x : Str} {v : Value} : ∀ {P : List Str} {vs : List Value} {i : Nat} {m : Str → Option Value}, P.Nodup → P[i]? = some x → vs[i]? = some v → kindOf x ≠ some .local →
    bindC kindOf (P.zip vs) m x = some v
  | [], _, _, _, _, h, _, _ => by simp at h
  | _ :: _, [], _, _, _, _, h, _ => by simp at h
  | p :: P, w :: vs, 0, m, nd, h1, h2, hk => by
    simp at h1 h2; subst h1; subst h2
    show bindC kindOf ((p, w) :: P.zip vs) m p = _
    unfold bindC
    rw [bindC_out fun v hv => (List.nodup_cons.mp nd).1 (List.of_mem_zip hv).1, if_neg hk]
    simp
  | p :: P, w :: vs, i + 1, m, nd, h1, h2, hk => by
    show bindC kindOf ((p, w) :: P.zip vs) m x = _
    unfold bindC
    exact bindC_get (i := i) (List.nodup_cons.mp nd).2 (by simpa using h1) (by simpa using h2) hk

/-- the names' values at the entry -/
def start (N : List Str) (vs : List V) : St := vs.map some ++ List.replicate (N.length - vs.length) none

/-- the context of a def's body, at its entry; an exception leaves the frame, then lies as CX says -/
def cxOf (CX : CXT) (P : Program) (w : World) (K : PySem.W.Frag) (mg : Str → Option Value) (base : Heap) (N : List Str) (qual : Str) (scope : Scope) (f : Addr) (cd : Value) (A : Around) (outer : List Env) (s : Shared) (H : Hp) (E : XK) : Cx where
  prog := P
  w := w
  K := K
  mg := mg
  base := base
  A := A.deeper (envOfC qual scope s.heap.objs.size f cd)
  N := N
  s₀ := s
  H₀ := H
  env := envOfC qual scope s.heap.objs.size f cd
  outer := outer
  stack := envOfC qual scope s.heap.objs.size f cd :: outer
  ex := []
  calm := true
  fn := fun _ => true
  pn := []
  xe := fun e s' => wpAny (model P w) (A.deeper (envOfC qual scope s.heap.objs.size f cd)) (leaving (envOfC qual scope s.heap.objs.size f cd) e) (fun _ s'' => CX outer H s E e s'') (fun e' s'' => CX outer H s E e' s'') s'

theorem cell_has {sc : Scope} {n : Nat} {x : Str} (h : sc.names.lookup x = some .cell) : ∃ c, (cellsFrom n sc.names []).lookup x = some c := by
  have q := PySem.W.cellsFrom_some sc.names n [] (.inl h)
  exact Option.isSome_iff_exists.mp q

theorem inv_start {CX : CXT} {P : Program} {w : World} {K : PySem.W.Frag} {mg : Str → Option Value} {base : Heap} {N ps : List Str} {qual : Str} {scope : Scope} {f : Addr} {cd : Value} {A : Around} {outer : List Env} {s s1 : Shared} {H : Hp} {E : XK} {us : List Value} {vs : List V}
    (S : FnScope N ps scope) (hd : A.handled = none) (e0 : Env0 P w K mg base A outer s H) (hl : vs.length = ps.length) (r : Vals vs us)
    (x : InCallC s s.heap.objs.size (bindL (envOfC qual scope s.heap.objs.size f cd).kindOf (ps.zip us) fun _ => none) (cellsFrom (s.heap.objs.size + 1) scope.names []) (bindC (envOfC qual scope s.heap.objs.size f cd).kindOf (ps.zip us) fun _ => none) s1) :
    Inv (cxOf CX P w K mg base N qual scope f cd A outer s H E) [] (start N vs) H s1 := by
  have hpl : ps.length ≤ N.length := by have := congrArg List.length S.pre; rw [List.length_take] at this; omega
  obtain ⟨h1, tk, rfl, hk⟩ := x.done
  have noA : ∀ b : Addr, b ∉ (cxOf CX P w K mg base N qual scope f cd A outer s H E).ex := fun b z => absurd (show b ∈ ([] : List Addr) from z) (by simp)
  refine ⟨⟨e0.mod, S.kind, rfl, rfl, Nat.le_refl _, fun y z c h1 h2 => ?_, fun y hy => ?_, fun y c _ h => ?_, fun _ => hd, Around.frames_deeper e0.frames, .inr ⟨rfl, rfl⟩, fun b z => absurd z (noA b), e0.bs, e0.bsz, fun b _ _ => noA b, fun b z => absurd z (noA b), e0.funs, e0.frf⟩,
    rfl, e0.bare, Un.kept hk, ⟨_, x.toInCall.ns, fun i y v h1 h2 h3 => ?_⟩, fun y c h => ⟨_, x.cell y c h⟩, e0.hok.fresh (Nat.le_refl _), fun y c h => ?_, fun p hp => absurd (show p ∈ ([] : List (Addr × Obj)) from hp) (by simp), e0.hok.kept hk, ?_⟩
  · exact name_of_addr x.apart (PySem.mem_of_lookup h1) (PySem.mem_of_lookup h2)
  · have hy : scope.names.lookup y = some .cell ∨ scope.names.lookup y = some .free := hy
    rcases hy with hy | hy
    · exact cell_has hy
    · exact absurd rfl (S.nofree _ (PySem.mem_of_lookup hy))
  · exact Nat.le_of_lt (x.above y c (PySem.mem_of_lookup h))
  · have hi : i < vs.length := by
      unfold start at h2
      by_cases hi : i < vs.length
      · exact hi
      · rw [List.getElem?_append_right (by simpa using hi)] at h2
        rw [List.getElem?_replicate] at h2
        split at h2 <;> cases h2
    have ha : vs[i]? = some v := by
      unfold start at h2
      rw [List.getElem?_append_left (by simpa using hi), List.getElem?_map] at h2
      cases e : vs[i]? with
      | none => rw [e] at h2; cases h2
      | some a => rw [e] at h2; cases h2; rfl
    obtain ⟨u, hu, rv⟩ := r.get ha
    have hp : ps[i]? = some y := by
      rw [← S.pre, List.getElem?_take_of_lt (by omega)]; exact h1
    have ndP : ps.Nodup := by rw [← S.pre]; exact S.nd.sublist (List.take_sublist _ _)
    refine ⟨u, rv, ?_⟩
    rcases S.par y (List.mem_of_getElem? hp) with k | k
    · exact .inl ⟨k, bindL_get ndP hp hu k⟩
    · obtain ⟨c, e⟩ := cell_has (n := s.heap.objs.size + 1) k
      refine .inr ⟨.inl k, c, e, ?_⟩
      have q := x.cell y c e
      rw [bindC_get ndP hp hu (by show scope.names.lookup y ≠ _; rw [k]; decide)] at q
      exact q
  · exact e0.hok.fresh (Nat.le_of_lt (x.above y c (PySem.mem_of_lookup h)))
  · unfold start
    show _ = N.length
    rw [List.length_append, List.length_map, List.length_replicate]
    omega

/-- THE RULE: a def (or a method) of the text, by its body. The body's reading t is chosen for each entry; it is run at the parameters' values -/
theorem fn_of {CX : CXT} {P : Program} {w : World} {K : PySem.W.Frag} {mg : Str → Option Value} {base : Heap} {k : Nat} {f : Addr} {name qual : Str} {params : Arguments} {body : List Stmt} {scope : Scope} {dV kV doc pm cdv ct oc : Value} {an od : Option Addr}
    {osl : Array (Option Value)} {N ps : List Str} {sp : Sp} (lk : K.lookup f = some ⟨oc, od, .func (PySem.W.fnOf name qual params body scope dV kV doc pm an cdv ct), osl⟩) (hcd : PySem.W.codeIn K cdv qual = true) (S : FnScope N ps scope)
    (len : ∀ vs H Q E, sp vs H Q E → vs.length = ps.length)
    (hbody : ∀ (A : Around) (outer : List Env) (s : Shared) (H : Hp) (vs : List V) (Q : VK) (E : XK), Room k (A.deeper (envOfC qual scope s.heap.objs.size f cdv)) → sp vs H Q E →
      ∃ t, PSs (cxOf CX P w K mg base N qual scope f cdv A outer s H E) body t ∧ t { nx := fun _ H' => Q .non H', rt := Q } (start N vs) H) :
    FnOk P w K mg base CX (k + 1) f (PySem.W.fnOf name qual params body scope dV kV doc pm an cdv ct) ps sp := by
  refine ⟨len, fun A outer s H args us vs Q E hr e0 hb r hsp => ?_⟩
  have hl := len _ _ _ _ hsp
  have KX : K.In s.heap := e0.mod.kin.keeps fun b o e => (e0.bs b o e).1
  have lim : s.heap.NoLimit := e0.mod.nolimit.keeps fun b o e => (e0.bs b o e).1
  have hkind : ∀ y ∈ ps.zip us, scope.names.lookup y.1 = some .local ∨ (scope.names.lookup y.1 = some .cell ∧ ((cellsFrom (s.heap.objs.size + 1) scope.names []).lookup y.1).isSome = true) := fun ⟨n, v⟩ hy => by
    rcases S.par n (List.of_mem_zip hy).1 with q | q
    · exact .inl q
    · exact .inr ⟨q, PySem.W.cellsFrom_some _ _ _ (.inl q)⟩
  refine codeAny_call_function hr.depth (KX _ _ lk) rfl S.co S.gen rfl (PySem.W.codeRec_of KX hcd) (hb _ _ _ _ ?_)
  refine wpAny_newFunctionEnv_cells S.kind hkind fun env he s1 x => ?_
  subst he
  refine ⟨lim.keeps x.toInCall.keep, codeAny_func ?_⟩
  obtain ⟨t, ht, hq⟩ := hbody A outer s H vs Q E (hr.deeper _) hsp
  have I : Inv (cxOf CX P w K mg base N qual scope f cdv A outer s H E) [] (start N vs) H s1 := inv_start S hr.hd e0 hl r x
  refine wpAny_mono (ht [] s1 (start N vs) H _ I hq) (fun fl s' hs => ?_) fun e s' hs => hs
  have fin : ∀ {σ' : St} {H' : Hp} {v : V} {u : Value}, Inv (cxOf CX P w K mg base N qual scope f cdv A outer s H E) [] σ' H' s' → RelV v u → Q v H' → CE outer P w H s Q u s' :=
    fun {σ' H' v u} J rv q => ⟨v, H', J.os, J.bare, J.base, J.hok, rv, q⟩
  cases fl with
  | ret u =>
    obtain ⟨v, σ', H', J, rv, q⟩ := hs
    exact fin J rv q
  | next =>
    obtain ⟨σ', H', J, q⟩ := hs
    exact fin (v := V.non) (u := Value.none) J rfl q
  | brk =>
    obtain ⟨_, _, _, q⟩ := hs
    exact False.elim q
  | cont =>
    obtain ⟨_, _, _, q⟩ := hs
    exact False.elim q
end L2

namespace L2
open PySem PySem.Spec PyProof.Rows
section
variable {X : Cx} {x : Str} {p pos : Pos} {e : Expr} {es : List Expr} {t : TA} {id T : String} {r : List V → Hp → VK → Prop}

def tCB (r : List V → Hp → VK → Prop) (t : TA) : TE := fun σ H Q => t σ H fun vs H1 => r vs H1 Q
/-- f(e, ..), f a built-in function -/
theorem pe_callB (hc : CallR X (.builtin id) r) (hg : Gl X x) (hm : X.mg x = none) (hv : bootBuiltins x = some (.builtin id)) (ha : PA X (e :: es) t) (hn : x ≠ "__name__" := by decide) (hdb : (x == ("__debug__" : Str)) = false := by decide)
    (he : starEach (e :: es) X.env = (false, eval e X.env) :: starEach es X.env := by rfl) (hpl : (backTo pos (starEach es X.env)).any (·.1) = false := by rfl) : PE X (.Call (.Name x p) (e :: es) [] pos) (tCB r t) := by
  intro pins s σ H Q I h
  refine wpAny_Call_Name_kw (ld_blt I hg hm hv ?_ hn hdb)
  exact PyProof.Rows.callWith_builtin1 (thn (ha pos pins s σ H _ I h) fun us s1 ⟨vs, H1, I1, r1, q1⟩ => hc pins s1 σ H1 vs us Q I1 r1 q1) he hpl
/-- T(e, ..), T a built-in type -/
theorem pe_callTy (hc : CallR X (.type T) r) (hg : Gl X x) (hm : X.mg x = none) (hv : bootBuiltins x = some (.type T)) (ha : PA X (e :: es) t) (hn : x ≠ "__name__" := by decide) (hdb : (x == ("__debug__" : Str)) = false := by decide)
    (he : starEach (e :: es) X.env = (false, eval e X.env) :: starEach es X.env := by rfl) (hpl : (backTo pos (starEach es X.env)).any (·.1) = false := by rfl) : PE X (.Call (.Name x p) (e :: es) [] pos) (tCB r t) := by
  intro pins s σ H Q I h
  refine wpAny_Call_Name_kw (ld_blt I hg hm hv ?_ hn hdb)
  exact PyProof.Rows.callWith_type1 (thn (ha pos pins s σ H _ I h) fun us s1 ⟨vs, H1, I1, r1, q1⟩ => hc pins s1 σ H1 vs us Q I1 r1 q1) he hpl
end
end L2

namespace HT
open PySem PyProof.Rows

section
open PySem.SeqAt
open PySem.AutoSeq1 (wpAny_loadPart')
open PySem.MeetsSeq PySem.MeetsSeq2 PySem.MeetsSeq3

end

section
variable {prog : Program} {w : World} {A : Around} {E : Value → Shared → Prop} {s : Shared}

/-! ### t[a:b], not the whole -/
/-- a slice's bound as a place among n (d where it is left out) -/
def sIx (n d : Nat) : Option Int → Nat
  | none => d
  | some v => if v < 0 then (v + (n : Int)).toNat else min v.toNat n
theorem sIx_none (n d : Nat) : sIx n d none = d := rfl
theorem sIx_nat (n d k : Nat) : sIx n d (some (k : Int)) = min k n := by
  show (if (k : Int) < 0 then ((k : Int) + (n : Int)).toNat else min (k : Int).toNat n) = min k n
  rw [if_neg (by omega), Int.toNat_natCast]
end
end HT

namespace L2
open PySem PySem.Spec PyProof.Rows

/-! ### the parts of a slice -/
abbrev TO := St → Hp → (Option Int → Hp → Prop) → Prop
/-- a slice's part (left out, or an int) -/
def PO (X : Cx) (e : Option Expr) (t : TO) : Prop :=
  ∀ (pins : List (Addr × Obj)) (s : Shared) (σ : St) (H : Hp) (Q : Option Int → Hp → Prop), Inv X pins σ H s → t σ H Q →
    wpAny (model X.prog X.w) X.A (evalPart e X.env) (fun u s' => ∃ o H', Inv X pins σ H' s' ∧ IsPart u o ∧ Q o H') X.xe s
def tNoPart : TO := fun _ H Q => Q none H
def tPart (t : TE) : TO := fun σ H Q => t σ H fun x H1 => ∃ i, x = .int i ∧ Q (some i) H1

section
variable {X : Cx} {e : Expr} {te : TE} {lo hi : Option Expr} {tl th : TO} {pos p2 : Pos}

theorem po_none : PO X none tNoPart := by
  intro pins s σ H Q I h
  rw [evalPart_none]
  exact wpAny_pure ⟨none, H, I, .none, h⟩
theorem po_some (h : PE X e te) : PO X (some e) (tPart te) := by
  intro pins s σ H Q I hw
  rw [evalPart_some]
  refine thn (h pins s σ H _ I hw) fun u s1 ⟨x, H1, I1, r1, q1⟩ => ?_
  obtain ⟨i, rfl, q⟩ := q1
  obtain ⟨t, rfl⟩ := r1
  exact ⟨some i, H1, I1, .int i t, q⟩

/-- what a slice of a value is, by values: the slice object stands at sl -/
def SlR (X : Cx) (r : V → Option Int → Option Int → Hp → VK → Prop) : Prop :=
  ∀ (pins : List (Addr × Obj)) (s : Shared) (σ : St) (H : Hp) (x : V) (v vl vu : Value) (lo hi : Option Int) (sl : Addr) (Q : VK), Inv X pins σ H s → RelV x v → s.heap.IsSliceOf sl vl vu .none → IsPart vl lo → IsPart vu hi → r x lo hi H Q →
    ∃ T id, typeLookup (.type T) "__getitem__" = pure (some (.builtin id)) ∧ s.TypeIs v T ∧ wpAny (model X.prog X.w) X.A (getItem v (.ref sl)) (EP X pins σ Q) X.xe s
def tSl (r : V → Option Int → Option Int → Hp → VK → Prop) (te : TE) (tl th : TO) : TE := fun σ H Q => te σ H fun x H1 => tl σ H1 fun l H2 => th σ H2 fun u H3 => r x l u H3 Q
/-- a[lo:hi], any a -/
theorem pe_slice {r : V → Option Int → Option Int → Hp → VK → Prop} (hr : SlR X r) (he : PE X e te) (hl : PO X lo tl) (hu : PO X hi th) : PE X (.Subscript e (.Slice lo hi none p2) pos) (tSl r te tl th) := by
  intro pins s σ H Q I h
  refine Subscript_ (thn (he pins s σ H _ I h) fun v s1 ⟨x, H1, I1, r1, q1⟩ => ?_)
  refine wpAny_Slice (thn (hl pins s1 σ H1 _ I1 q1) fun vl s2 ⟨l, H2, I2, pl, q2⟩ => thn (hu pins s2 σ H2 _ I2 q2) fun vu s3 ⟨u, H3, I3, pu, q3⟩ => ?_)
  rw [evalPart_none]
  refine wpAny_pure ?_
  have I4 : Inv X pins σ H3 { s3 with heap := s3.heap.push { cls := .type "slice", data := .fields #[vl, vu, .none] } } := I3.kept (t' := s3.toks) fun b ob q => Heap.get?_push_of_some _ q
  obtain ⟨T, id, hT, ht, hg⟩ := hr pins { s3 with heap := s3.heap.push { cls := .type "slice", data := .fields #[vl, vu, .none] } } σ H3 x v vl vu l u s3.heap.objs.size Q I4 r1 (Heap.IsSliceOf.new ..) pl pu q3
  show wpAny (model X.prog X.w) X.A (subscriptTail e (.Slice lo hi none p2) v (.ref s3.heap.objs.size)) (EP X pins σ Q) X.xe { s3 with heap := s3.heap.push { cls := .type "slice", data := .fields #[vl, vu, .none] } }
  exact tail_any (ops := [.ref s3.heap.objs.size, v]) ht hT hg (by with_unfolding_all rfl)

/-- the items of xs[lo:hi] -/
def cutV (xs : List V) (lo hi : Option Int) : List V := (xs.drop (HT.sIx xs.length 0 lo)).take (HT.sIx xs.length xs.length hi - HT.sIx xs.length 0 lo)
theorem cutV_length (xs : List V) (lo hi : Option Int) : (cutV xs lo hi).length ≤ xs.length := by
  unfold cutV
  rw [List.length_take, List.length_drop]
  omega
/-! ### t < u, t + u -/
end
end L2

namespace L2
open PySem PySem.Spec PyProof.Rows

/-! ### places -/
/-- the place that an index of any sign means -/
def ixN (n : Nat) (i : Int) : Option Nat := if 0 ≤ i then (if i < n then some i.toNat else none) else if -(n : Int) ≤ i then some (i + n).toNat else none
def atI {α : Type} (xs : List α) (i : Int) : Option α := (ixN xs.length i).bind fun j => xs[j]?
theorem ixN_seq {n : Nat} {i : Int} {j : Nat} (h : ixN n i = some j) : seqIndex? i n = some j ∧ j < n ∧ -(n : Int) ≤ i ∧ i < n := by
  unfold ixN at h
  by_cases h0 : 0 ≤ i
  · rw [if_pos h0] at h
    by_cases h1 : i < n
    · rw [if_pos h1] at h
      have e : i.toNat = j := Option.some.inj h
      exact ⟨by rw [seqIndex_of h0 h1, e], by omega, by omega, h1⟩
    · rw [if_neg h1] at h; cases h
  · rw [if_neg h0] at h
    by_cases h1 : -(n : Int) ≤ i
    · rw [if_pos h1] at h
      have e : (i + n).toNat = j := Option.some.inj h
      exact ⟨by rw [seqIndex_neg (by omega) h1, e], by omega, h1, by omega⟩
    · rw [if_neg h1] at h; cases h
theorem atI_get {α : Type} {xs : List α} {i : Int} {v : α} (h : atI xs i = some v) : ∃ j, seqIndex? i xs.length = some j ∧ xs[j]? = some v ∧ j < xs.length ∧ -(xs.length : Int) ≤ i ∧ i < xs.length := by
  unfold atI at h
  cases e : ixN xs.length i with
  | none => rw [e] at h; cases h
  | some j =>
    rw [e] at h
    obtain ⟨h1, h2, h3, h4⟩ := ixN_seq e
    exact ⟨j, h1, h, h2, h3, h4⟩
theorem atI_nat {α : Type} {xs : List α} {j : Nat} {v : α} (h : xs[j]? = some v) : atI xs (j : Int) = some v := by
  have hj : j < xs.length := (List.getElem?_eq_some_iff.mp h).1
  have e : ixN xs.length (j : Int) = some j := by
    unfold ixN
    rw [if_pos (by omega), if_pos (by omega)]; simp
  unfold atI; rw [e]; exact h
/-! ### what may be subscripted -/
/-- what stands as an index of a plain subscript -/
def PlainIx (b : Expr) : Prop := ∀ o i, subscripted b false o i = operate [o, i] (getItem o i)
/-- a subscript by values -/
def IxR (X : Cx) (r : R2) : Prop :=
  ∀ (value slice : Expr) (pins : List (Addr × Obj)) (s : Shared) (σ : St) (H : Hp) (x y : V) (v u : Value) (Q : VK), Inv X pins σ H s → RelV x v → RelV y u → r x y H Q →
    subscripted slice false v u = operate [v, u] (getItem v u) → wpAny (model X.prog X.w) X.A (subscriptTail value slice v u) (EP X pins σ Q) X.xe s
/-- a call of a builtin's method by values: the receiver, the arguments -/
def MtR (X : Cx) (id : String) (r : V → List V → Hp → VK → Prop) : Prop :=
  ∀ (pins : List (Addr × Obj)) (s : Shared) (σ : St) (H : Hp) (x : V) (xs : List V) (v : Value) (us : List Value) (Q : VK), Inv X pins σ H s → RelV x v → Vals xs us → r x xs H Q →
    wpAny (model X.prog X.w) X.A (call (.builtin id) (v :: us)) (EP X pins σ Q) X.xe s
section
variable {X : Cx} {a b : Expr} {ta tb : TE} {pos : Pos}
/-- a[b] -/
theorem pe_ix {r : R2} (hr : IxR X r) (ha : PE X a ta) (hb : PE X b tb) (hs : PlainIx b) : PE X (.Subscript a b pos) (tOp r ta tb) := by
  intro pins s σ H Q I h
  exact Subscript_ (binT ha hb I h fun v u s2 x y H2 I2 rx ry q => hr a b pins s2 σ H2 x y v u Q I2 rx ry q (hs _ _))

def rIxL (K : PySem.W.Frag) : R2 := fun x y H Q => ∃ p xs i v, x = .ref p ∧ y = .int i ∧ SqL K H p xs ∧ atI xs i = some v ∧ Q v H
def rIxT (K : PySem.W.Frag) : R2 := fun x y H Q => ∃ p xs i v, x = .ref p ∧ y = .int i ∧ SqT K H p xs ∧ atI xs i = some v ∧ Q v H
theorem ix_list : IxR X (rIxL X.K) := by
  intro value slice pins s σ H x y v u Q I rx ry h hs
  obtain ⟨p, xs, i, z, rfl, rfl, hq, he, q⟩ := h
  cases rx
  obtain ⟨t, rfl⟩ := ry
  obtain ⟨its, r, pl, hz⟩ := I.list hq
  obtain ⟨j, h1, h2, h3, h4, h5⟩ := atI_get he
  obtain ⟨w, ew, rw'⟩ := r.get h2
  have hl := r.length
  have hn := line63
  have fin : EP X pins σ Q w s := ⟨z, H, I, rw', q⟩
  by_cases h0 : 0 ≤ i
  · have hj : i.toNat = j := by
      rw [seqIndex_of h0 h5] at h1
      exact Option.some.inj h1
    exact item_listR pl.isList h0 (by omega) (by rw [hj]; simpa using ew) fin hs
  · have hj : (i + (its.toArray.size : Int)).toNat = j := by
      rw [seqIndex_neg (by omega) h4] at h1
      rw [List.size_toArray, ← hl]
      exact Option.some.inj h1
    exact subscriptTail_builtinR (x := w) pl.isList.typeIs slot_list_getitem.lookup
      (wpAny_getItem_list_neg (Q := fun r s' => r = w ∧ EP X pins σ Q r s') pl.isList (by omega) (by rw [List.size_toArray] <;> omega) (by omega) (by rw [hj]; simpa using ew) ⟨rfl, fin⟩) hs
theorem ix_tup : IxR X (rIxT X.K) := by
  intro value slice pins s σ H x y v u Q I rx ry h hs
  obtain ⟨p, xs, i, z, rfl, rfl, hq, he, q⟩ := h
  cases rx
  obtain ⟨t, rfl⟩ := ry
  obtain ⟨its, r, pl, hz⟩ := I.tuple hq
  obtain ⟨j, h1, h2, h3, h4, h5⟩ := atI_get he
  obtain ⟨w, ew, rw'⟩ := r.get h2
  have hl := r.length
  have hn := line63
  have fin : EP X pins σ Q w s := ⟨z, H, I, rw', q⟩
  exact subscriptTail_builtinR (x := w) pl.typeIs slot_tuple_getitem.lookup
    (getItem_tuple (j := j) (Q := fun r s' => r = w ∧ EP X pins σ Q r s') pl (by omega) (by omega) (by rw [List.size_toArray, ← hl]; exact h1) (by simpa using ew) ⟨rfl, fin⟩) hs
/-! ### xs[i] = v, any sign -/
/-! ### slices -/
theorem slice_bounds (lo hi : Option Int) (n : Nat) : (sliceBounds lo hi none n).1 = ((HT.sIx n 0 lo : Nat) : Int) ∧ (sliceBounds lo hi none n).2.1 = ((HT.sIx n n hi : Nat) : Int) ∧ (sliceBounds lo hi none n).2.2 = 1 := by
  refine ⟨?_, ?_, rfl⟩
  · cases lo with
    | none => simp [sliceBounds, HT.sIx]
    | some i =>
      simp only [sliceBounds, HT.sIx, Option.getD_none, show (1 : Int) > 0 by decide, if_true]
      by_cases h : i < 0
      · simp only [h, if_true] <;> omega
      · simp only [h, if_false] <;> omega
  · cases hi with
    | none => simp [sliceBounds, HT.sIx]
    | some i =>
      simp only [sliceBounds, HT.sIx, Option.getD_none, show (1 : Int) > 0 by decide, if_true]
      by_cases h : i < 0
      · simp only [h, if_true] <;> omega
      · simp only [h, if_false] <;> omega
theorem slicePick_cut (its : List Value) (lo hi : Option Int) : slicePick its.toArray lo hi none = ((its.drop (HT.sIx its.length 0 lo)).take (HT.sIx its.length its.length hi - HT.sIx its.length 0 lo)).toArray := by
  obtain ⟨h1, h2, h3⟩ := slice_bounds lo hi its.toArray.size
  unfold slicePick
  rw [h1, h2, h3]
  simp only [sliceRange_one, pick_run, List.size_toArray] <;> rfl
/-- xs[lo:hi] of a list: a new list -/
def rSlL (K : PySem.W.Frag) : V → Option Int → Option Int → Hp → VK → Prop := fun x lo hi H Q => ∃ a xs, x = .ref a ∧ SqL K H a xs ∧ ∀ p, H p = none → Q (.ref p) (upd H p (.lst (cutV xs lo hi)))
theorem sl_list : SlR X (rSlL X.K) := by
  intro pins s σ H x v vl vu lo hi sl Q I rx hs pl pu h
  obtain ⟨a, xs, rfl, hx, q⟩ := h
  cases rx
  obtain ⟨its, r, ht, hz⟩ := I.list hx
  have hlen := r.length
  refine ⟨"list", _, slot_list_getitem.lookup, ht.isList.typeIs, ?_⟩
  refine wpAny_getItem_list_slice ht.isList hs pl pu .none (by simp) ?_ (by rw [List.size_toArray] <;> omega)
  rw [slicePick_cut, ← hlen]
  refine ⟨.ref s.heap.objs.size, _, I.laid (t' := s.toks) (o := .lst (cutV xs lo hi)) (fun b ob q => Heap.get?_push_of_some _ q) (Nat.le_refl _) ?_, rfl, q _ (I.hok.fresh (Nat.le_refl _))⟩
  exact ⟨Nat.le_trans (cutV_length xs lo hi) hz, _, 0, (r.drop (HT.sIx xs.length 0 lo)).take (HT.sIx xs.length xs.length hi - HT.sIx xs.length 0 lo), Heap.get?_push_size _ rfl⟩

/-! ### in, not in: flat items -/
def flatV : V → Bool
  | .non => true
  | .bl _ => true
  | .int _ => true
  | .str _ => true
  | _ => false
/-- == of flat values -/
def eqV : V → V → Bool
  | .non, .non => true
  | .bl a, .bl b => a == b
  | .bl a, .int b => (if a then 1 else 0) == b
  | .int a, .bl b => a == (if b then 1 else 0)
  | .int a, .int b => a == b
  | .str a, .str b => a == b
  | _, _ => false
theorem eqAt_V {A : Around} {s : Shared} {y x : V} {u v : Value} (ry : RelV y u) (rx : RelV x v) (fy : flatV y = true) (fx : flatV x = true) : SeqAt.EqAt A s u v (eqV y x) := by
  cases y with
  | non =>
    cases ry
    cases x with
    | non => cases rx; exact SeqAt.EqAt.same _
    | bl b => cases rx; exact SeqAt.EqAt.none_bool b
    | int b => obtain ⟨t, rfl⟩ := rx; exact SeqAt.EqAt.none_int b t
    | str b => obtain ⟨t, rfl⟩ := rx; exact SeqAt.EqAt.none_str b t
    | _ => exact absurd (show false = true from fx) Bool.false_ne_true
  | bl a =>
    cases ry
    cases x with
    | non => cases rx; exact SeqAt.EqAt.bool_none a
    | bl b => cases rx; exact SeqAt.EqAt.bool_bool a b
    | int b => obtain ⟨t, rfl⟩ := rx; exact SeqAt.EqAt.bool_int a b t
    | str b => obtain ⟨t, rfl⟩ := rx; exact SeqAt.EqAt.bool_str a b t
    | _ => exact absurd (show false = true from fx) Bool.false_ne_true
  | int a =>
    obtain ⟨t', rfl⟩ := ry
    cases x with
    | non => cases rx; exact SeqAt.EqAt.int_none a t'
    | bl b => cases rx; exact SeqAt.EqAt.int_bool a t' b
    | int b => obtain ⟨t, rfl⟩ := rx; exact SeqAt.EqAt.int_int a t' b t
    | str b => obtain ⟨t, rfl⟩ := rx; exact SeqAt.EqAt.int_str a t' b t
    | _ => exact absurd (show false = true from fx) Bool.false_ne_true
  | str a =>
    obtain ⟨t', rfl⟩ := ry
    cases x with
    | non => cases rx; exact SeqAt.EqAt.str_none a t'
    | bl b => cases rx; exact SeqAt.EqAt.str_bool a t' b
    | int b => obtain ⟨t, rfl⟩ := rx; exact SeqAt.EqAt.str_int a t' b t
    | str b => obtain ⟨t, rfl⟩ := rx; exact SeqAt.EqAt.str_str a t' b t
    | _ => exact absurd (show false = true from fx) Bool.false_ne_true
  | _ => exact absurd (show false = true from fy) Bool.false_ne_true
/-! ### len, list(x), tuple(x) of any list or tuple that is read -/
theorem call_len_seq : CallR X (.builtin "len") (fun xs H Q => ∃ p ys, xs = [.ref p] ∧ (SqL X.K H p ys ∨ SqT X.K H p ys) ∧ Q (.int ys.length) H) := by
  intro pins s σ H xs us Q I r h
  obtain ⟨p, ys, rfl, hq, q⟩ := h
  obtain ⟨u, rfl, rx⟩ := vals1 r
  cases rx
  have hn := line63
  rcases hq with hq | hq
  · obtain ⟨its, r', pl, hz⟩ := I.list hq
    have hlen := r'.length
    exact Calls.call_len_list pl.isList (by simp only [List.size_toArray] <;> omega) ⟨.int ys.length, H, I.tok _, ⟨s.toks + 1, by rw [List.size_toArray, hlen]⟩, q⟩
  · obtain ⟨its, r', pl, hz⟩ := I.tuple hq
    have hlen := r'.length
    exact len_tuple pl (by simp only [List.size_toArray] <;> omega) ⟨.int ys.length, H, I.tok _, ⟨s.toks + 1, by rw [List.size_toArray, hlen]⟩, q⟩
/-! ### the call of a builtin's method: o.m(..) -/
/-- the value is of that builtin type -/
def tyV (K : PySem.W.Frag) (T : String) (x : V) (H : Hp) : Prop := match x with
  | .str _ => T = "str"
  | .int _ => T = "int"
  | .ref p => (T = "list" ∧ ∃ xs, SqL K H p xs) ∨ (T = "tuple" ∧ ∃ o, K.lookup p = some o ∧ o.cls = .type "tuple" ∧ o.dict = none) ∨
      (T = "dict" ∧ ((∃ kvs, H p = some (.dK kvs)) ∨ ∃ kvs, H p = some (.dT kvs))) ∨ (T = "set" ∧ ∃ S n, H p = some (.set S n))
  | _ => False
theorem tyV_is {pins : List (Addr × Obj)} {σ : St} {H : Hp} {s : Shared} {T : String} {x : V} {v : Value} (I : Inv X pins σ H s) (r : RelV x v) (ty : tyV X.K T x H) :
    s.TypeIs v T ∧ ∀ a, v = .ref a → ∃ ob, s.heap.get? a = some ob ∧ ob.dict = none := by
  cases x with
  | str z =>
    obtain ⟨t, rfl⟩ := r
    cases (show T = "str" from ty)
    exact ⟨typeIs_str s z t, fun _ e => nomatch e⟩
  | int i =>
    obtain ⟨t, rfl⟩ := r
    cases (show T = "int" from ty)
    exact ⟨typeIs_int s i t, fun _ e => nomatch e⟩
  | ref p =>
    cases r
    rcases ty with ⟨rfl, xs, hq⟩ | ⟨rfl, o, hk, hc, hd⟩ | ⟨rfl, hk⟩ | ⟨rfl, S, n, hk⟩
    · obtain ⟨its, _, pl, _⟩ := I.list hq
      refine ⟨pl.isList.typeIs, fun a e => ?_⟩
      cases e
      obtain ⟨o, n, e, c, hd, _⟩ := pl
      exact ⟨o, e, hd⟩
    · refine ⟨⟨o, I.kIn p o hk, hc⟩, fun a e => ?_⟩
      cases e
      exact ⟨o, I.kIn _ o hk, hd⟩
    · have z : ∃ o, s.heap.get? p = some o ∧ o.ExactDict := by
        rcases hk with ⟨kvs, hk⟩ | ⟨kvs, hk⟩
        · obtain ⟨_, _, _, _, o, _, _, e, ex, _⟩ := I.hok p _ hk
          exact ⟨o, e, ex⟩
        · obtain ⟨_, _, _, _, o, _, _, e, ex, _⟩ := I.hok p _ hk
          exact ⟨o, e, ex⟩
      obtain ⟨o, e, ex⟩ := z
      refine ⟨⟨o, e, ex.1⟩, fun a e2 => ?_⟩
      cases e2
      exact ⟨o, e, ex.2.1⟩
    · obtain ⟨o, _, _, _, e, ex, _⟩ := I.hok p _ hk
      refine ⟨⟨o, e, ex.1⟩, fun a e2 => ?_⟩
      cases e2
      exact ⟨o, e, ex.2.1⟩
  | _ => exact False.elim ty
def tBM0 (K : PySem.W.Frag) (T : String) (r : V → List V → Hp → VK → Prop) (to : TE) : TE := fun σ H Q => to σ H fun x H1 => tyV K T x H1 ∧ r x [] H1 Q
def tBM (K : PySem.W.Frag) (T : String) (r : V → List V → Hp → VK → Prop) (to : TE) (t : TA) : TE := fun σ H Q => to σ H fun x H1 => tyV K T x H1 ∧ t σ H1 fun xs H2 => r x xs H2 Q
variable {o e : Expr} {es : List Expr} {to : TE} {t : TA} {name : Str} {apos cpos : Pos} {T id : String} {r : V → List V → Hp → VK → Prop}
theorem pe_bm0 (pa : PlainAttrs T) (slot : Slot T name id) (hty : typeOf (.builtin id) = pure (.type "method_descriptor")) (hm : MtR X id r) (ho : PE X o to)
    (hbase : attributeBase o name X.env (eval o X.env) = eval o X.env := by rfl) (hline : (apos.endLine == cpos.line) = true := by rfl) : PE X (.Call (.Attribute o name apos) [] [] cpos) (tBM0 X.K T r to) := by
  intro pins s σ H Q I h
  refine wpAny_Call_method0_late hbase hline (thn (ho pins s σ H _ I h) fun v s1 ⟨x, H1, I1, r1, ty, q1⟩ => ?_)
  obtain ⟨h1, h2⟩ := tyV_is I1 r1 ty
  exact ⟨T, id, pa, slot, hty, h1, h2, Calls.callWith_builtin rfl (PySem.evalArgs_none (hm pins s1 σ H1 x [] v [] Q I1 r1 .nil q1))⟩
theorem pe_bm (pa : PlainAttrs T) (slot : Slot T name id) (hty : typeOf (.builtin id) = pure (.type "method_descriptor")) (hm : MtR X id r) (ho : PE X o to) (ha : PA X (e :: es) t)
    (hbase : attributeBase o name X.env (eval o X.env) = eval o X.env := by rfl)
    (hfew : ((backTo cpos (starEach (e :: es) X.env)).all (fun x => !x.1) && (backToKw cpos (keywordEach [] X.env)).all (fun x => x.1.isSome)
      && decide ((e :: es).length + ([] : List Keyword).length + (if ([] : List Keyword).isEmpty then 0 else 1) < 30)) = true := by rfl)
    (hline : (apos.endLine == cpos.line) = true := by rfl) (hs : starEach (e :: es) X.env = (false, eval e X.env) :: starEach es X.env := by rfl) (hplain : (backTo cpos (starEach es X.env)).any (·.1) = false := by rfl) :
    PE X (.Call (.Attribute o name apos) (e :: es) [] cpos) (tBM X.K T r to t) := by
  intro pins s σ H Q I h
  refine wpAny_Call_method_late hbase hfew hline rfl (thn (ho pins s σ H _ I h) fun v s1 ⟨x, H1, I1, r1, ty, q1⟩ => ?_)
  obtain ⟨h1, h2⟩ := tyV_is I1 r1 ty
  refine ⟨T, id, pa, slot, hty, h1, h2, ?_⟩
  have hA := ha cpos pins s1 σ H1 _ I1 q1
  rw [hs] at hA ⊢
  refine Calls.callWith_builtin (by show (false || (backTo cpos (starEach es X.env)).any (·.1)) = false; rw [hplain] <;> rfl) (Calls.evalArgs_plain ?_)
  exact thn hA fun us s2 ⟨vs, H2, I2, r2, q2⟩ => hm pins s2 σ H2 x vs v us Q I2 r1 r2 q2
/- xs.append(e), list.index on a module's tuple .. are MtR facts of 06m -/
end
end L2

namespace L2
open PySem PySem.Spec PyProof.Rows

def MtM (X : Cx) (id : String) (r : V → List V → Hp → VK → Prop) : Prop :=
  ∀ (pins : List (Addr × Obj)) (s : Shared) (σ : St) (H : Hp) (x : V) (xs : List V) (v : Value) (us : List Value) (Q : VK), Inv X pins σ H s → RelV x v → Vals xs us → r x xs H Q →
    wpAny (model X.prog X.w) X.A (call (.builtin id) (v :: us)) (EP X pins σ Q) X.xe s

/-! ### lists of values -/
theorem Vals.one : ∀ {x : V} {us : List Value}, Vals [x] us → ∃ u, us = [u] ∧ RelV x u
  | _, _, .cons r .nil => ⟨_, rfl, r⟩
section
variable {X : Cx} {pins : List (Addr × Obj)} {σ : St} {H : Hp} {s : Shared} {l b : Addr} {xs ys zs : List V}

/-! ### the two steps: a tracked list is rewritten, a new list is laid -/
theorem Inv.lset {its its' : List Value} {n : Nat} {f : Array Value → Array Value} {t' : Nat} (I : Inv X pins σ H s) (hH : H l = some (.lst xs))
    (e : s.heap.get? l = some { cls := .type "list", data := .seq its.toArray n }) (hf : f its.toArray = its'.toArray) (hv : Vals ys its') (hz : ys.length ≤ sizeLine) :
    Inv X pins σ (upd H l (.lst ys)) { s with heap := s.heap.update l (Obj.mapSeq f), toks := t' } := by
  have q := PySem.IsL.update e f
  rw [hf] at q
  refine I.write (x := l) (e := l) (by rw [hH]; exact trivial) (.inl rfl) (fun b' u hb hu => (Heap.get?_update_other s.heap (Obj.mapSeq f) (Ne.symm hb)).trans hu) ⟨_, q⟩ ?_
  exact ⟨hz, its', _, hv, q⟩
theorem Inv.lnew {its : List Value} {t' : Nat} (I : Inv X pins σ H s) (hv : Vals ys its) (hz : ys.length ≤ sizeLine) :
    Inv X pins σ (upd H s.heap.objs.size (.lst ys)) { s with heap := s.heap.push { cls := .type "list", data := .seq its.toArray }, toks := t' } :=
  I.laid (fun _ _ q => Heap.get?_push_of_some _ q) (Nat.le_refl _) ⟨hz, its, 0, hv, Heap.get?_push_size _ rfl⟩
theorem Inv.fresh (I : Inv X pins σ H s) : H s.heap.objs.size = none := I.hok.fresh (Nat.le_refl _)
theorem Inv.lstM (I : Inv X pins σ H s) (hH : H l = some (.lst xs)) : xs.length ≤ sizeLine ∧ ∃ (its : List Value) (n : Nat), Vals xs its ∧ xs.length = its.length ∧ s.heap.get? l = some { cls := .type "list", data := .seq its.toArray n } := by
  obtain ⟨z, its, n, r, e⟩ := I.hok l _ hH
  exact ⟨z, its, n, r, r.length, e⟩

end

section
variable {X : Cx}

/-! ### methods -/
def rAppend : V → List V → Hp → VK → Prop := fun x vs H Q => ∃ l xs y, x = .ref l ∧ vs = [y] ∧ H l = some (.lst xs) ∧ xs.length < sizeLine ∧ Q .non (upd H l (.lst (xs ++ [y])))
theorem mt_append : MtM X "list.append" rAppend := by
  intro pins s σ H x vs v us Q I rx rv h
  obtain ⟨l, xs, y, rfl, rfl, hH, hz, q⟩ := h
  cases rx
  obtain ⟨u, rfl, ru⟩ := rv.one
  obtain ⟨z, its, n, r, hl, e⟩ := I.lstM hH
  refine call_meets F.slot_list_append ⟨_, e, rfl⟩ F.entry_list_append (F.args_list_append_2 _ _) (PySem.list_append l its.toArray n u (by rw [List.size_toArray]; omega)) ⟨e, ?_⟩
  refine ⟨.non, _, I.lset (its' := its ++ [u]) hH e (by simp) (r.append (.cons ru .nil)) ?_, rfl, q⟩
  rw [List.length_append, List.length_singleton]
  omega

/-! ### list + list, list += list, list * int -/
def rCat : R2 := fun x y H Q => ∃ l b xs zs, x = .ref l ∧ y = .ref b ∧ H l = some (.lst xs) ∧ H b = some (.lst zs) ∧ xs.length + zs.length ≤ sizeLine ∧ ∀ p, H p = none → Q (.ref p) (upd H p (.lst (xs ++ zs)))
theorem op_cat : OpR X (binaryOp .Add) rCat := by
  intro pins s σ H x y v u Q I rx ry h
  obtain ⟨l, b, xs, zs, rfl, rfl, hH, hB, hz, q⟩ := h
  cases rx
  cases ry
  obtain ⟨z, its, n, r, hl, e⟩ := I.lstM hH
  obtain ⟨z2, its2, n2, r2, hl2, e2⟩ := I.lstM hB
  refine PySem.P.add_list e e2 ?_ (by rw [List.size_toArray, List.size_toArray]; omega)
  have ea : its.toArray ++ its2.toArray = (its ++ its2).toArray := by simp
  rw [ea]
  exact ⟨.ref _, _, I.lnew (t' := s.toks) (r.append r2) (by rw [List.length_append]; omega), rfl, q _ I.fresh⟩
/-! ### del xs[i] -/
end

/-! ### xs[a:b] = ys -/
section
variable {prog : Program} {w : World} {A : Around} {E : Value → Shared → Prop} {s : Shared}
set_option maxRecDepth 100000 in
end

section
variable {X : Cx}
end
end L2

namespace Att
open PySem PySem.W PySem.Calls PyProof.Rows

/-! ### the script -/
theorem ints_of_wellAll {P : Params} {h : Heap} : ∀ (ns : List Int) (vs : List Value), WellAll P h vs (ns.map WData.int) → IntsAre vs ns := by
  intro ns
  induction ns with
  | nil =>
    intro vs w
    rw [List.map_nil] at w
    cases w
    exact .nil
  | cons n ns ih =>
    intro vs w
    rw [List.map_cons] at w
    cases w with
    | cons a b =>
      cases a
      exact .cons _ _ (ih _ b)

theorem script_of {l : OpenLaw} {n : Nat} (hn : l.most = some n) {P : Params} {h : Heap} {args : List WData} {vals : List Value}
    (hpre : l.row.toRowW.claim.pre args = true) (hwl : WellAll P h vals args) :
    ∃ a vs ns, vals = [Value.ref a] ∧ args = [WData.list (ns.map WData.int)] ∧ h.get? a = some { cls := .type "list", data := .seq vs.toArray } ∧ IntsAre vs ns ∧ ns.length ≤ n := by
  have hsh : WShape.hasAll [] args [.list .int] = true := (pre_splitW hpre).1
  have hc : l.pre.holds [] { args := args } = true := (pre_splitW hpre).2
  obtain ⟨d, r, rfl, h1, h2⟩ := hasAllW_cons hsh
  obtain rfl := hasAllW_nil h2
  obtain ⟨xs, rfl, h3⟩ := hasW_list h1
  obtain ⟨ns, rfl⟩ := items_int h3
  have hlen : ns.length ≤ n := by
    unfold OpenLaw.pre at hc
    have h4 : (WTm.not (.lt (.lit (.int (n : Int))) (.len (.arg 0)))).holds [] { args := [.list (ns.map .int)] } = true := by
      have h4 := (holds_andW hc).1
      rw [hn] at h4
      exact h4
    have h5 := condW_of h4 (w_not (w_lt w_lit (w_len_list (w_arg rfl))))
    rw [List.length_map] at h5
    refine Nat.le_of_not_lt fun q => ?_
    have q' : (n : Int) < ((ns.length : Nat) : Int) := by omega
    first
      | (rw [decide_eq_true q'] at h5; exact absurd h5 (by decide))
      | (simp at h5; omega)
  cases hwl with
  | cons w1 w2 =>
    cases w2
    cases w1 with
    | list ho hall => exact ⟨_, _, ns, rfl, rfl, ho, ints_of_wellAll ns _ hall, hlen⟩

theorem post_true (l : OpenLaw) (args : List WData) : l.row.toRowW.claim.post args (.bool true) args = true :=
  postW_of (r := l.row.toRowW) (X := (true == true))
    (show WShape.has [] (.bool true) .bool = true by first | rfl | decide | simp [WShape.has, WShape.arms, WShape.armsAll])
    (show (WTm.eq .res (.lit (.bool true))).value [] { args := args, res := some (.bool true), after := args } = some (.bool (true == true)) from w_eq_bool (w_res rfl) w_lit) rfl

/-! ### the attachment: holds_open's last premise (the goal 'hc' behind k_head) from a wpAny of the law's body -/
/-- the same from a codeAny of the CALL (for a layer whose function contracts speak of calls) -/
theorem attach_call {l : OpenLaw} {n : Nat} {q : Program} {loose : List Str} {XP : (Str → Option Value) → Heap → Prop} {YP : World → Heap → Prop} {d : DefRec}
    (hn : l.most = some n) (hdf : d.params.defaults = [])
    (call : ∀ (w : World) (s₀ s₁ : Shared) (mg mb : Str → Option Value) (fa : Addr) (o : Obj) (pm cd doc : Value) (a : Addr) (vs : List Value) (ns : List Int),
      Ground q loose [] XP w s₀ mg mb s₁.heap → YP w s₁.heap →
      s₁.heap.get? fa = some o → o.data = .func (docDef d.name d.params d.body d.scope pm cd doc) → s₁.heap.CodeRec cd d.name → mg d.name = some (.ref fa) →
      s₁.heap.get? a = some { cls := .type "list", data := .seq vs.toArray } → IntsAre vs ns → ns.length ≤ n → s₁.gens = #[] →
      codeAny (model l.prog w) callerA (.call (.ref fa) ⟨[.ref a], []⟩) (fun r s' => r = .ok (.ret (.bool true)) ∧ OldK s₁.heap s'.heap ∧ s'.os = s₁.os ∧ AllBare s'.gens) s₁) :
    WalkO q loose XP YP l.row.toRowW d [] (fun f vs => PySem.call f vs) := by
  intro w s₀ s₁ mg mb G Y fa o pm cd doc dV kV ho hd hcd hD hmg hg args vals as hpre hlay hrd hwl hlo
  obtain rfl : dV = .none := Dflts.none hD hdf
  obtain rfl : kV = .none := Dflts.noKw hD
  obtain ⟨a, vs, ns, rfl, rfl, hobj, hints, hlen⟩ := script_of hn hpre hwl
  refine enter_call (codeAny_mono (call w s₀ s₁ mg mb fa o pm cd doc a vs ns G Y ho (fd_plain hd) hcd hmg hobj hints hlen hg) fun r s' hq => ?_)
  obtain ⟨rfl, h2, h3, h4⟩ := hq
  exact ⟨.inl ⟨.bool true, .bool true, [], rfl, fun _ => rfl, .bool true, post_true l _, fun _ => ⟨List.Pairwise.nil, fun _ hm => (nomatch hm)⟩⟩, h2, h3, h4⟩

/-! ### rules over ANY heap (no ledger) from facts about the written part K: the library's own take a ledger (News) for what they write -/
section
variable {prog : Program} {w : World} {A : Around} {E : Value → Shared → Prop} {s : Shared} {K : Frag}

/-! the whole heap as the ledger: makes every rule that writes through a ledger a rule over any heap -/
end
end Att

namespace L2
open PySem PySem.Spec PyProof.Rows

theorem vals_ints : ∀ {vs : List Value} {ns : List Int}, IntsAre vs ns → Vals (ns.map V.int) vs
  | _, _, .nil => .nil
  | _, _, .cons n t h => .cons ⟨t, rfl⟩ (vals_ints h)

/-- nothing is tracked but the script, known to the object (or it is an object of the module) -/
def Only (H : Hp) : Prop := ∀ b, H b = none ∨ ∃ o xs, H b = some (.frz o (.lst xs))

/-- THE HEAD: the law's promise, at the heap behind the top. F, the promise of the law's def, may use that base is part of the heap (so K.In base, base.Ns mainGlobals mg stand in Mod) -/
theorem law_call {P : Program} {w : World} {K : PySem.W.Frag} {mg mb : Str → Option Value} {CX : CXT} {k : Nat} {fa a : Addr} {fd : FuncData} {x : Str} {sp : Sp} {s₁ : Shared} {vs : List Value} {ns : List Int}
    (KX : K.In s₁.heap) (hns : s₁.heap.Ns mainGlobals mg) (hb : s₁.heap.Ns builtinsNs mb) (hbb : ∀ x : Str, x ≠ "__name__" → mb x = bootBuiltins x) (hlim : s₁.heap.NoLimit) (hg : s₁.gens = #[])
    (ha : s₁.heap.get? a = some { cls := .type "list", data := .seq vs.toArray }) (hi : IntsAre vs ns) (hl : ns.length ≤ sizeLine) (hr : Room k callerA)
    (F : ∀ base : Heap, K.In base → base.Ns mainGlobals mg → FnOk P w K mg base CX k fa fd [x] sp) (hbind : ∀ (s : Shared) (u : Value), BindsTo s fd ⟨[u], []⟩ [(x, u)])
    (hsp : ∀ H : Hp, Only H → SqL K H a (ns.map V.int) → sp [.ref a] H (fun v _ => v = .bl true) fun _ _ _ => False)
    (hCX : ∀ H e s', CX [] H s₁ (fun _ _ _ => False) e s' → False) :
    codeAny (model P w) callerA (.call (.ref fa) ⟨[.ref a], []⟩) (fun r s' => r = .ok (.ret (.bool true)) ∧ OldK s₁.heap s'.heap ∧ s'.os = s₁.os ∧ AllBare s'.gens) s₁ := by
  have rv := vals_ints hi
  have lenV := hi.length
  -- from an abstract heap in which nothing but the script may be tracked
  have core : ∀ H : Hp, Only H → SqL K H a (ns.map V.int) → HOk P w H s₁.heap → (∀ b, H b ≠ none → b = a) → (H a ≠ none → K.lookup a = none) →
      codeAny (model P w) callerA (.call (.ref fa) ⟨[.ref a], []⟩) (fun r s' => r = .ok (.ret (.bool true)) ∧ OldK s₁.heap s'.heap ∧ s'.os = s₁.os ∧ AllBare s'.gens) s₁ := by
    intro H hO hS hok hA hK
    have base_of : ∀ {b : Addr} {o : Obj}, s₁.heap.get? b = some o → H b = none → (hidT s₁.heap H).get? b = some o := fun e n => hidT_get e n
    have noA : ∀ {b : Addr} {o : Obj} {es : Array DictEntry} {ep : Nat}, s₁.heap.get? b = some o → o.data = .dict es ep → H b = none := fun {b o es ep} e d => by
      cases q : H b with
      | none => rfl
      | some u =>
        have e' : b = a := hA b (by rw [q]; simp)
        subst e'
        rw [ha] at e; cases e
        have d' : Data.seq vs.toArray _ = Data.dict es ep := d
        cases d'
    have nsK : ∀ {b : Addr} {m : Str → Option Value}, s₁.heap.Ns b m → (hidT s₁.heap H).Ns b m := fun {b m} ⟨o, es, ep, e, d, r⟩ => ⟨o, es, ep, base_of e (noA e d), d, r⟩
    have hKb : K.In (hidT s₁.heap H) := fun b o e => base_of (KX b o e) (by
      cases q : H b with
      | none => rfl
      | some u =>
        have e' : b = a := hA b (by rw [q]; simp)
        subst e'
        rw [hK (by rw [q]; simp)] at e; cases e)
    have hM : Mod K mg (hidT s₁.heap H) := ⟨hKb, nsK hns, ⟨mb, nsK hb, hbb⟩, let ⟨mc, h1, h2⟩ := hlim; ⟨mc, nsK h1, h2⟩⟩
    have e0 : Env0 P w K mg (hidT s₁.heap H) callerA [] s₁ H := ⟨rfl, hM, fun b o e => of_hidT e, Nat.le_of_eq (hidT_size _ _), trivial, fun b hb => absurd (show b ∈ ([] : List Addr) from hb) (by simp), hok, .of_eq hg⟩
    refine codeAny_mono ((F _ hKb (nsK hns)).run callerA [] s₁ H ⟨[.ref a], []⟩ [.ref a] [.ref a] _ _ hr e0 (hbind s₁ (.ref a)) (.cons rfl .nil) (hsp H hO hS)) fun r s' h => ?_
    cases r with
    | error e => exact (hCX H e s' h).elim
    | ok fl =>
      cases fl with
      | next => exact False.elim h
      | brk => exact False.elim h
      | cont => exact False.elim h
      | ret u =>
        obtain ⟨v, H', os, bare, un, hok', r', q⟩ := h
        have q' : v = .bl true := q
        subst q'
        obtain rfl : u = Value.bool true := r'
        refine ⟨rfl, OldK.of_keep fun b o e => ?_, os, bare⟩
        cases q : H b with
        | none => exact un.keep b o e q (by intro z; exact absurd (show b ∈ ([] : List Addr) from z) (by simp)) (by simp)
        | some u =>
          rcases hO b with z | ⟨ob, xs, z⟩
          · rw [q] at z; cases z
          · have z2 := un.frzs b ob _ z
            obtain ⟨e1, _⟩ := hok b _ z
            obtain ⟨e2, _⟩ := hok' b _ z2
            rw [e] at e1; cases e1
            exact e2
  cases hk : K.lookup a with
  | some o =>
    -- the script is one of the module's own objects
    have e := KX a o hk
    rw [ha] at e
    cases e
    refine core (fun _ => none) (fun _ => .inl rfl) (.inr ⟨_, vs.toArray, _, hk, rfl, rfl, rfl, by rw [List.size_toArray, lenV]; exact hl, by simpa using rv⟩) (fun b u z => by have z' : (none : Option HO) = some u := z; cases z') (fun b z => absurd rfl z) fun z => absurd rfl z
  | none =>
    refine core (fun b => if b = a then some (.frz { cls := .type "list", data := .seq vs.toArray } (.lst (ns.map V.int))) else none) (fun b => ?_) (.inl (.inr ⟨{ cls := .type "list", data := .seq vs.toArray }, if_pos rfl⟩)) (fun b u z => ?_) (fun b z => ?_) fun _ => hk
    · by_cases hb : b = a
      · exact .inr ⟨_, _, if_pos hb⟩
      · exact .inl (if_neg hb)
    · by_cases hb : b = a
      · have z' := (if_pos hb).symm.trans z
        cases z'
        subst hb
        exact ⟨ha, by rw [List.length_map]; exact hl, vs, _, rv, ha⟩
      · have z' := (if_neg hb).symm.trans z
        cases z'
    · by_cases hb : b = a
      · exact hb
      · exact absurd (if_neg hb) z
end L2

namespace L2
open PySem PySem.Spec PyProof.Rows

/-- the goal that k_head leaves (case hc), from the law's promise. F gives the function object fd (K's own) once, then the promise over every base -/
theorem walk_of {l : PySem.W.OpenLaw} {n k : Nat} {q : Program} {loose : List Str} {XP : (Str → Option Value) → Heap → Prop} {YP : World → Heap → Prop} {d : DefRec} {K : Params → PySem.W.Frag} {CX : World → CXT} {sp : World → Sp} {x : Str}
    (hn : l.most = some n) (hn2 : n ≤ sizeLine) (hdf : d.params.defaults = []) (hr : Room k callerA)
    (hY : ∀ (w : World) (h : Heap), YP w h → (K w.params).In h)
    (F : ∀ (w : World) (mg : Str → Option Value) (fa : Addr) (h : Heap), (K w.params).In h → h.Ns mainGlobals mg → mg d.name = some (.ref fa) →
      ∃ fd : FuncData, (∀ (s : Shared) (u : Value), BindsTo s fd ⟨[u], []⟩ [(x, u)]) ∧
        ∀ base : Heap, (K w.params).In base → base.Ns mainGlobals mg → FnOk l.prog w (K w.params) mg base (CX w) k fa fd [x] (sp w))
    (hsp : ∀ (w : World) (H : Hp) (a : Addr) (ns : List Int), ns.length ≤ n → Only H → SqL (K w.params) H a (ns.map V.int) → sp w [.ref a] H (fun v _ => v = .bl true) fun _ _ _ => False)
    (hCX : ∀ (w : World) (H : Hp) (s : Shared) (e : Value) (s' : Shared), CX w [] H s (fun _ _ _ => False) e s' → False) :
    PySem.W.WalkO q loose XP YP l.row.toRowW d [] (fun f vs => PySem.call f vs) := by
  refine Att.attach_call hn hdf fun w s₀ s₁ mg mb fa o pm cd doc a vs ns G Y ho hd hcd hmg hobj hints hlen hg => ?_
  have KX := hY w _ Y
  obtain ⟨fd, hb, hF⟩ := F w mg fa _ KX G.T.g hmg
  exact law_call KX G.T.g G.T.b G.T.builtins G.T.nolimit hg hobj hints (Nat.le_trans hlen hn2) hr hF hb (fun H hO hS => hsp w H a ns hlen hO hS) fun H e s' => hCX w H s₁ e s'
end L2

/- THE LAST THEOREM (shape; LID, My.* are yours):
   My.Adr: a structure of the addresses that your layer names (classes, functions); My.Txt K t: a structure (Prop) of the equations over K;
   My.txt_mk : {K} {implicit addresses ..} (e1 : nsIn K mainGlobals "law" = some (some (.ref f))) (e2 : K.lookup f = some ⟨oc, od, .func (fnOf "law" "law" params body scope dV kV doc pm an cdv ct), sl⟩) (e3 : codeIn K cdv "law" = true) .. : ∃ t, My.Txt K t

set_option maxRecDepth 100000 in
set_option maxHeartbeats 0 in
theorem PySem.Challenge.cw_LID_holds : PySem.Challenge.rw_LID.Holds := by
  w_on; o_law; k_head; (case hw => w_witness2)
  k_fill
  refine L2.walk_of (l := PySem.Challenge.rw_LID) (n := 63) (k := 40) (x := "script") (CX := fun w => ..) (sp := fun _ => My.sp_law) rfl (by decide) rfl ⟨rfl, by decide, by decide⟩ (fun w h Y => PySem.W.kIn_of Y) ?F ?S ?C
  case F =>
    intro w mg fa h KX G hmg
    have T : ∃ t, My.Txt (L2.KOf KX) t := by
      dsimp only [L2.KOf]                          -- K must stand as «<heap const> w.params» for k_is
      refine' My.txt_mk ?e1 ?e2 ?e3 ..
      (case e1 => PySem.W.k_is)                    -- in the order: a name -> its address -> its object -> its parts
      (case e2 => PySem.W.k_is)
      ..
    obtain ⟨t, T⟩ := T
    have e0 := hmg.symm.trans (PySem.W.mg_of KX G T.law)
    cases e0                                       -- fa is the law's own address
    exact ⟨_, fun s u => .of_eq rfl, fun base kb nb => My.law_fn T kb nb⟩     -- if «.of_eq rfl» comes too early: refine' ⟨_, ?b, fun base kb nb => My.law_fn T kb nb⟩; exact fun s u => .of_eq rfl
  case S => exact fun w H a ns hl hO hS => ..
  case C => exact ..
(the tactic k_is has no namespace: write k_is) -/

/-! SHORT WORDS over the layer: a def of the text, its body, what a loop and a test want. -/
namespace L2
open PySem PySem.Spec PyProof.Rows

/-! ### the text by places -/
def defArgs (s : Stmt) : Arguments := match s with
  | .FunctionDef _ a _ _ _ _ _ _ _ _ => a
  | _ => { posonlyargs := [], args := [], vararg := none, kwonlyargs := [], kw_defaults := [], kwarg := none, defaults := [] }
def defBody (s : Stmt) : List Stmt := match s with
  | .FunctionDef _ _ b _ _ _ _ _ _ _ => b
  | _ => []
def defScope (s : Stmt) : Scope := match s with
  | .FunctionDef _ _ _ _ _ _ sc _ _ _ => sc
  | _ => { kind := .function, names := [], isGenerator := false, isCoroutine := false }

/-! ### no exception leaves a def -/
abbrev CX0 : CXT := fun _ _ _ _ _ _ => False
abbrev E0 : XK := fun _ _ _ => False
theorem pass0 {X : Cx} : Passes CX0 X E0 := fun _ _ _ _ _ _ _ h => h.elim

/-! ### a def (or method) of the text as it stands behind the top -/
section
variable {P : Program} {w : World} {K : PySem.W.Frag} {mg : Str → Option Value} {base : Heap}
end
theorem small1000 {n : Nat} (h : n ≤ 1000) : n < sizeLine := Nat.lt_of_le_of_lt h (by decide)

/-! ### expressions in short: the name that stands in the i-th slot -/
section
variable {X : Cx}
theorem pv (i : Nat) {x : Str} {pos : Pos} (hN : X.N[i]? = some x := by rfl) (hv : Vis X.env.scope x := by first | exact Or.inl rfl | exact Or.inr (Or.inl rfl) | exact Or.inr (Or.inr rfl)) (hd : (x == ("__debug__" : Str)) = false := by decide)
    (hcd : (x == ("__classdict__" : Str)) = false := by decide) : PE X (.Name x pos) (tVar i) := pe_var hN hv hd hcd
end

/-! ### tests -/
theorem iteF {A B : Prop} (h : B) : if false = true then A else B := by
  rw [if_neg Bool.false_ne_true]
  exact h
theorem iteT {A B : Prop} (h : A) : if true = true then A else B := by
  rw [if_pos rfl]
  exact h
/-! ### heaps -/
/-- all that was tracked is as it was -/
def Same (H H' : Hp) : Prop := ∀ b o, H b = some o → H' b = some o
theorem Same.refl (H : Hp) : Same H H := fun _ _ h => h
theorem Same.trans {H H1 H2 : Hp} (a : Same H H1) (b : Same H1 H2) : Same H H2 := fun c o h => b c o (a c o h)
theorem Same.seq {K : PySem.W.Frag} {H H' : Hp} {a : Addr} {xs : List V} (e : Same H H') (h : SqL K H a xs) : SqL K H' a xs := by
  rcases h with (h | ⟨o, h⟩) | h
  · exact .inl (.inl (e _ _ h))
  · exact .inl (.inr ⟨o, e _ _ h⟩)
  · exact .inr h

end L2
end
section
set_option Elab.async false
set_option linter.all false
set_option maxRecDepth 100000
set_option maxHeartbeats 4000000
namespace Mth
theorem gcd_step {a b : Int} (ha : 0 ≤ a) (hb : 0 < b) : Int.gcd b (a % b) = Int.gcd a b := by
  obtain ⟨m, rfl⟩ := Int.eq_ofNat_of_zero_le ha
  obtain ⟨n, rfl⟩ := Int.eq_ofNat_of_zero_le (Int.le_of_lt hb)
  rw [← Int.natCast_emod]
  show Nat.gcd (n : Int).natAbs ((m % n : Nat) : Int).natAbs = Nat.gcd (m : Int).natAbs (n : Int).natAbs
  simp only [Int.natAbs_natCast]
  rw [Nat.gcd_comm m n, Nat.gcd_comm n (m % n)]
  exact (Nat.gcd_rec n m).symm
theorem gcd_abs (a b : Int) : Int.gcd (if a < 0 then -a else a) b = Int.gcd a b := by
  split
  · exact Int.neg_gcd
  · rfl
theorem gcd_abs' (a b : Int) : Int.gcd a (if b < 0 then -b else b) = Int.gcd a b := by
  rw [Int.gcd_comm, gcd_abs, Int.gcd_comm]
theorem gcd_zero {a : Int} (ha : 0 ≤ a) : (Int.gcd a 0 : Int) = a := by
  rw [Int.gcd_zero]; omega
/-- lowest terms -/
structure Low (t b : Int) : Prop where
  pos : 1 ≤ b
  one : Int.gcd t b = 1
theorem gcd_pos {a b : Int} (h : b ≠ 0) : 0 < (Int.gcd a b : Int) := by
  have := Int.gcd_pos_of_ne_zero_right a h
  omega
/-- exact division -/
theorem div_eq (a b : Int) : a = a / (Int.gcd a b : Int) * (Int.gcd a b : Int) := (Int.ediv_mul_cancel (Int.gcd_dvd_left a b)).symm
theorem div_eq' (a b : Int) : b = b / (Int.gcd a b : Int) * (Int.gcd a b : Int) := (Int.ediv_mul_cancel (Int.gcd_dvd_right a b)).symm
theorem div_low {a b : Int} (hb : 0 < b) : Low (a / (Int.gcd a b : Int)) (b / (Int.gcd a b : Int)) := by
  have hg := gcd_pos (a := a) (b := b) (by omega)
  refine ⟨?_, ?_⟩
  · have h1 := div_eq' a b
    have h2 : 0 < b / (Int.gcd a b : Int) := Int.ediv_pos_of_pos_of_dvd hb (by omega) (Int.gcd_dvd_right a b)
    omega
  · rw [Int.gcd_ediv (Int.gcd_dvd_left a b) (Int.gcd_dvd_right a b)]
    simp only [Int.natAbs_natCast]
    exact Nat.div_self (by omega)
/-- the fraction of two numbers -/
structure Frac (top bottom t b : Int) : Prop where
  low : Low t b
  eq : top * b = t * bottom
theorem frac_pos {a b : Int} (hb : 0 < b) : Frac a b (a / (Int.gcd a b : Int)) (b / (Int.gcd a b : Int)) := by
  refine ⟨div_low hb, ?_⟩
  have h1 := div_eq a b
  have h2 := div_eq' a b
  generalize a / (Int.gcd a b : Int) = x at *
  generalize b / (Int.gcd a b : Int) = y at *
  generalize (Int.gcd a b : Int) = g at *
  subst h1 h2
  grind
end Mth
/-! WORDS OF OUR OWN over the hand layer. -/
namespace L2
open PySem PySem.Spec PyProof.Rows

/-! ### sizes -/
abbrev bits (i : Int) : Nat := Builtin.Int.intBits i
theorem bits_of {i : Int} {n : Nat} (h : i.natAbs < 2 ^ n) : bits i ≤ n := intBits_le h
theorem bits_lt {i : Int} {n : Nat} (h : bits i ≤ n) : i.natAbs < 2 ^ n := by
  unfold bits Builtin.Int.intBits at h
  by_cases h0 : i = 0
  · subst h0
    exact Nat.pos_of_ne_zero (by simp)
  · rw [if_neg (by simpa using h0)] at h
    have h1 : i.natAbs ≠ 0 := by omega
    exact (Nat.log2_lt h1).mp (by omega)
theorem bits_mono {i j : Int} {n : Nat} (h : i.natAbs ≤ j.natAbs) (hj : bits j ≤ n) : bits i ≤ n := bits_of (Nat.lt_of_le_of_lt h (bits_lt hj))
theorem bits_mul {i j : Int} {m n : Nat} (hi : bits i ≤ m) (hj : bits j ≤ n) : bits (i * j) ≤ m + n := by
  refine bits_of ?_
  rw [Int.natAbs_mul, Nat.pow_add]
  exact Nat.mul_lt_mul'' (bits_lt hi) (bits_lt hj)
theorem bits_add {i j : Int} {n : Nat} (hi : bits i ≤ n) (hj : bits j ≤ n) : bits (i + j) ≤ n + 1 := by
  refine bits_of ?_
  have h1 := bits_lt hi
  have h2 := bits_lt hj
  have h3 : (2 : Nat) ^ (n + 1) = 2 * 2 ^ n := by rw [Nat.pow_succ, Nat.mul_comm]
  omega
theorem bits_sub {i j : Int} {n : Nat} (hi : bits i ≤ n) (hj : bits j ≤ n) : bits (i - j) ≤ n + 1 := by
  refine bits_of ?_
  have h1 := bits_lt hi
  have h2 := bits_lt hj
  have h3 : (2 : Nat) ^ (n + 1) = 2 * 2 ^ n := by rw [Nat.pow_succ, Nat.mul_comm]
  omega
theorem bits_neg {i : Int} {n : Nat} (hi : bits i ≤ n) : bits (-i) ≤ n := bits_mono (by omega) hi
theorem bits_abs {i : Int} {n : Nat} (hi : bits i ≤ n) : bits (if i < 0 then -i else i) ≤ n := bits_mono (by split <;> omega) hi
theorem bits_ediv {i j : Int} {n : Nat} (hj : 0 < j) (hi : bits i ≤ n) : bits (i / j) ≤ n := by
  refine bits_mono ?_ hi
  exact Int.natAbs_ediv_le_natAbs i j
theorem bits_range {i b : Int} {n : Nat} (h0 : 0 ≤ i) (h1 : i ≤ b) (hb : bits b ≤ n) : bits i ≤ n := bits_mono (by omega) hb
theorem bits_le {i : Int} {m n : Nat} (h : bits i ≤ m) (hm : m ≤ n) : bits i ≤ n := Nat.le_trans h hm

/-! ### products, quotients -/
section
variable {X : Cx} {pos : Pos}
def CM (i j : Int) : Prop := IntMulOk i j
theorem CM.b {i j : Int} {m n : Nat} (hi : bits i ≤ m) (hj : bits j ≤ n) (hm : m ≤ 2 ^ 20) (hn : n ≤ 2 ^ 20) : CM i j := IntMulOk.of_bits (Nat.le_trans hi hm) (Nat.le_trans hj hn)
theorem CM.l {i j : Int} (h : -(2 ^ 64) < i ∧ i < 2 ^ 64) : CM i j := CMul.ok (.inl h)
theorem CM.r {i j : Int} (h : -(2 ^ 64) < j ∧ j < 2 ^ 64) : CM i j := CMul.ok (.inr h)
theorem op_mulX : OpR X (binaryOp .Mult) (rI CM fun i j => .int (i * j)) := opI fun _ _ _ _ _ _ _ hc q => mul_int q hc
def CD (_ j : Int) : Prop := 0 < j ∧ bits j ≤ 8000
theorem log2_of_bits {j : Int} {n : Nat} (hj : j ≠ 0) (h : bits j ≤ n) (hn : n ≤ 9000) : j.natAbs.log2 < 9000 := by
  have h1 : j.natAbs ≠ 0 := by omega
  have h2 := (Nat.log2_lt h1).mpr (bits_lt h)
  omega
theorem op_fdivP : OpR X (binaryOp .FloorDiv) (rI CD fun i j => .int (i / j)) := opI fun i j _ _ _ _ _ hc q => by
  have h1 : (0 : Int) < j := hc.1
  exact floordiv_int (by omega) (by rw [Int.fdiv_eq_ediv_of_nonneg i (by omega)]; exact q) (.inl (PyProof.noPylong_of_log2 (log2_of_bits (by omega) hc.2 (by decide))))
/-! ### bit_length -/
theorem mt_bitlen : MtR X "int.bit_length" (fun x xs H Q => ∃ i, x = .int i ∧ xs = [] ∧ Q (.int ((bits i : Nat) : Int)) H) := by
  intro pins s σ H x xs v us Q I rx rs h
  obtain ⟨i, rfl, rfl, q⟩ := h
  obtain ⟨t, rfl⟩ := rx
  cases rs
  exact call_int_bit_length ⟨.int _, H, I.tok _, ⟨_, rfl⟩, q⟩
end

/-! ### the built-in names -/
theorem bt_int : bootBuiltins "int" = some (.type "int") := by decide +kernel
theorem bt_bool : bootBuiltins "bool" = some (.type "bool") := by decide +kernel
theorem bt_tuple : bootBuiltins "tuple" = some (.type "tuple") := by decide +kernel
theorem bt_isinstance : bootBuiltins "isinstance" = some (.builtin "isinstance") := by decide +kernel
theorem bt_abs : bootBuiltins "abs" = some (.builtin "abs") := by decide +kernel
theorem bt_len : bootBuiltins "len" = some (.builtin "len") := by decide +kernel
theorem pe_ty {X : Cx} {x : Str} {T : String} {pos : Pos} (hm : X.mg x = none) (hv : bootBuiltins x = some (.type T)) (hg : Gl X x := by rfl) (hn : x ≠ "__name__" := by decide) (hd : (x == ("__debug__" : Str)) = false := by decide) :
    PE X (.Name x pos) (tC (.ty T)) := pe_bltn hg hm hv rfl hn hd

/-! ### the kinds of things, and isinstance -/
inductive Kn (H : Hp) : V → String → Prop where
  | non : Kn H .non "NoneType"
  | bl (b : Bool) : Kn H (.bl b) "bool"
  | int (i : Int) : Kn H (.int i) "int"
  | str (x : Str) : Kn H (.str x) "str"
  | lst {a : Addr} {xs : List V} (e : H a = some (.lst xs)) : Kn H (.ref a) "list"
  | tup {a : Addr} {xs : List V} (e : H a = some (.tup xs)) : Kn H (.ref a) "tuple"
  | dict {a : Addr} {kvs : List (Key × V)} (e : H a = some (.dK kvs)) : Kn H (.ref a) "dict"
theorem Kn.ty {K : PySem.W.Frag} {H : Hp} {x : V} {t : String} (k : Kn H x t) : TyOf K H x (.type t) := by
  cases k with
  | non => exact .non
  | bl b => exact .bl b
  | int i => exact .int i
  | str x => exact .str x
  | lst e => exact .lst e
  | tup e => exact .tup e
  | dict e => exact .dK e
def isSub (t T : String) : Bool := t == T || (t == "bool" && T == "int")
def Nice (T : String) : Prop := T = "int" ∨ T = "bool" ∨ T = "tuple" ∨ T = "list" ∨ T = "str"
theorem kit_of (K : PySem.W.Frag) {H : Hp} {x : V} {t T : String} (k : Kn H x t) (n : Nice T) : PySem.W.kitOne K (.type t) (.type T) = some (isSub t T) := by
  rcases n with rfl | rfl | rfl | rfl | rfl <;> cases k <;> kernel_rfl
theorem call_isinst {X : Cx} : CallR X (.builtin "isinstance") (fun xs H Q => ∃ x t T, xs = [x, .ty T] ∧ Kn H x t ∧ Nice T ∧ Q (.bl (isSub t T)) H) := by
  intro pins s σ H xs us Q I rs h
  obtain ⟨x, t, T, rfl, k, n, q⟩ := h
  obtain ⟨u, v, rfl, ru, rv⟩ := vals2 rs
  cases (show v = Value.type T from rv)
  exact isinst_ok I ru k.ty (kit_of X.K k n) fun tk => ⟨.bl _, H, I.tok _, rfl, q⟩

/-! ### defs -/
/-- a def of the text, with what it keeps -/
structure Fn (P : Program) (w : World) (K : PySem.W.Frag) (mg : Str → Option Value) (base : Heap) (x : Str) (ps : List Str) (k : Nat) (sp : Sp) : Prop where
  ex : ∃ (f : Addr) (fd : FuncData) (o : Obj), mg x = some (.ref f) ∧ PySem.W.keepIn K (.ref f) = true ∧ (∀ us : List Value, us.length = ps.length → bindArgs fd ⟨us, []⟩ = pure (ps.zip us)) ∧ (K.lookup f = some o ∧ o.data = .func fd) ∧ FnOk P w K mg base CX0 k f fd ps sp
theorem pe_fn {X : Cx} {x : Str} {ps : List Str} {k : Nat} {sp : Sp} {p pos : Pos} {e : Expr} {es : List Expr} {t : TA} (F : Fn X.prog X.w X.K X.mg X.base x ps k sp) (hr : Room k X.A) (hg : Gl X x) (ha : PA X (e :: es) t)
    (hdb : (x == ("__debug__" : Str)) = false := by decide) (he : starEach (e :: es) X.env = (false, eval e X.env) :: starEach es X.env := by rfl) (hpl : (backTo pos (starEach es X.env)).any (·.1) = false := by rfl) :
    PE X (.Call (.Name x p) (e :: es) [] pos) (tCall sp [] E0 t) := by
  obtain ⟨f, fd, o, hm, hk, hb, _, G⟩ := F.ex
  exact pe_call G hr hg hm hk (.all hb) .nil pass0 ha hdb he hpl
/-- a def as the top has laid it, without defaults -/
structure Df (K : PySem.W.Frag) (mg : Str → Option Value) (x : Str) (st : Stmt) : Prop where
  ex : ∃ (f : Addr) (oc : Value) (od : Option Addr) (kV doc pm : Value) (an : Option Addr) (cdv ct : Value) (osl : Array (Option Value)),
    mg x = some (.ref f) ∧ K.lookup f = some ⟨oc, od, .func (PySem.W.fnOf x x (defArgs st) (defBody st) (defScope st) .none kV doc pm an cdv ct), osl⟩ ∧ PySem.W.codeIn K cdv x = true ∧ PySem.W.keepIn K (.ref f) = true
theorem df_mk {K : PySem.W.Frag} {mg : Str → Option Value} {h : Heap} {x : Str} {st : Stmt} {f : Addr} {oc : Value} {od an : Option Addr} {osl : Array (Option Value)} {kV doc pm cdv ct : Value} (X : K.In h) (G : h.Ns mainGlobals mg)
    (a : PySem.W.nsIn K mainGlobals x = some (some (.ref f))) (l : K.lookup f = some ⟨oc, od, .func (PySem.W.fnOf x x (defArgs st) (defBody st) (defScope st) .none kV doc pm an cdv ct), osl⟩) (c : PySem.W.codeIn K cdv x = true) (k : PySem.W.keepIn K (.ref f) = true) :
    Df K mg x st := ⟨⟨f, oc, od, kV, doc, pm, an, cdv, ct, osl, PySem.W.mg_of X G a, l, c, k⟩⟩
theorem Df.fn {P : Program} {w : World} {K : PySem.W.Frag} {mg : Str → Option Value} {base : Heap} {x : Str} {st : Stmt} {N ps : List Str} {k : Nat} {sp : Sp} (D : Df K mg x st) (S : FnScope N ps (defScope st))
    (hbind : ∀ (kV doc pm : Value) (an : Option Addr) (cdv ct : Value) (us : List Value), us.length = ps.length → bindArgs (PySem.W.fnOf x x (defArgs st) (defBody st) (defScope st) .none kV doc pm an cdv ct) ⟨us, []⟩ = pure (ps.zip us))
    (len : ∀ vs H Q E, sp vs H Q E → vs.length = ps.length)
    (hbody : ∀ (f : Addr) (cdv : Value) (A : Around) (outer : List Env) (s : Shared) (H : Hp) (vs : List V) (Q : VK) (E : XK), Room k (A.deeper (envOfC x (defScope st) s.heap.objs.size f cdv)) → sp vs H Q E →
      ∃ t, PSs (cxOf CX0 P w K mg base N x (defScope st) f cdv A outer s H E).nox (defBody st) t ∧ t { nx := fun _ H' => Q .non H', rt := Q } (start N vs) H) : Fn P w K mg base x ps (k + 1) sp := by
  obtain ⟨f, oc, od, kV, doc, pm, an, cdv, ct, osl, hm, lk, hcd, hk⟩ := D.ex
  refine ⟨⟨f, _, _, hm, hk, hbind kV doc pm an cdv ct, ⟨lk, rfl⟩, fn_of lk hcd S len fun A outer s H vs Q E hr hsp => ?_⟩⟩
  obtain ⟨t, h, q⟩ := hbody f cdv A outer s H vs Q E hr hsp
  exact ⟨t, h.nox, q⟩

/-- the law's own def, once for every base -/
theorem law_fd {P : Program} {w : World} {K : PySem.W.Frag} {mg : Str → Option Value} {fa : Addr} {k : Nat} {sp : Sp} (h : Heap) (hfa : mg "law" = some (.ref fa)) (F : ∀ base : Heap, Fn P w K mg base "law" ["script"] k sp) :
    ∃ fd : FuncData, (∀ (s : Shared) (v : Value), BindsTo s fd ⟨[v], []⟩ [("script", v)]) ∧ ∀ base : Heap, K.In base → base.Ns mainGlobals mg → FnOk P w K mg base CX0 k fa fd ["script"] sp := by
  obtain ⟨f, fd, o, hm, _, hb, ⟨hl, hd⟩, _⟩ := (F h).ex
  rw [hfa] at hm
  cases hm
  refine ⟨fd, fun s v => .of_eq (hb [v] rfl), fun base _ _ => ?_⟩
  obtain ⟨f', fd', o', hm', _, _, ⟨hl', hd'⟩, G⟩ := (F base).ex
  rw [hfa] at hm'
  cases hm'
  rw [hl] at hl'
  cases hl'
  rw [hd] at hd'
  cases hd'
  exact G
/-- what a law promises -/
def spLaw (K : PySem.W.Frag) : Sp := fun vs H Q _ => ∃ (a : Addr) (ns : List Int), vs = [.ref a] ∧ SqL K H a (ns.map V.int) ∧ ns.length ≤ 63 ∧ ∀ H', Q (.bl true) H'
theorem law_walk {l : PySem.W.OpenLaw} {k : Nat} {q : Program} {loose : List Str} {XP : (Str → Option Value) → Heap → Prop} {YP : World → Heap → Prop} {d : DefRec} {K : Params → PySem.W.Frag} (hk : Room k callerA) (hn : l.most = some 63) (hdf : d.params.defaults = [])
    (hY : ∀ (w : World) (h : Heap), YP w h → (K w.params).In h)
    (F : ∀ (w : World) (mg : Str → Option Value) (fa : Addr) (h : Heap), (K w.params).In h → h.Ns mainGlobals mg → mg d.name = some (.ref fa) →
      ∃ fd : FuncData, (∀ (s : Shared) (u : Value), BindsTo s fd ⟨[u], []⟩ [("script", u)]) ∧ ∀ base : Heap, (K w.params).In base → base.Ns mainGlobals mg → FnOk l.prog w (K w.params) mg base CX0 k fa fd ["script"] (spLaw (K w.params))) :
    PySem.W.WalkO q loose XP YP l.row.toRowW d [] (fun f vs => PySem.call f vs) :=
  L2.walk_of (n := 63) (k := k) (x := "script") (CX := fun _ => CX0) (sp := fun w => spLaw (K w.params)) hn (by decide) hdf hk hY F (fun _ _ a ns hl _ hS => ⟨a, ns, rfl, hS, hl, fun _ => rfl⟩) fun _ _ _ _ _ z => z

/-! ### heaps -/
theorem Same.new {H : Hp} {p : Addr} {o : HO} (h : H p = none) : Same H (upd H p o) := fun b o' e => by
  rw [upd_ne (ne_of_none e h)]
  exact e
/-- the test of a while read for another end -/
theorem ite3 {c : Bool} {A B : Prop} (h1 : c = true → A) (h2 : c = false → B) : if c = true then A else B := by
  cases c with
  | true => exact iteT (h1 rfl)
  | false => exact iteF (h2 rfl)
theorem iteFalse {b : Bool} {A B : Prop} (hb : b = false) (h : B) : if b = true then A else B := by
  subst hb
  exact iteF h
theorem iteTrue {b : Bool} {A B : Prop} (hb : b = true) (h : A) : if b = true then A else B := by
  subst hb
  exact iteT h
/-- the body of a for -/
def forBody (s : Stmt) : List Stmt := match s with
  | .For _ _ b _ _ => b
  | _ => []
def isIntV : V → Bool
  | .int _ => true
  | _ => false
theorem mem_cutV {xs : List V} {lo hi : Option Int} {x : V} (h : x ∈ cutV xs lo hi) : x ∈ xs := List.mem_of_mem_drop (List.mem_of_mem_take h)
end L2
/-! WHAT THE SMALL DEFS KEEP -/
namespace Sp1
open PySem PySem.Spec L2 Mth
/-! ### what each def keeps -/
def spWhole : Sp := fun vs H Q _ => ∃ x t, vs = [x] ∧ Kn H x t ∧ Q (.bl (isIntV x)) H
def spGcd : Sp := fun vs H Q _ => ∃ a b : Int, vs = [.int a, .int b] ∧ Q (.int (Int.gcd a b : Int)) H
def spCommon : Sp := fun vs H Q _ => ∃ a b : Int, vs = [.int a, .int b] ∧ 0 ≤ a ∧ 0 ≤ b ∧ Q (.int (Int.gcd a b : Int)) H
def lowB (a b : Int) : Bool := decide (1 ≤ b) && decide (Int.gcd a b = 1)
def lowL : List V → Bool
  | [.int a, .int b] => lowB a b
  | _ => false
def lowV (H : Hp) : V → Bool
  | .ref p => match H p with
    | some (.tup xs) => lowL xs
    | _ => false
  | _ => false
/-- a thing of a known kind; a tuple's parts are so, too -/
structure Thing (H : Hp) (x : V) : Prop where
  kn : ∃ t, Kn H x t
  parts : ∀ p xs, x = .ref p → H p = some (.tup xs) → ∀ y ∈ xs, ∃ t, Kn H y t
def spLow : Sp := fun vs H Q _ => ∃ x, vs = [x] ∧ Thing H x ∧ Q (.bl (lowV H x)) H
def spMixed : Sp := fun vs H Q _ => ∃ c k : Int, vs = [.int c, .int k] ∧ ∀ n : Int, Q (.int n) H
def spNumbers : Sp := fun vs H Q _ => ∃ (c : Int) (m : Nat) (b : Int), vs = [.int c, .int (m : Int), .int b] ∧ m ≤ 100 ∧ (0 < b ∧ bits b ≤ 2000) ∧
  ∀ (p : Addr) (ns : List Int) (H' : Hp), ns.length = m → (∀ n ∈ ns, 0 ≤ n ∧ n < b) → Same H H' → H' p = some (.lst (ns.map V.int)) → Q (.ref p) H'
theorem whole_sub {H : Hp} {x : V} {t : String} (k : Kn H x t) : (isSub t "int" = true → (!isSub t "bool") = isIntV x) ∧ (isSub t "int" = false → isIntV x = false) := by
  cases k with
  | non => exact ⟨fun h => absurd h (by decide), fun _ => rfl⟩
  | bl b => exact ⟨fun _ => (show (!isSub "bool" "bool") = false by decide), fun h => absurd h (by decide)⟩
  | int i => exact ⟨fun _ => (show (!isSub "int" "bool") = true by decide), fun h => absurd h (by decide)⟩
  | str x => exact ⟨fun h => absurd h (by decide), fun _ => rfl⟩
  | lst e => exact ⟨fun h => absurd h (by decide), fun _ => rfl⟩
  | tup e => exact ⟨fun h => absurd h (by decide), fun _ => rfl⟩
  | dict e => exact ⟨fun h => absurd h (by decide), fun _ => rfl⟩
theorem abs_nonneg (a : Int) : 0 ≤ (if a < 0 then -a else a) := by split <;> omega
/-! ### is_ratio and the law's own look -/
theorem Kn.cases_int {H : Hp} {y : V} {t : String} (k : Kn H y t) : (∃ a, y = .int a ∧ t = "int") ∨ ((∀ a, y ≠ .int a) ∧ isIntV y = false) := by
  cases k with
  | int a => exact .inl ⟨a, rfl, rfl⟩
  | non => exact .inr ⟨fun a e => (nomatch e), rfl⟩
  | bl b => exact .inr ⟨fun a e => (nomatch e), rfl⟩
  | str x => exact .inr ⟨fun a e => (nomatch e), rfl⟩
  | lst e => exact .inr ⟨fun a e => (nomatch e), rfl⟩
  | tup e => exact .inr ⟨fun a e => (nomatch e), rfl⟩
  | dict e => exact .inr ⟨fun a e => (nomatch e), rfl⟩
theorem Kn.cases_tup {H : Hp} {y : V} {t : String} (k : Kn H y t) : (∃ p xs, y = .ref p ∧ H p = some (.tup xs) ∧ t = "tuple") ∨ (lowV H y = false ∧ isSub t "tuple" = false) := by
  cases k with
  | tup e => exact .inl ⟨_, _, rfl, e, rfl⟩
  | non => exact .inr ⟨rfl, by decide⟩
  | bl b => exact .inr ⟨rfl, by decide⟩
  | str x => exact .inr ⟨rfl, by decide⟩
  | int a => exact .inr ⟨rfl, by decide⟩
  | lst e => exact .inr ⟨by simp only [lowV, e], by decide⟩
  | dict e => exact .inr ⟨by simp only [lowV, e], by decide⟩
theorem lowV_tup {H : Hp} {p : Addr} {xs : List V} (e : H p = some (.tup xs)) : lowV H (.ref p) = lowL xs := by simp only [lowV, e]
theorem lowL_len {xs : List V} (h : xs.length ≠ 2) : lowL xs = false := by
  unfold lowL
  split
  · exact absurd rfl h
  · rfl
theorem lowL_fst {y z : V} (h : ∀ a, y ≠ .int a) : lowL [y, z] = false := by
  unfold lowL
  split
  · rename_i a b e
    cases e
    exact absurd rfl (h a)
  · rfl
theorem lowL_snd {y z : V} (h : ∀ a, z ≠ .int a) : lowL [y, z] = false := by
  unfold lowL
  split
  · rename_i a b e
    cases e
    exact absurd rfl (h b)
  · rfl
theorem sz {n : Nat} (h : n ≤ 1000) : n ≤ sizeLine := Nat.le_of_lt (small1000 h)
/-! ### things -/
theorem atI_mem {α : Type} {xs : List α} {k : Int} (h0 : 0 ≤ k) (h1 : k < (xs.length : Int)) : ∃ v, atI xs k = some v ∧ v ∈ xs := by
  have hk : k.toNat < xs.length := by omega
  have ek : k = ((k.toNat : Nat) : Int) := by omega
  have q := atI_nat (xs := xs) (j := k.toNat) (List.getElem?_eq_getElem hk)
  rw [← ek] at q
  exact ⟨xs[k.toNat], q, List.getElem_mem hk⟩
theorem th_tup {H : Hp} {p : Addr} {xs : List V} (e : H p = some (.tup xs)) (h : ∀ y ∈ xs, ∃ t, Kn H y t) : Thing H (.ref p) := ⟨⟨_, .tup e⟩, fun p' ys e1 e2 => by
  cases e1
  rw [e] at e2
  cases e2
  exact h⟩
theorem lt64 {n : Int} (h0 : 0 ≤ n) (h1 : n < 2147483647) : -(2 ^ 64) < n ∧ n < 2 ^ 64 := by
  have e : (2 : Int) ^ 64 = 18446744073709551616 := by decide
  rw [e]
  omega
/-! ### fractions made -/
theorem gcd_bits2 {a b : Int} {n : Nat} (hb : b ≠ 0) (h : bits b ≤ n) : bits (Int.gcd a b : Int) ≤ n := by
  refine bits_mono ?_ h
  have h1 : (Int.gcd a b) ∣ b.natAbs := Int.gcd_dvd_natAbs_right a b
  have h2 := Nat.le_of_dvd (by omega) h1
  omega
end Sp1
/-! TUPLES OF WHOLE NUMBERS compared -/
namespace L2
open PySem PySem.Spec PyProof.Rows
theorem all_same (ns ms : List Int) : ((List.range (min ns.length ms.length)).all (fun j => decide (ns[j]? = ms[j]?)) && ns.length == ms.length) = decide (ns = ms) := by
  rw [Bool.eq_iff_iff]
  simp only [Bool.and_eq_true, List.all_eq_true, List.mem_range, decide_eq_true_eq, beq_iff_eq]
  constructor
  · rintro ⟨h1, h2⟩
    refine List.ext_getElem? fun j => ?_
    by_cases hj : j < ns.length
    · exact h1 j (by omega)
    · rw [List.getElem?_eq_none (by omega), List.getElem?_eq_none (by omega)]
  · rintro rfl
    exact ⟨fun _ _ => rfl, rfl⟩
theorem val_at {ns : List Int} {us : List Value} {j : Nat} (r : Vals (ns.map V.int) us) (h : j < us.length) : ∃ a, ns[j]? = some a ∧ RelV (.int a) us[j] := by
  have hl := r.length
  rw [List.length_map] at hl
  have hj : j < ns.length := by omega
  obtain ⟨u, e, q⟩ := r.get (i := j) (x := .int ns[j]) (by rw [List.getElem?_map, List.getElem?_eq_getElem hj]; rfl)
  rw [List.getElem?_eq_getElem h] at e
  cases e
  exact ⟨ns[j], List.getElem?_eq_getElem hj, q⟩
section
variable {X : Cx}
def rEqI (K : PySem.W.Frag) (neg : Bool) : R2 := fun x y H Q => ∃ (p q : Addr) (ns ms : List Int), x = .ref p ∧ y = .ref q ∧ SqT K H p (ns.map V.int) ∧ SqT K H q (ms.map V.int) ∧ Q (.bl (if neg then !decide (ns = ms) else decide (ns = ms))) H
theorem items_eq {A : Around} {s : Shared} {ns ms : List Int} {us vs : List Value} (r : Vals (ns.map V.int) us) (r' : Vals (ms.map V.int) vs) (j : Nat) (h1 : j < us.toArray.size) (h2 : j < vs.toArray.size) :
    SeqAt.EqAt A s us.toArray[j] vs.toArray[j] (decide (ns[j]? = ms[j]?)) := by
  rw [List.size_toArray] at h1 h2
  obtain ⟨a, ea, ra⟩ := val_at r h1
  obtain ⟨b, eb, rb⟩ := val_at r' h2
  have q := eqAt_V (A := A) (s := s) ra rb rfl rfl
  have e : eqV (.int a) (.int b) = decide (ns[j]? = ms[j]?) := by
    rw [ea, eb]
    show (a == b) = decide (some a = some b)
    rw [Bool.eq_iff_iff]
    simp
  rw [e] at q
  exact q
theorem op_eqI (hu : X.A.units < cLine) : OpR X (compareOp .Eq) (rEqI X.K false) := by
  intro pins s σ H x y v u Q I rx ry h
  obtain ⟨p, q, ns, ms, rfl, rfl, hp, hq, k⟩ := h
  cases rx
  cases ry
  obtain ⟨its, r, pl, _⟩ := I.tuple hp
  obtain ⟨jts, r', pl', _⟩ := I.tuple hq
  refine SeqAt.eq_tupleAt pl pl' hu (items_eq r r') ⟨.bl _, H, I, rfl, ?_⟩
  have e1 := r.length
  have e2 := r'.length
  rw [List.length_map] at e1 e2
  rw [List.size_toArray, List.size_toArray, ← e1, ← e2, all_same]
  exact k
theorem op_neI (hu : X.A.units < cLine) : OpR X (compareOp .NotEq) (rEqI X.K true) := by
  intro pins s σ H x y v u Q I rx ry h
  obtain ⟨p, q, ns, ms, rfl, rfl, hp, hq, k⟩ := h
  cases rx
  cases ry
  obtain ⟨its, r, pl, _⟩ := I.tuple hp
  obtain ⟨jts, r', pl', _⟩ := I.tuple hq
  refine SeqAt.RcNeAt.tuples pl pl' hu (items_eq r r') _ _ _ _ ⟨.bl _, H, I, rfl, ?_⟩
  have e1 := r.length
  have e2 := r'.length
  rw [List.length_map] at e1 e2
  rw [List.size_toArray, List.size_toArray, ← e1, ← e2, all_same]
  exact k
end
end L2
/-! A LIST unpacked: a, b = f(..) where f tells a list -/
namespace L2
open PySem PySem.Spec PyProof.Rows
section
variable {prog : Program} {w : World} {A : Around} {E : Value → Shared → Prop}
end
end L2
/-! EXCEPTIONS over the hand layer: own classes, raised in a def, passed on, caught by their name. -/
namespace L2
open PySem PySem.Spec PyProof.Rows

theorem ObjOk.has {P : Program} {w : World} {H : Hp} {h : Heap} {a : Addr} {o : HO} (x : ObjOk P w H h a o) : ∃ ob, h.get? a = some ob := by
  cases o with
  | lst xs => obtain ⟨_, _, _, _, e⟩ := x; exact ⟨_, e⟩
  | tup xs => obtain ⟨_, _, _, ob, e, _⟩ := x; exact ⟨_, e⟩
  | dK kvs => obtain ⟨_, _, _, _, ob, _, _, e, _⟩ := x; exact ⟨_, e⟩
  | dT kvs => obtain ⟨_, _, _, _, ob, _, _, e, _⟩ := x; exact ⟨_, e⟩
  | set S n => obtain ⟨ob, _, _, _, e, _⟩ := x; exact ⟨_, e⟩
  | ins C dx fs => obtain ⟨_, _, _, e, _⟩ := x; exact ⟨_, e⟩
  | own y => obtain ⟨ob, e⟩ := x; exact ⟨_, e⟩
  | xd fs => obtain ⟨_, ⟨od, _, _, e, _⟩, _⟩ := x; exact ⟨_, e⟩
  | rng lo hi => obtain ⟨_, _, _, e⟩ := x; exact ⟨_, e⟩
  | frz ob u => obtain ⟨e, _⟩ := x; exact ⟨_, e⟩
  | tbl ps => exact ⟨_, (show h.get? a = some _ from x)⟩
  | met f y => exact ⟨_, (show h.get? a = some _ from x)⟩
  | ext φ => obtain ⟨_, ⟨ob, e⟩, _⟩ := x; exact ⟨_, e⟩

/-- B holds what an exception on its way leaves as it is: what is tracked, and what was there ahead, but the frames -/
structure Big (B : Heap) (fs : List Addr) (H' : Hp) (h : Heap) : Prop where
  tr : ∀ b o, H' b = some o → ∃ ob, B.get? b = some ob
  old : ∀ b o, h.get? b = some o → b ∉ fs → ∃ ob, B.get? b = some ob
section
variable {P : Program} {w : World} {fs fs' : List Addr} {H H1 H' : Hp} {h h1 h2 B : Heap}
theorem Un.fly (un : Un fs [] H H' h h1) (big : Big B fs H' h) (st1 : B.StaysIn h1) (st2 : B.StaysIn h2) (sl : h1.UpToSlots h2)
    (fr : ∀ b ∈ fs, H b = none ∧ ∀ o, h1.get? b = some o → ∀ vs, o.data ≠ .fields vs) : Un fs [] H H' h h2 where
  keep := fun b o e n hb hx => by
    have e1 := un.keep b o e n hb hx
    obtain ⟨ob, eb⟩ := big.old b o e hb
    have e2 := st1 b ob eb
    rw [e1] at e2
    cases e2
    exact st2 b _ eb
  slot := fun b o e n hb hx => by
    obtain ⟨s1, e1⟩ := un.slot b o e n hb hx
    obtain ⟨s2, e2⟩ := sl b _ e1 ((fr b hb).2 _ e1)
    exact ⟨s2, e2⟩
  free := un.free
  there := fun b o e hx => by
    by_cases hb : b ∈ fs
    · obtain ⟨s1, e1⟩ := un.slot b o e (fr b hb).1 hb hx
      obtain ⟨s2, e2⟩ := sl b _ e1 ((fr b hb).2 _ e1)
      exact ⟨_, e2⟩
    · obtain ⟨ob, eb⟩ := big.old b o e hb
      exact ⟨_, st2 b ob eb⟩
  tups := un.tups
  frzs := un.frzs
  tbls := un.tbls
theorem HOk.fly (hok : HOk P w H' h1) (big : Big B fs H' h) (st1 : B.StaysIn h1) (st2 : B.StaysIn h2) : HOk P w H' h2 := fun a o e => by
  refine (hok a o e).stay (fun b u hb q => ?_) (fun _ q => q) fun _ _ q => q
  have hb' : ∃ ob, B.get? b = some ob := by
    rcases hb with z | z
    · rw [z]
      exact big.tr a o e
    · exact big.tr b _ z
  obtain ⟨ob, eb⟩ := hb'
  have e2 := st1 b ob eb
  rw [q] at e2
  cases e2
  exact st2 b _ eb
/-- a def's own frame is left: it was not there ahead -/
theorem Un.shed (a : Un fs [] H H1 h h1) (b : Un fs' [] H1 H' h1 h2) (sub : ∀ x ∈ fs, x ∈ fs') (out : ∀ x o, h.get? x = some o → x ∈ fs' → x ∈ fs) : Un fs [] H H' h h2 where
  keep := fun x o e n hx hn => b.keep x o (a.keep x o e n hx hn) (a.free x o e n hn) (fun z => hx (out x o e z)) hn
  slot := fun x o e n hx hn => by
    obtain ⟨s1, e1⟩ := a.slot x o e n hx hn
    obtain ⟨s2, e2⟩ := b.slot x _ e1 (a.free x o e n hn) (sub x hx) hn
    exact ⟨s2, e2⟩
  free := fun x o e n hn => by
    obtain ⟨o1, e1⟩ := a.there x o e hn
    exact b.free x o1 e1 (a.free x o e n hn) hn
  there := fun x o e hn => by
    obtain ⟨o1, e1⟩ := a.there x o e hn
    exact b.there x o1 e1 hn
  tups := fun x xs e => b.tups x xs (a.tups x xs e)
  frzs := fun x o xs e => b.frzs x o xs (a.frzs x o xs e)
  tbls := fun x ps e => by
    obtain ⟨m1, e1⟩ := a.tbls x ps e
    obtain ⟨m2, e2⟩ := b.tbls x _ e1
    exact ⟨m1 ++ m2, by rw [e2, Array.append_assoc]⟩
end

/-- how an exception lies behind a call -/
def CXE (P : Program) (w : World) : CXT := fun outer H s E e s' => ∃ (ea t : Addr) (cls : Value) (H' : Hp) (B : Heap),
  e = .ref ea ∧ s'.os = s.os ∧ AllBare s'.gens ∧ Un (frs outer) [] H H' s.heap s'.heap ∧ HOk P w H' s'.heap ∧ Heap.FlyingW B outer ea cls (.ref t) s'.heap ∧ Big B (frs outer) H' s.heap ∧ E cls none H'

section
variable {P : Program} {w : World} {K : PySem.W.Frag} {mg : Str → Option Value} {base : Heap} {N : List Str} {qual : Str} {scope : Scope} {f : Addr} {cdv : Value} {A : Around} {outer : List Env} {s₀ : Shared} {H₀ : Hp} {E : XK}
/-- the frames of a def's body -/
theorem frs_cons {env : Env} {L : Addr} (hf : env.frame = some L) (l : List Env) : frs (env :: l) = L :: frs l := by
  unfold frs
  rw [List.filterMap_cons, hf]
/-- an exception that was made just now leaves the def -/
theorem raised {pins : List (Addr × Obj)} {σ : St} {H : Hp} {s : Shared} {h' : Heap} {e : Addr} {cls : Value} {vs : List Value} (I : Inv (cxOf (CXE P w) P w K mg base N qual scope f cdv A outer s₀ H₀ E) pins σ H s)
    (hx : Heap.MadeExcOf s.heap h' e cls vs) (q : E cls none H) : (cxOf (CXE P w) P w K mg base N qual scope f cdv A outer s₀ H₀ E).xe (.ref e) { s with heap := h' } := by
  have hin : ∀ env ∈ (cxOf (CXE P w) P w K mg base N qual scope f cdv A outer s₀ H₀ E).stack, ∀ a, env.frame = some a → a ∈ frs (cxOf (CXE P w) P w K mg base N qual scope f cdv A outer s₀ H₀ E).stack :=
    fun env he a ha => List.mem_filterMap.mpr ⟨env, he, ha⟩
  have neL : ∀ b o, s₀.heap.get? b = some o → b ∉ frs outer → b ∉ frs (cxOf (CXE P w) P w K mg base N qual scope f cdv A outer s₀ H₀ E).stack := fun b o eb hb hm => by
    rcases List.mem_cons.mp (I.stkSub b hm) with z | z
    · exact absurd z (Nat.ne_of_lt (Nat.lt_of_lt_of_le (Heap.lt_size eb) I.ok.above))
    · exact hb z
  refine wpAny_leaves_madeW (base := PySem.W.hideAll s.heap (frs (cxOf (CXE P w) P w K mg base N qual scope f cdv A outer s₀ H₀ E).stack)) (h := s.heap) (L := s₀.heap.objs.size) I.ok.frames rfl (fun b o z => PySem.W.of_hideAll _ z) (PySem.W.funFrames_hide I.stack hin) hx fun h'' t fl _ _ up => ?_
  have big : Big (PySem.W.hideAll s.heap (frs (cxOf (CXE P w) P w K mg base N qual scope f cdv A outer s₀ H₀ E).stack)) (frs outer) H s₀.heap := by
    refine ⟨fun b o eb => ?_, fun b o eb hb => ?_⟩
    · obtain ⟨ob, z⟩ := (I.hok b o eb).has
      refine ⟨ob, PySem.W.hideAll_get _ z fun hm => ?_⟩
      rw [I.stkFree b hm] at eb
      cases eb
    · obtain ⟨ob, z⟩ := I.base.there b o eb (by intro z; cases z)
      exact ⟨ob, PySem.W.hideAll_get _ z (neL b o eb hb)⟩
  have st1 : (PySem.W.hideAll s.heap (frs (cxOf (CXE P w) P w K mg base N qual scope f cdv A outer s₀ H₀ E).stack)).StaysIn s.heap := fun b o z => PySem.W.of_hideAll _ z
  have sl : s.heap.UpToSlots h'' := (Heap.UpToSlots.of_keeps hx.keeps).trans up
  exact ⟨e, t, cls, H, _, rfl, I.os, I.bare, Un.fly I.base big st1 fl.1 sl fun b hb => ⟨I.ok.frf b hb, fun o eo => by
      obtain ⟨_, o', eo', nf⟩ := I.funs.mem hb
      rw [eo] at eo'
      cases eo'
      exact nf⟩, HOk.fly I.hok big st1 fl.1, fl, big, q⟩
/-- an exception of a callee leaves the def, too -/
theorem pass_on {E1 : XK} (hE : ∀ c o H', E1 c o H' → E c o H') : Passes (CXE P w) (cxOf (CXE P w) P w K mg base N qual scope f cdv A outer s₀ H₀ E) E1 := by
  intro pins σ H s e s' I h
  obtain ⟨ea, t, cls, H', B, rfl, os, bare, un, hok, fl, big, q⟩ := h
  refine wpAny_leaves_onW (L := s₀.heap.objs.size) I.ok.frames rfl fl fun h'' fl' up => ?_
  have out : ∀ x o, s₀.heap.get? x = some o → x ∈ frs (cxOf (CXE P w) P w K mg base N qual scope f cdv A outer s₀ H₀ E).stack → x ∈ frs outer := fun x o ex hm => by
    rcases List.mem_cons.mp (I.stkSub x hm) with z | z
    · exact absurd z (Nat.ne_of_lt (Nat.lt_of_lt_of_le (Heap.lt_size ex) I.ok.above))
    · exact z
  have sub : ∀ x ∈ frs outer, x ∈ frs (cxOf (CXE P w) P w K mg base N qual scope f cdv A outer s₀ H₀ E).stack := fun x hx => by
    show x ∈ frs (_ :: outer)
    rw [frs_cons (L := s₀.heap.objs.size) rfl]
    exact List.mem_cons_of_mem _ hx
  have un1 : Un (frs outer) [] H₀ H' s₀.heap s'.heap := Un.shed I.base un sub out
  have big1 : Big B (frs outer) H' s₀.heap := by
    refine ⟨big.tr, fun b o eb hb => ?_⟩
    obtain ⟨ob, z⟩ := I.base.there b o eb (by intro z; cases z)
    exact big.old b ob z fun hm => hb (out b o eb hm)
  refine ⟨ea, t, cls, H', B, rfl, os.trans I.os, bare, Un.fly un1 big1 fl.1 fl'.1 up fun b hb => ⟨I.ok.frf b hb, fun o eo => ?_⟩, HOk.fly hok big1 fl.1 fl'.1, fl', big1, hE _ _ _ q⟩
  obtain ⟨_, o', eo', nf⟩ := fl'.2.2.1.mem hb
  obtain ⟨_, o2, eo2, nf2⟩ := fl.2.2.1.mem (sub b hb)
  rw [eo] at eo2
  cases eo2
  exact nf2
end

/-! ### raise -/
/-- an own class of exceptions, straight or not under ValueError -/
structure ExcC (K : PySem.W.Frag) (mg : Str → Option Value) (x : Str) (C : Addr) : Prop where
  bound : mg x = some (.ref C)
  obj : ∀ h : Heap, K.In h → ∃ bm N nm qn bs hd sn sub ab col dd k0 k1 k2 k3 k5 mN, h.get? C = some (excClassObj nm qn C N bs bm hd sn sub ab col dd k0 k1 k2 k3 k5 "ValueError.__new__") ∧ h.Ns N mN ∧ mN "__init__" = none ∧
    OwnTail h [.type "ValueError", .type "Exception", .type "BaseException", .type "object"] bm
theorem exc_obj {K : PySem.W.Frag} {h : Heap} {C : Addr} {bmB : List Value} {newId : String} (X : K.In h) (q : PySem.W.excIn K C bmB newId = true) :
    ∃ bm N nm qn bs hd sn sub ab col dd k0 k1 k2 k3 k5 mN, h.get? C = some (excClassObj nm qn C N bs bm hd sn sub ab col dd k0 k1 k2 k3 k5 newId) ∧ h.Ns N mN ∧ mN "__init__" = none ∧ OwnTail h bmB bm := by
  unfold PySem.W.excIn at q
  split at q
  next dct cl sls look =>
    split at q
    next C2 bms a0 a1 a2 a3 nid a5 hmro hsls =>
      simp only [Bool.not_eq_true', beq_iff_eq, Bool.and_eq_true] at q
      obtain ⟨⟨⟨⟨⟨q1, q2⟩, q3⟩, q4⟩, q5⟩, q6⟩ := q
      subst q1 q2
      obtain ⟨c1, c2, c3, c4, c5, c6, c7, c8, c9, c10, c11⟩ := cl
      dsimp only at hmro q3 q5 q6
      subst hmro q3
      obtain ⟨lst⟩ := sls
      simp only at hsls
      subst hsls
      exact ⟨bms, c4, c1, c5, c2, c6, c7, c8, c9, c10, dct, a0, a1, a2, a3, a5, _, X _ _ look, .of_isNs (PySem.W.isNs_of_in X q5), PySem.W.nsMap_none_of_in X q5 q6, PySem.W.tail_of_in X q4⟩
    next => cases q
  next => cases q
theorem exc_mk {K : PySem.W.Frag} {mg : Str → Option Value} {h : Heap} {x : Str} {C : Addr} (X : K.In h) (G : h.Ns mainGlobals mg) (a : PySem.W.nsIn K mainGlobals x = some (some (.ref C)))
    (q : PySem.W.excIn K C [.type "ValueError", .type "Exception", .type "BaseException", .type "object"] "ValueError.__new__" = true) : ExcC K mg x C := ⟨PySem.W.mg_of X G a, fun _ Y => exc_obj Y q⟩
section
variable {P : Program} {w : World} {K : PySem.W.Frag} {mg : Str → Option Value} {base : Heap} {N : List Str} {qual : Str} {scope : Scope} {f : Addr} {cdv : Value} {A : Around} {outer : List Env} {s₀ : Shared} {H₀ : Hp} {E : XK}
/-- raise X() -/
theorem ps_raise {x : Str} {C : Addr} {np cpos pos : Pos} (O : ExcC K mg x C) (hg : Gl (cxOf (CXE P w) P w K mg base N qual scope f cdv A outer s₀ H₀ E) x) (hdb : (x == ("__debug__" : Str)) = false := by decide) :
    PS (cxOf (CXE P w) P w K mg base N qual scope f cdv A outer s₀ H₀ E) (.Raise (some (.Call (.Name x np) [] [] cpos)) none pos) (fun _ _ H => E (.ref C) none H) := by
  intro pins s σ H D I h
  obtain ⟨bm, N', nm, qn, bs, hd, sn, sub, ab, col, dd, k0, k1, k2, k3, k5, mN, hC, hN, hni, T⟩ := O.obj s.heap I.kIn
  refine wpAny_Raise_call_subT (C := C) (nm := nm) (q := qn) (N := N') (bs := bs) (bm := bm) (hdct := hd) (sn := sn) (sub := sub) (ab := ab) (col := col) (dd := dd) (k0 := k0) (k1 := k1) (k2 := k2) (k3 := k3) (k5 := k5) PySem.F.excBase_ValueError (mN := mN) (T.hasType (by decide +kernel)) (I.ok.hd rfl) rfl hni (ld_glob I hg O.bound ⟨rfl, ?_⟩ hdb)
  exact evalArgs_empty ⟨rfl, Nat.zero_le _, hC, hN, T, fun h' e hx => raised I hx h⟩
end

/-! ### try: one call, one clause -/
section
variable {X : Cx}
end

/-- a def that may raise, with what it keeps -/
structure Fx (P : Program) (w : World) (K : PySem.W.Frag) (mg : Str → Option Value) (base : Heap) (x : Str) (ps : List Str) (k : Nat) (ds : List V) (sp : Sp) : Prop where
  ex : ∃ (f : Addr) (fd : FuncData) (its : List Value), mg x = some (.ref f) ∧ PySem.W.keepIn K (.ref f) = true ∧ Binds K fd ps [] ∧ Binds K fd ps its ∧ Vals ds its ∧ FnOk P w K mg base (CXE P w) k f fd ps sp
theorem Df.fx {P : Program} {w : World} {K : PySem.W.Frag} {mg : Str → Option Value} {base : Heap} {x : Str} {st : Stmt} {N ps : List Str} {k : Nat} {sp : Sp} (D : Df K mg x st) (S : FnScope N ps (defScope st))
    (hbind : ∀ (kV doc pm : Value) (an : Option Addr) (cdv ct : Value) (us : List Value), us.length = ps.length → bindArgs (PySem.W.fnOf x x (defArgs st) (defBody st) (defScope st) .none kV doc pm an cdv ct) ⟨us, []⟩ = pure (ps.zip us))
    (len : ∀ vs H Q E, sp vs H Q E → vs.length = ps.length)
    (hbody : ∀ (f : Addr) (cdv : Value) (A : Around) (outer : List Env) (s : Shared) (H : Hp) (vs : List V) (Q : VK) (E : XK), Room k (A.deeper (envOfC x (defScope st) s.heap.objs.size f cdv)) → sp vs H Q E →
      ∃ t, PSs (cxOf (CXE P w) P w K mg base N x (defScope st) f cdv A outer s H E) (defBody st) t ∧ t { nx := fun _ H' => Q .non H', rt := Q } (start N vs) H) : Fx P w K mg base x ps (k + 1) [] sp := by
  obtain ⟨f, oc, od, kV, doc, pm, an, cdv, ct, osl, hm, lk, hcd, hk⟩ := D.ex
  have hb : Binds K (PySem.W.fnOf x x (defArgs st) (defBody st) (defScope st) .none kV doc pm an cdv ct) ps [] := .all (hbind kV doc pm an cdv ct)
  exact ⟨⟨f, _, [], hm, hk, hb, hb, .nil, fn_of lk hcd S len fun A outer s H vs Q E hr hsp => hbody f cdv A outer s H vs Q E hr hsp⟩⟩
/-- a def that may raise is called in one that may raise -/
theorem pe_fx {P : Program} {w : World} {K : PySem.W.Frag} {mg : Str → Option Value} {base : Heap} {N : List Str} {qual : Str} {scope : Scope} {f : Addr} {cdv : Value} {A : Around} {outer : List Env} {s₀ : Shared} {H₀ : Hp} {E : XK}
    {x : Str} {ps : List Str} {k : Nat} {ds : List V} {sp : Sp} {p pos : Pos} {e : Expr} {es : List Expr} {t : TA} (F : Fx P w K mg base x ps k ds sp) (hr : Room k (cxOf (CXE P w) P w K mg base N qual scope f cdv A outer s₀ H₀ E).A) (hg : Gl (cxOf (CXE P w) P w K mg base N qual scope f cdv A outer s₀ H₀ E) x)
    (ha : PA (cxOf (CXE P w) P w K mg base N qual scope f cdv A outer s₀ H₀ E) (e :: es) t)
    (hdb : (x == ("__debug__" : Str)) = false := by decide) (he : starEach (e :: es) (cxOf (CXE P w) P w K mg base N qual scope f cdv A outer s₀ H₀ E).env = (false, eval e (cxOf (CXE P w) P w K mg base N qual scope f cdv A outer s₀ H₀ E).env) :: starEach es (cxOf (CXE P w) P w K mg base N qual scope f cdv A outer s₀ H₀ E).env := by rfl)
    (hpl : (backTo pos (starEach es (cxOf (CXE P w) P w K mg base N qual scope f cdv A outer s₀ H₀ E).env)).any (·.1) = false := by rfl) :
    PE (cxOf (CXE P w) P w K mg base N qual scope f cdv A outer s₀ H₀ E) (.Call (.Name x p) (e :: es) [] pos) (tCall sp [] E t) := by
  obtain ⟨g, fd, its, hm, hk, hb, _, _, G⟩ := F.ex
  exact pe_call G hr hg hm hk hb .nil (pass_on fun _ _ _ z => z) ha hdb he hpl
/-- nothing is raised -/
theorem pass_none {P : Program} {w : World} {X : Cx} : Passes (CXE P w) X E0 := fun _ _ _ _ _ _ _ h => by
  obtain ⟨_, _, _, _, _, _, _, _, _, _, _, _, q⟩ := h
  exact q.elim
theorem pe_fx0 {X : Cx} {x : Str} {ps : List Str} {k : Nat} {ds : List V} {sp : Sp} {p pos : Pos} {e : Expr} {es : List Expr} {t : TA} (F : Fx X.prog X.w X.K X.mg X.base x ps k ds sp) (hr : Room k X.A) (hg : Gl X x) (ha : PA X (e :: es) t)
    (hdb : (x == ("__debug__" : Str)) = false := by decide) (he : starEach (e :: es) X.env = (false, eval e X.env) :: starEach es X.env := by rfl) (hpl : (backTo pos (starEach es X.env)).any (·.1) = false := by rfl) :
    PE X (.Call (.Name x p) (e :: es) [] pos) (tCall sp [] E0 t) := by
  obtain ⟨g, fd, its, hm, hk, hb, _, _, G⟩ := F.ex
  exact pe_call G hr hg hm hk hb .nil pass_none ha hdb he hpl
section
variable {X : Cx}
variable {x fn : Str} {i : Nat} {ps : List Str} {k : Nat} {ds : List V} {sp : Sp} {e : Expr} {es : List Expr} {ta : TA} {px pf cpos pos : Pos}
end
end L2
/-! PLACES: what the defs about places keep -/
namespace Sp2
open PySem PySem.Spec L2 Mth Sp1
theorem lowV_inv {H : Hp} {x : V} (h : lowV H x = true) : ∃ p a b, x = .ref p ∧ H p = some (.tup [.int a, .int b]) ∧ Low a b := by
  unfold lowV at h
  split at h
  · split at h
    · rename_i p _ xs e
      unfold lowL at h
      split at h
      · rename_i a b
        unfold lowB at h
        rw [Bool.and_eq_true, decide_eq_true_eq, decide_eq_true_eq] at h
        exact ⟨p, a, b, rfl, e, h.1, h.2⟩
      · cases h
    · cases h
  · cases h
theorem lowV_two {H : Hp} {p : Addr} {a b : Int} (e : H p = some (.tup [.int a, .int b])) : lowV H (.ref p) = lowB a b := by
  simp only [lowV, e, lowL]
theorem low_B {a b : Int} (h : Low a b) : lowB a b = true := by
  unfold lowB
  rw [decide_eq_true h.pos, decide_eq_true h.one]
  rfl
/-! ### small helps -/
theorem lt64s {n : Int} (h0 : -1000 ≤ n) (h1 : n ≤ 1000) : -(2 ^ 64) < n ∧ n < 2 ^ 64 := by
  have e : (2 : Int) ^ 64 = 18446744073709551616 := by decide
  rw [e]
  omega
theorem at_int {ns : List Int} {k : Int} (j : Nat) (e : k = (j : Int)) (h : j < ns.length) : atI (ns.map V.int) k = some (.int ns[j]) := by
  subst e
  exact atI_nat (by rw [List.getElem?_map, List.getElem?_eq_getElem h]; rfl)
theorem cut_from {ns : List Int} (k : Nat) : cutV (ns.map V.int) (some (k : Int)) none = (ns.drop k).map V.int := by
  unfold cutV
  rw [HT.sIx_nat, HT.sIx_none, List.length_map, ← List.map_drop]
  by_cases h : k ≤ ns.length
  · rw [Nat.min_eq_left h, List.take_of_length_le (by rw [List.length_map, List.length_drop]; exact Nat.le_refl _)]
  · rw [Nat.min_eq_right (by omega), List.drop_eq_nil_of_le (Nat.le_refl _), List.drop_eq_nil_of_le (by omega)]
    simp
theorem bits_small {n : Int} (h0 : -1000 ≤ n) (h1 : n ≤ 1000) : bits n ≤ 10 := by
  refine bits_of (n := 10) ?_
  show _ < 1024
  omega
/-! ### the mathematics -/
end Sp2
namespace L2
open PySem PySem.Spec PyProof.Rows
end L2
/-! COMPREHENSIONS of one clause without a test, over the hand layer -/
namespace L2
open PySem PySem.Spec PyProof.Rows
/-- the context of a comprehension's block -/
abbrev Cx.blk (X : Cx) (N' : List Str) (scope : Scope) (cl : List (Str × Addr)) (fp : List Addr) (s₀ : Shared) (H₀ : Hp) : Cx :=
  { X with N := N', s₀ := s₀, H₀ := H₀, env := compEnvC scope cl s₀.heap.objs.size X.env, outer := X.stack, ex := fp, fn := fun _ => false, pn := [], xe := fun _ _ => False }
theorem lookup_mem {α : Type} {y : Str} {c : α} : ∀ {l : List (Str × α)}, l.lookup y = some c → (y, c) ∈ l
  | [], h => by simp at h
  | (n, d) :: r, h => by
    rw [List.lookup_cons] at h
    cases e : y == n with
    | true =>
      rw [e] at h
      cases h
      rw [beq_iff_eq.mp e]
      exact List.mem_cons_self
    | false =>
      rw [e] at h
      exact List.mem_cons_of_mem _ (lookup_mem h)
/-- what is asked of the names: x the clause's own name; fv the free ones with their slots -/
structure CompN (X : Cx) (scope : Scope) (cl : List (Str × Addr)) (x : Str) (fv : List (Str × Nat)) : Prop where
  clos : closureFor scope X.env = pure cl
  kind : scope.kind = .function
  cell : ∀ y ∈ scope.names, y.2 ≠ .cell
  names : ∀ y ∈ scope.names, y.2 = .local → scope.names.lookup y.1 = some .local
  own : scope.names.lookup x = some .local
  cells : ∀ p ∈ cl, X.env.cells.lookup p.1 = some p.2
  has : ((relabel scope X.env).names.all fun q => !(q.2 == .cell || q.2 == .free) || (cl.lookup q.1).isSome) = true
  nd : (x :: fv.map (·.1)).Nodup
  slot : ∀ p ∈ fv, X.N[p.2]? = some p.1 ∧ X.env.kindOf p.1 = some .cell ∧ Vis X.env.scope p.1 ∧ (cl.lookup p.1).isSome = true ∧ ((relabel scope X.env).names.lookup p.1 = some .cell)
  stk : X.stack = X.env :: X.outer ∧ X.env.frame = some X.env.locals
  noex : X.ex = []
def fvs (fv : List (Str × Nat)) (σ : St) : St := fv.map fun p => (σ[p.2]?).join
/-- the reading of a comprehension: W the invariant by the turn, a measure, what the list holds -/
def tComp (wi : TI) (fv : List (Str × Nat)) (te : TE) : TE := fun σ H Q => wi σ H fun J H1 => ∀ p, H1 p = none → ∃ W : Nat → Nat → List V → Hp → Prop, (∃ m, W 0 m [] (upd H1 p (.lst []))) ∧ ∀ i m acc H2, W i m acc H2 →
  H2 p = some (.lst acc) ∧ acc.length < sizeLine ∧ ((J.stop i H2 ∧ Q (.ref p) H2) ∨ (J.go i H2 ∧ ∀ x H3, J.yld i H2 x H3 → te (some x :: fvs fv σ) H3 fun y H4 => H4 p = some (.lst acc) ∧ ∃ m', m' < m ∧ W (i + 1) m' (acc ++ [y]) (upd H4 p (.lst (acc ++ [y])))))
section
variable {X : Cx} {scope : Scope} {cl : List (Str × Addr)} {x : Str} {fv : List (Str × Nat)} {elt iter : Expr} {px pos : Pos} {te : TE}
theorem blk_ok {pins : List (Addr × Obj)} {σ : St} {H : Hp} {s : Shared} {fp : List Addr} (C : CompN X scope cl x fv) (I : Inv X pins σ H s) (hf : ∀ b ∈ fp, FpOk X pins H b) (ho : ∀ b ∈ fp, b < s.heap.objs.size) : (X.blk (x :: fv.map (·.1)) scope cl fp s H).Ok := by
  have hcl : ∀ y c, cl.lookup y = some c → X.env.cells.lookup y = some c := fun y c h => C.cells _ (lookup_mem h)
  have old : ∀ b ∈ fp, X.s₀.heap.objs.size ≤ b := fun b hb => by
    rcases (hf b hb).2.2.2.1 with z | z
    · rw [C.noex] at z
      cases z
    · exact z
  refine ⟨I.ok.mod, by show (relabel scope X.env).kind = _; exact C.kind, I.ok.glob, I.ok.blt, Nat.le_refl _, fun y z c h1 h2 => I.ok.inj y z c (hcl y c h1) (hcl z c h2), fun y hy => ?_, (fun y c h => by cases h), I.ok.hd, I.ok.frames, .inl rfl, fun b hb => ?_, fun b o e => I.bs b o e, Nat.le_trans I.ok.bsz I.sz, fun b o e hb => ?_, fun b hb hm => ?_, I.stack, I.stkFree⟩
  · have q := C.has
    rw [List.all_eq_true] at q
    have hm : ∃ k, (y, k) ∈ (relabel scope X.env).names ∧ (k = .cell ∨ k = .free) := by
      rcases hy with hy | hy
      · exact ⟨_, lookup_mem hy, .inl rfl⟩
      · exact ⟨_, lookup_mem hy, .inr rfl⟩
    obtain ⟨k, hk, hk2⟩ := hm
    have q2 := q _ hk
    have q3 : (cl.lookup y).isSome = true := by
      rcases hk2 with rfl | rfl
      · simpa using q2
      · simpa using q2
    exact Option.isSome_iff_exists.mp q3
  · obtain ⟨f0, f1, f2, f3, f4, f5⟩ := hf b hb
    refine ⟨?_, fun y c h => f4 y c (hcl y c h)⟩
    exact Nat.ne_of_lt (ho b hb)
  · have z := Heap.lt_size e
    have z2 := old b hb
    exact absurd (Nat.lt_of_lt_of_le z (Nat.le_trans I.ok.bsz z2)) (Nat.lt_irrefl _)
  · obtain ⟨f0, f1, f2, f3, f4, f5⟩ := hf b hb
    rcases List.mem_cons.mp (I.stkSub b hm) with z | z
    · exact f1 z
    · exact f2 z
/-- the block begins -/
theorem blk_inv {pins : List (Addr × Obj)} {σ : St} {H : Hp} {s s4 : Shared} {fp : List Addr} (C : CompN X scope cl x fv) (I : Inv X pins σ H s) (hf : ∀ b ∈ fp, FpOk X pins H b) (ho : ∀ b ∈ fp, b < s.heap.objs.size)
    (hs : s4.os = s.os ∧ s4.gens = s.gens) (ns : s4.heap.Ns s.heap.objs.size fun _ => none) (kp : ∀ b o, s.heap.get? b = some o → s4.heap.get? b = some o) :
    Inv (X.blk (x :: fv.map (·.1)) scope cl fp s H) [] (none :: fvs fv σ) H s4 := by
  have hcl : ∀ y c, cl.lookup y = some c → X.env.cells.lookup y = some c := fun y c h => C.cells _ (lookup_mem h)
  refine ⟨blk_ok C I hf ho, hs.1, by rw [hs.2]; exact I.bare, Un.kept kp, ⟨_, ns, fun i y v e1 e2 e3 => ?_⟩, fun y c h => ?_, I.hok.fresh (Nat.le_refl _), fun y c h => I.freeC y c (hcl y c h), fun p hp => by simp at hp, I.hok.kept kp, by simp [fvs]⟩
  · cases i with
    | zero => simp at e2
    | succ j =>
      have e1' : (fv.map (·.1))[j]? = some y := by simpa using e1
      have e2' : (fvs fv σ)[j]? = some (some v) := by simpa using e2
      rw [List.getElem?_map] at e1'
      unfold fvs at e2'
      rw [List.getElem?_map] at e2'
      cases hq : fv[j]? with
      | none =>
        rw [hq] at e1'
        cases e1'
      | some q =>
        rw [hq] at e1' e2'
        have ey : q.1 = y := Option.some.inj e1'
        have ev : (σ[q.2]?).join = some v := Option.some.inj e2'
        have hm : q ∈ fv := List.mem_of_getElem? hq
        obtain ⟨s1, s2, s3, s4', s5⟩ := C.slot q hm
        have ev2 : σ[q.2]? = some (some v) := by
          cases hz : σ[q.2]? with
          | none =>
            rw [hz] at ev
            cases ev
          | some z =>
            rw [hz] at ev
            have ev' : z = some v := ev
            rw [ev']
        obtain ⟨m, hn, hl⟩ := I.loc
        obtain ⟨u, r, lk⟩ := hl q.2 q.1 v s1 ev2 s3
        obtain ⟨c, hc⟩ := Option.isSome_iff_exists.mp s4'
        refine ⟨u, r, .inr ⟨.inl (by rw [← ey]; exact s5), c, by rw [← ey]; exact hc, ?_⟩⟩
        rcases lk with ⟨k, _⟩ | ⟨_, c', hc', z⟩
        · rw [s2] at k
          cases k
        · rw [hcl _ _ hc] at hc'
          cases hc'
          obtain ⟨o, ho', hd⟩ := z
          exact ⟨o, kp _ _ ho', hd⟩
  · obtain ⟨v, o, ho', hd⟩ := I.cell y c (hcl y c h)
    exact ⟨v, o, kp _ _ ho', hd⟩
/-- the block, to its end -/
theorem blk_run {pins : List (Addr × Obj)} {σ : St} {H2 : Hp} {s2 : Shared} {it : Addr} {fp : List Addr} {tn : Nat → Heap → Prop} {J : It} {RR : Value → Addr → Result → Shared → Prop} {E : Value → Shared → Prop} {Qf : V → Hp → Prop}
    (hcalm : X.calm = true) (C : CompN X scope cl x fv) (I2 : Inv X pins σ H2 s2) (T : Turn X.prog X.w X.K (.Name x px) J fp it tn) (st : tn 0 s2.heap) (f2 : ∀ b ∈ fp, FpOk X pins H2 b)
    (rd : ∀ p, H2 p = none → ∃ W : Nat → Nat → List V → Hp → Prop, (∃ m, W 0 m [] (upd H2 p (.lst []))) ∧ ∀ i m acc H2, W i m acc H2 →
      H2 p = some (.lst acc) ∧ acc.length < sizeLine ∧ ((J.stop i H2 ∧ Qf (.ref p) H2) ∨ (J.go i H2 ∧ ∀ x H3, J.yld i H2 x H3 → te (some x :: fvs fv σ) H3 fun y H4 => H4 p = some (.lst acc) ∧ ∃ m', m' < m ∧ W (i + 1) m' (acc ++ [y]) (upd H4 p (.lst (acc ++ [y]))))))
    (he : ∀ (s₀ : Shared) (H₀ : Hp), PE (X.blk (x :: fv.map (·.1)) scope cl fp s₀ H₀) elt te)
    (hRR : ∀ (p C : Addr) (H' : Hp) (s' : Shared), (∃ m, s'.heap.Ns C m) → C ≠ X.env.locals → H' C = none → X.s₀.heap.objs.size ≤ C → (∀ y c, X.env.cells.lookup y = some c → c ≠ C) → (∀ q ∈ X.pn ++ pins, q.1 ≠ C) → Inv X pins σ H' s' → Qf (.ref p) H' → RR (.ref p) C (.ok .next) s') :
    wpAny (model X.prog X.w) X.A (newList []) (fun acc s₃ => wpAny (model X.prog X.w) X.A (newFunctionEnv scope X.env.globals cl [] X.env.qual none .none (some X.env)) (fun cenv s₄ =>
      codeAny (model X.prog X.w) X.A (.compStart (.ListComp elt [⟨.Name x px, iter, [], 0⟩] scope pos) 0 (.ref it) acc { cenv with scope := relabel scope X.env }) (RR acc cenv.locals) s₄) E s₃) E s2 := by
  refine wpAny_newObj_type ?_
  -- the new list
  have hfresh := I2.fresh
  have I3 : Inv X pins σ (upd H2 s2.heap.objs.size (.lst [])) { s2 with heap := s2.heap.push { cls := .type "list", data := .seq ([] : List Value).toArray } } :=
    I2.laid (t' := s2.toks) (fun b u q => Heap.get?_push_of_some _ q) (Nat.le_refl _) ⟨Nat.zero_le _, [], 0, .nil, Heap.get?_push_size _ rfl⟩
  generalize hs3 : ({ s2 with heap := s2.heap.push { cls := .type "list", data := .seq ([] : List Value).toArray } } : Shared) = s3 at I3 ⊢
  have hp3 : s2.heap.objs.size < s3.heap.objs.size := by rw [← hs3]; exact Nat.lt_of_lt_of_le (Nat.lt_succ_self _) (Nat.le_of_eq (Heap.size_push _ _).symm)
  have k23 : ∀ b o, s2.heap.get? b = some o → s3.heap.get? b = some o := fun b o e => by rw [← hs3]; exact Heap.get?_push_of_some _ e
  have fpo : ∀ b ∈ fp, b < s2.heap.objs.size := fun b hb => by
    obtain ⟨o, e, _⟩ := T.obj 0 _ st b hb
    exact Heap.lt_size e
  have f3 : ∀ b ∈ fp, FpOk X pins (upd H2 s2.heap.objs.size (.lst [])) b := fun b hb => ⟨by rw [upd_ne (Nat.ne_of_lt (fpo b hb))]; exact (f2 b hb).1, (f2 b hb).2⟩
  refine wpAny_newFunctionEnv C.cell (by intro y hy; simp at hy) (fun h1 hns1 hsb1 => ?_) C.kind
  have kp : ∀ b o, s3.heap.get? b = some o → h1.get? b = some o := fun b o e => (hsb1.2 b (Nat.ne_of_lt (Heap.lt_size e))).trans (Heap.get?_push_of_some _ e)
  have I4 := blk_inv (s4 := { s3 with heap := h1, toks := s3.toks + ([] : List (Str × Value)).length }) C I3 f3 (fun b hb => Nat.lt_trans (fpo b hb) hp3) ⟨rfl, rfl⟩ hns1 kp
  have st4 : tn 0 h1 := T.keep 0 _ _ st fun b _ o e => kp b o (k23 b o e)
  obtain ⟨W, ⟨m0, w0⟩, step⟩ := rd _ hfresh
  have loop : codeAny (model X.prog X.w) X.A (.compLoop (.ListComp elt [⟨.Name x px, iter, [], 0⟩] scope pos) 0 (.ref it) (.ref s2.heap.objs.size) (compEnvC scope cl s3.heap.objs.size X.env)) (RR (.ref s2.heap.objs.size) s3.heap.objs.size)
      { s3 with heap := h1, toks := s3.toks + ([] : List (Str × Value)).length } := by
    refine codeAny_compLoop_list (fun n s => ∃ i acc σv H', Inv (X.blk (x :: fv.map (·.1)) scope cl fp s3 (upd H2 s2.heap.objs.size (.lst []))) [] (σv :: fvs fv σ) H' s ∧ tn i s.heap ∧ (∀ b ∈ fp, H' b = none) ∧ W i n acc H') ?_ m0 ⟨0, [], none, _, I4, st4, fun b hb => (f3 b hb).1, w0⟩
    rintro n s ⟨i, acc, σv, H', I', st', fr', w'⟩
    obtain ⟨hp, hlen, alt⟩ := step i n acc H' w'
    have fpk : ∀ {H5 : Hp}, (∀ b ∈ fp, H5 b = none) → ∀ b ∈ fp, FpOk (X.blk (x :: fv.map (·.1)) scope cl fp s3 (upd H2 s2.heap.objs.size (.lst []))) [] H5 b := fun h5 b hb =>
      ⟨h5 b hb, (I'.ok.exf b hb).1, I'.ok.exfs b hb, .inl hb, fun y c e => (I'.ok.exf b hb).2 y c e, fun q hq => by simp at hq⟩
    rcases alt with ⟨stop, qf⟩ | ⟨go, turn⟩
    · refine wpAny_mono (T.done (X.blk (x :: fv.map (·.1)) scope cl fp s3 (upd H2 s2.heap.objs.size (.lst []))) rfl rfl rfl hcalm i [] s _ H' (fun _ _ => False) I' (fpk fr') st' stop) (fun r s5 ⟨hr, I5⟩ => ?_) fun _ _ z => False.elim z
      subst hr
      refine hRR _ _ H' s5 (let ⟨m, hn, _⟩ := I5.loc; ⟨m, hn⟩) (Nat.ne_of_gt I3.lt) I5.free I3.sz (fun y c e => ?_) (fun q hq => ?_) ?_ qf
      · obtain ⟨v, z⟩ := I3.cell y c e
        exact Nat.ne_of_lt z.lt
      · exact Nat.ne_of_lt (Heap.lt_size (I3.pin q hq).1)
      · exact I3.call' (s' := s5) (ch := fp) I5.os I5.base I5.hok I5.bare fun b hb => ⟨(f2 b hb).2.2.2.1, (f2 b hb).2.1, (f2 b hb).2.2.2.2.1, (f2 b hb).2.2.2.2.2⟩
    · refine wpAny_mono (T.item (X.blk (x :: fv.map (·.1)) scope cl fp s3 (upd H2 s2.heap.objs.size (.lst []))) rfl rfl rfl hcalm i [] s _ H' (fun _ _ => False) I' (fpk fr') st' go) (fun r s5 ⟨u, hr, h5⟩ => ?_) fun _ _ z => False.elim z
      subst hr
      have e5 : assign (.Name x px) (compEnvC scope cl s3.heap.objs.size X.env) u = (letOwnedTupleGo (.Name x px) (.ref it) u >>= fun _ => assign (.Name x px) (compEnvC scope cl s3.heap.objs.size X.env) u) := by
        rw [show letOwnedTupleGo (.Name x px) (.ref it) u = pure () from rfl]
        rfl
      show wpAny _ _ (assign (.Name x px) (compEnvC scope cl s3.heap.objs.size X.env) u) _ _ _
      rw [e5]
      refine wpAny_bind (wpAny_mono h5 (fun _ s6 ⟨y, H6, I6, r6, y6, st6, fr6⟩ => ?_) fun _ _ z => False.elim z)
      have I6' := I6.pinned (fpk fr6) (T.obj _ _ st6)
      have lx : (relabel scope X.env).names.lookup x = some .local := lookup_relabel_local C.own
      refine wpAny_mono (pg_name (X := X.blk (x :: fv.map (·.1)) scope cl fp s3 (upd H2 s2.heap.objs.size (.lst []))) (i := 0) C.nd rfl (.inl lx) (.inr lx) _ s6 _ H6 y u (fun σ7 H7 => σ7 = some y :: fvs fv σ ∧ H7 = H6) I6' r6 ⟨rfl, rfl⟩) (fun _ s7 ⟨σ7, H7, I7, e7, e7'⟩ => ?_) fun _ _ z => False.elim z
      subst e7 e7'
      refine wpAny_mono (he s3 _ _ s7 _ _ _ I7 (turn y _ y6)) (fun v8 s8 ⟨y8, H8, I8, r8, q8, m', hm', w8⟩ => ?_) fun _ _ z => False.elim z
      refine wpAny_mono (mt_append (X := X.blk (x :: fv.map (·.1)) scope cl fp s3 (upd H2 s2.heap.objs.size (.lst []))) _ s8 _ H8 (.ref s2.heap.objs.size) [y8] (.ref s2.heap.objs.size) [v8] (fun _ H9 => H9 = upd H8 s2.heap.objs.size (.lst (acc ++ [y8]))) I8 rfl (.cons r8 .nil) ⟨_, acc, y8, rfl, rfl, q8, hlen, rfl⟩) (fun _ s9 ⟨_, H9, I9, _, e9⟩ => ?_) fun _ _ z => False.elim z
      subst e9
      refine ⟨m', hm', i + 1, acc ++ [y8], some y, _, I9.unpinned, T.keep _ _ _ st6 fun b hb o e => (I9.pin (b, o) (List.mem_append_right _ (List.mem_append_right _ (mem_pinsAt hb e)))).1, fun b hb => ?_, w8⟩
      obtain ⟨o, e, d⟩ := T.obj _ _ st6 b hb
      exact (I9.pin (b, o) (List.mem_append_right _ (List.mem_append_right _ (mem_pinsAt hb e)))).2.1
  exact codeAny_compStart_list loop (T.self _ 0 _ _ _ st4 loop)
/-- [elt for x in iter] -/
theorem pe_comp {wi : TI} (hcalm : X.calm = true) (C : CompN X scope cl x fv) (hi : PI X (.Name x px) iter wi) (he : ∀ (fp : List Addr) (s₀ : Shared) (H₀ : Hp), PE (X.blk (x :: fv.map (·.1)) scope cl fp s₀ H₀) elt te)
    (hs : ∀ v, foldedSetIterable iter X.env v = pure v := by intro _; rfl) : PE X (.ListComp elt [⟨.Name x px, iter, [], 0⟩] scope pos) (tComp wi fv te) := by
  intro pins s σ H Q I h
  rw [eval_ListComp]
  refine wpAny_comprehension_free (use := none) rfl hs C.clos C.kind C.names (wpAny_mono (hi pins s σ H _ I h) (fun v s1 h1 => wpAny_mono h1 (fun itv s2 h2 => ?_) fun _ _ z => z) fun _ _ z => z)
  obtain ⟨it, fp, tn, J, H2, rfl, I2, T, st2, f2, rd⟩ := h2
  refine blk_run (Qf := Q) hcalm C I2 T st2 f2 rd (he fp) fun p D H' s' ns nL nH n0 nC nP I8 q => ?_
  obtain ⟨m, hn⟩ := ns
  exact ⟨m, hn, fun h'' sb => ⟨.ref p, H', I8.turned (t' := s'.toks) (fun b o hb e => (sb.2 b hb).trans e) nH nL (.inr n0) nC nP, rfl, q⟩⟩
/-- y = [elt for x in iter] -/
theorem ps_setComp {wi : TI} {y : Str} {j : Nat} {py spos : Pos} (hcalm : X.calm = true) (C : CompN X scope cl x fv) (hN : X.N.Nodup) (hj : X.N[j]? = some y) (hy : X.env.scope.names.lookup y = some .local) (hi : PI X (.Name x px) iter wi) (he : ∀ (fp : List Addr) (s₀ : Shared) (H₀ : Hp), PE (X.blk (x :: fv.map (·.1)) scope cl fp s₀ H₀) elt te)
    (hsw : swapsWith (.ListComp elt [⟨.Name x px, iter, [], 0⟩] scope pos) (some (.Name y py)) spos.line X.env = pure true := by rfl)
    (hs : ∀ v, foldedSetIterable iter X.env v = pure v := by intro _; rfl) : PS X (.Assign [.Name y py] (.ListComp elt [⟨.Name x px, iter, [], 0⟩] scope pos) spos) (tAsg (tComp wi fv te) (gName j)) := by
  intro pins s σ H D I h
  rw [exec_Assign_Name_used _ _ _ _ hsw]
  refine wpAny_bind (wpAny_standAt (wpAny_bind ?_))
  show wpAny _ _ (do let _ ← comprehension (.ListComp elt [⟨.Name x px, iter, [], 0⟩] scope pos) scope X.env _ (newList []) false (eval iter X.env) (some (assign (.Name y py) X.env))) _ _ s
  refine wpAny_bind (wpAny_mono (wpAny_comprehension_free (use := some (assign (.Name y py) X.env)) (Q := fun _ s' => SP X pins D .next s') rfl hs C.clos C.kind C.names
    (wpAny_mono (hi pins s σ H _ I h) (fun v s1 h1 => wpAny_mono h1 (fun itv s2 h2 => ?_) fun _ _ z => z) fun _ _ z => z)) (fun _ s' hq => wpAny_pure (wpAny_pure hq)) fun _ _ z => z)
  obtain ⟨it, fp, tn, J, H2, rfl, I2, T, st2, f2, rd⟩ := h2
  refine blk_run (Qf := fun v H' => gName j v σ H' D.nx) hcalm C I2 T st2 f2 rd (he fp) fun p D' H' s' ns nL nH n0 nC nP I8 q => ?_
  obtain ⟨m, hn⟩ := ns
  show wpAny _ _ (assign (.Name y py) X.env (.ref p)) _ _ _
  refine wpAny_assign_Name (store_ok2 I8 hN hj (.inl hy) (v := .ref p) rfl (fun s9 I9 ⟨a, sb, ha⟩ => ?_) (.inr hy))
  have aD : D' ≠ a := by
    rintro rfl
    rcases ha with z | z
    · exact nL z
    · exact nC y _ z rfl
  exact ⟨m, hn.sameBut sb aD, fun h'' sb2 => ⟨_, H', I9.turned (t' := s9.toks) (fun b o hb e => (sb2.2 b hb).trans e) nH nL (.inr n0) nC nP, q⟩⟩
end
end L2
namespace L2
open PySem PySem.Spec PyProof.Rows
theorem comp_range {n : Nat} {lo : Int} {fv : List (Str × Nat)} {te : TE} {σ : St} {H1 : Hp} {Qp : Hp → Prop} {l : Addr} (Pv : Nat → List V → Hp → Prop) (h0 : Pv 0 [] (upd H1 l (.lst []))) (hp : ∀ i acc H2, i ≤ n → Pv i acc H2 → H2 l = some (.lst acc) ∧ acc.length < sizeLine)
    (hs : ∀ i acc H2 (K : VK), i < n → Pv i acc H2 → (∀ y H4, H4 l = some (.lst acc) → Pv (i + 1) (acc ++ [y]) (upd H4 l (.lst (acc ++ [y]))) → K y H4) → te (some (.int (lo + i)) :: fvs fv σ) H2 K) (hd : ∀ acc H2, Pv n acc H2 → Qp H2) :
    ∃ W : Nat → Nat → List V → Hp → Prop, (∃ m, W 0 m [] (upd H1 l (.lst []))) ∧ ∀ i m acc H2, W i m acc H2 →
      H2 l = some (.lst acc) ∧ acc.length < sizeLine ∧ (((Itr lo n).stop i H2 ∧ Qp H2) ∨ ((Itr lo n).go i H2 ∧ ∀ x H3, (Itr lo n).yld i H2 x H3 → te (some x :: fvs fv σ) H3 fun y H4 => H4 l = some (.lst acc) ∧ ∃ m', m' < m ∧ W (i + 1) m' (acc ++ [y]) (upd H4 l (.lst (acc ++ [y]))))) := by
  refine ⟨fun i m acc H2 => m = n - i ∧ i ≤ n ∧ Pv i acc H2, ⟨n, by simp, Nat.zero_le _, h0⟩, ?_⟩
  rintro i m acc H2 ⟨rfl, hi, p⟩
  refine ⟨(hp i acc H2 hi p).1, (hp i acc H2 hi p).2, ?_⟩
  by_cases hlt : i < n
  · refine .inr ⟨hlt, fun x H3 y => ?_⟩
    obtain ⟨e1, e2⟩ := y
    subst e1 e2
    exact hs i acc _ _ hlt p fun y H4 z1 z2 => ⟨z1, n - (i + 1), by omega, rfl, hlt, z2⟩
  · have e : i = n := by omega
    subst e
    exact .inl ⟨Nat.le_refl _, hd acc H2 p⟩
/-- the scope of a comprehension that is assigned -/
def setScope (s : Stmt) : Scope := match s with
  | .Assign _ (.ListComp _ _ sc _) _ => sc
  | _ => { kind := .function, names := [], isGenerator := false, isCoroutine := false }
end L2
namespace L2
open PySem PySem.Spec PyProof.Rows
theorem ix_listK {X : Cx} {K : PySem.W.Frag} (h : X.K = K) : IxR X (rIxL K) := h ▸ ix_list
end L2
namespace L2
open PySem PySem.Spec PyProof.Rows
theorem comp_list {K : PySem.W.Frag} {a : Addr} {xs : List V} {fv : List (Str × Nat)} {te : TE} {σ : St} {H1 : Hp} {Qp : Hp → Prop} {l : Addr} (Pv : Nat → List V → Hp → Prop) (h0 : Pv 0 [] (upd H1 l (.lst []))) (hp : ∀ i acc H2, i ≤ xs.length → Pv i acc H2 → SqL K H2 a xs ∧ H2 l = some (.lst acc) ∧ acc.length < sizeLine)
    (hs : ∀ i x acc H2 (Kc : VK), xs[i]? = some x → Pv i acc H2 → (∀ y H4, H4 l = some (.lst acc) → Pv (i + 1) (acc ++ [y]) (upd H4 l (.lst (acc ++ [y]))) → Kc y H4) → te (some x :: fvs fv σ) H2 Kc) (hd : ∀ acc H2, Pv xs.length acc H2 → Qp H2) :
    ∃ W : Nat → Nat → List V → Hp → Prop, (∃ m, W 0 m [] (upd H1 l (.lst []))) ∧ ∀ i m acc H2, W i m acc H2 →
      H2 l = some (.lst acc) ∧ acc.length < sizeLine ∧ (((Itl K a).stop i H2 ∧ Qp H2) ∨ ((Itl K a).go i H2 ∧ ∀ x H3, (Itl K a).yld i H2 x H3 → te (some x :: fvs fv σ) H3 fun y H4 => H4 l = some (.lst acc) ∧ ∃ m', m' < m ∧ W (i + 1) m' (acc ++ [y]) (upd H4 l (.lst (acc ++ [y]))))) := by
  refine ⟨fun i m acc H2 => m = xs.length - i ∧ i ≤ xs.length ∧ Pv i acc H2, ⟨xs.length, by simp, Nat.zero_le _, h0⟩, ?_⟩
  rintro i m acc H2 ⟨rfl, hi, p⟩
  obtain ⟨q1, q2, q3⟩ := hp i acc H2 hi p
  refine ⟨q2, q3, ?_⟩
  by_cases hlt : i < xs.length
  · refine .inr ⟨⟨xs, xs[i], q1, List.getElem?_eq_getElem hlt⟩, fun x H3 y => ?_⟩
    obtain ⟨e1, e2⟩ := y
    subst e1
    exact hs i x acc _ _ (e2 xs q1) p fun y H4 z1 z2 => ⟨z1, xs.length - (i + 1), by omega, rfl, hlt, z2⟩
  · have e : i = xs.length := by omega
    subst e
    exact .inl ⟨⟨xs, q1, Nat.le_refl _⟩, hd acc H2 p⟩
end L2
/-! == and != of tuples and lists at any depth -/
namespace L2
open PySem PySem.Spec PyProof.Rows
section
variable {X : Cx} {pins : List (Addr × Obj)} {σ : St} {H : Hp} {s : Shared}
end
end L2
namespace L2
open PySem
end L2
/-! POINTS: what the defs about points and squares keep -/
namespace L2
open PySem PySem.Spec PyProof.Rows
def CPX (i j : Int) : Prop := 0 ≤ j ∧ (Builtin.Int.intBits i : Int) * j ≤ 2 ^ 27
theorem op_powX {X : Cx} : OpR X (binaryOp .Pow) (rI CPX fun i j => .int (i ^ j.toNat)) := opI fun _ _ _ _ _ _ _ hc q => pow_int hc.1 hc.2 q
theorem cpx2 {i : Int} {n : Nat} (h : bits i ≤ n) (hn : n ≤ 100000) : CPX i 2 := ⟨by decide, by
  have e : (2 : Int) ^ 27 = 134217728 := by decide
  have h' : Builtin.Int.intBits i ≤ n := h
  rw [e]
  omega⟩
end L2
namespace Sp3
open PySem PySem.Spec L2 Mth Sp1 Sp2
end Sp3
namespace Sp3
open PySem PySem.Spec L2 Mth Sp1 Sp2
/-! sizes and equal points -/
end Sp3
/-! EXCEPTIONS KEPT: the class of an exception object, isinstance of it, except .. as e -/
namespace PySem
open Sem (wp)
section
variable {prog : Program} {w : World} {A : Around} {E : Value → Shared → Prop} {h : Heap} {g : Array GenState} {d : Drawn} {t : Nat} {os : OsState} {a : Addr} {o : Obj}
  {nm q : Str} {C N : Addr} {bs bm : List Value} {hdct : Bool} {sn : List Str} {sub : List Value} {ab : Bool} {col : Option Bool} {dd : Option Addr} {k0 k1 k2 k3 k5 : Option Value} {newId : String}
end
end PySem

namespace L2
open PySem PySem.Spec PyProof.Rows
section
variable {X : Cx}
end
section
variable {X : Cx} {pins : List (Addr × Obj)} {σ : St} {H : Hp} {s : Shared}
end
section
variable {X : Cx}
end
end L2
/-! k08: places and points -/
namespace Sp8
open PySem PySem.Spec L2 Mth Sp1 Sp2 Sp3
end Sp8
/-! try: an if ahead of the calls -/
namespace L2
open PySem PySem.Spec PyProof.Rows
/-- a tuple of whole numbers that the module holds -/
theorem SqT.mod {K : PySem.W.Frag} {H : Hp} {a : Addr} {oc : Value} {od : Option Addr} {its : Array Value} {n : Nat} {sl : Array (Option Value)} {xs : List V} (hk : K.lookup a = some ⟨oc, od, .seq its n, sl⟩) (hc : oc = .type "tuple") (hz : its.size ≤ 100) (r : Vals xs its.toList) : SqT K H a xs :=
  .inr ⟨_, its, n, hk, hc, rfl, Nat.le_of_lt (small1000 (by omega)), r⟩
end L2
/-! k24: gates -/
namespace Sp24
open PySem PySem.Spec L2 Mth Sp1 Sp2 Sp3 Sp8
def sg (n : Int) : Int := if n > 0 then 1 else if n < 0 then -1 else 0
def ssq (n : Int) : Int := n * (if n < 0 then -n else n)
def swr (w p u : Int) : Int := sg (ssq w + ssq p * u)
def swrs (w p u s b : Int) : Int := if sg w * sg (ssq p * u + ssq s * b) ≥ 0 then sg (sg w + sg (ssq p * u + ssq s * b)) else sg w * swr (w * w - p * p * u - s * s * b) (-2 * p * s) (u * b)
def ro (a0 a1 a2 a3 b0 b1 b2 b3 : Int) : Int := swrs (a0 * b3 - b0 * a3) (a1 * b3) a2 (-b1 * a3) b2
theorem sg_small (n : Int) : -1 ≤ sg n ∧ sg n ≤ 1 := by
  unfold sg
  split
  · omega
  · split <;> omega
theorem sg_bits (n : Int) : bits (sg n) ≤ 10 := bits_small (by have := sg_small n; omega) (by have := sg_small n; omega)
theorem ssq_bits {n : Int} {k : Nat} (h : bits n ≤ k) : bits (ssq n) ≤ k + k := bits_mul h (bits_abs h)
def spSign : Sp := fun vs H Q _ => ∃ n : Int, vs = [.int n] ∧ Q (.int (sg n)) H
def spSsq : Sp := fun vs H Q _ => ∃ n : Int, vs = [.int n] ∧ bits n ≤ 20000 ∧ Q (.int (ssq n)) H
def spSwr : Sp := fun vs H Q _ => ∃ w p u : Int, vs = [.int w, .int p, .int u] ∧ (bits w ≤ 8000 ∧ bits p ≤ 8000 ∧ bits u ≤ 8000) ∧ Q (.int (swr w p u)) H
def spSwrs : Sp := fun vs H Q _ => ∃ w p u s b : Int, vs = [.int w, .int p, .int u, .int s, .int b] ∧ (bits w ≤ 1000 ∧ bits p ≤ 1000 ∧ bits u ≤ 1000 ∧ bits s ≤ 1000 ∧ bits b ≤ 1000) ∧ Q (.int (swrs w p u s b)) H
structure Rt (K : PySem.W.Frag) (H : Hp) (p : Addr) (a0 a1 a2 a3 : Int) : Prop where
  at_ : SqT K H p [.int a0, .int a1, .int a2, .int a3]
  b0 : bits a0 ≤ 450
  b1 : bits a1 ≤ 450
  b2 : bits a2 ≤ 1000
  b3 : bits a3 ≤ 450
def spRo (K : PySem.W.Frag) : Sp := fun vs H Q _ => ∃ (p q : Addr) (a0 a1 a2 a3 b0 b1 b2 b3 : Int), vs = [.ref p, .ref q] ∧ Rt K H p a0 a1 a2 a3 ∧ Rt K H q b0 b1 b2 b3 ∧ Q (.int (ro a0 a1 a2 a3 b0 b1 b2 b3)) H
/-- a corner -/
structure Cn (H : Hp) (p : Addr) (x y : Int) : Prop where
  at_ : H p = some (.tup [.int x, .int y])
  bx : bits x ≤ 50
  by_ : bits y ≤ 50
theorem Cn.mono {H H' : Hp} {p : Addr} {x y : Int} (c : Cn H p x y) (s : Same H H') : Cn H' p x y := ⟨s _ _ c.at_, c.bx, c.by_⟩
/-- a square: not large -/
structure Sq (H : Hp) (p : Addr) (a b : Int) : Prop where
  at_ : H p = some (.tup [.int a, .int b])
  ba : bits a ≤ 230
  bb : bits b ≤ 130
theorem Sq.mono {H H' : Hp} {p : Addr} {x y : Int} (c : Sq H p x y) (s : Same H H') : Sq H' p x y := ⟨s _ _ c.at_, c.ba, c.bb⟩
def lo (x y x' y' a b : Int) : Int := sg (a - ((x' - x) * (x' - x) + (y' - y) * (y' - y)) * b)
def spLo : Sp := fun vs H Q _ => ∃ (p q r : Addr) (x y x' y' a b : Int), vs = [.ref p, .ref q, .ref r] ∧ Cn H p x y ∧ Cn H q x' y' ∧ Sq H r a b ∧ Q (.int (lo x y x' y' a b)) H
def rLen (bx by_ ex ey : Int) : Int := (ex - bx) * (ex - bx) + (ey - by_) * (ey - by_)
def rAl (cx cy bx by_ ex ey : Int) : Int := (cx - bx) * (ex - bx) + (cy - by_) * (ey - by_)
def rBe (cx cy bx by_ ex ey : Int) : Int := (cx - bx) * (ey - by_) - (cy - by_) * (ex - bx)
def rUn (cx cy bx by_ ex ey a b : Int) : Int := b * (a * rLen bx by_ ex ey - b * rBe cx cy bx by_ ex ey * rBe cx cy bx by_ ex ey)
def spReach : Sp := fun vs H Q _ => ∃ (pc pb pe ps : Addr) (cx cy bx by_ ex ey a b : Int), vs = [.ref pc, .ref pb, .ref pe, .ref ps] ∧ Cn H pc cx cy ∧ Cn H pb bx by_ ∧ Cn H pe ex ey ∧ Sq H ps a b ∧
  ∀ r H', Same H H' → H' r = some (.tup [.int (rAl cx cy bx by_ ex ey * b), .int (rUn cx cy bx by_ ex ey a b), .int (rLen bx by_ ex ey * b)]) → Q (.ref r) H'
/-- where part_within tells None -/
def pwN (cx cy bx by_ ex ey a b room : Int) : Bool :=
  if [bx, by_] = [ex, ey] then !decide (lo cx cy bx by_ a b ≥ room)
  else decide (sg (rUn cx cy bx by_ ex ey a b) < room) || (decide (ro 1 0 0 1 (rAl cx cy bx by_ ex ey * b) (-1) (rUn cx cy bx by_ ex ey a b) (rLen bx by_ ex ey * b) < room) ||
    decide (ro (rAl cx cy bx by_ ex ey * b) 1 (rUn cx cy bx by_ ex ey a b) (rLen bx by_ ex ey * b) 0 0 0 1 < room))
/-- what is a square -/
def sqV (H : Hp) : V → Bool
  | .ref p => match H p with
    | some (.tup [.int a, .int b]) => lowB a b && !decide (a < 0)
    | _ => false
  | _ => false
def spLookS (C : Addr) : Sp := fun vs H Q E => ∃ x, vs = [x] ∧ Thing H x ∧ (sqV H x = false → E (.ref C) none H) ∧ (sqV H x = true → Q .non H)
theorem sqV_low {H : Hp} {x : V} (h : lowV H x = false) : sqV H x = false := by
  unfold sqV
  split
  · split
    · rename_i p _ a b e
      rw [lowV_two e] at h
      rw [h, Bool.false_and]
    · rfl
  · rfl
theorem sqV_two {H : Hp} {p : Addr} {a b : Int} (e : H p = some (.tup [.int a, .int b])) : sqV H (.ref p) = (lowB a b && !decide (a < 0)) := by
  simp only [sqV, e]
end Sp24
/-! all(..) of a list of truths -/
namespace L2
open PySem PySem.Spec PyProof.Rows
end L2
/-! k07: lines -/
namespace Sp7
open PySem PySem.Spec L2 Mth Sp1 Sp2 Sp3
end Sp7
/-! AUTO: the plain parts of a reading, found by their shape -/
namespace L2
open PySem PySem.Spec PyProof.Rows
theorem Same.at {H H' : Hp} {b : Addr} {o : HO} (s : Same H H') (e : H b = some o) : H' b = some o := s b o e
theorem Same.rfl' {H : Hp} : Same H H := fun _ _ e => e
theorem alloc {H : Hp} {o : HO} {Q : Addr → Hp → Prop} (h : ∀ p H1, Same H H1 → H1 p = some o → Q p H1) : ∀ p, H p = none → Q p (upd H p o) := fun p hp => h p _ (Same.new hp) upd_same
theorem bits_add2 {i j : Int} {m n : Nat} (hi : bits i ≤ m) (hj : bits j ≤ n) : bits (i + j) ≤ max m n + 1 := bits_add (bits_le hi (Nat.le_max_left _ _)) (bits_le hj (Nat.le_max_right _ _))
theorem dec_t {p : Prop} [Decidable p] (h : decide p = true) : p := of_decide_eq_true h
theorem dec_f {p : Prop} [Decidable p] (h : decide p = false) : ¬ p := of_decide_eq_false h
theorem CM.of {i j : Int} {m n : Nat} (hi : bits i ≤ m) (hj : bits j ≤ n) (h : m ≤ 1000000 ∧ n ≤ 1000000) : CM i j := CM.b hi hj (by have : (2:Nat) ^ 20 = 1048576 := by decide
                                                                                                                                     omega) (by have : (2:Nat) ^ 20 = 1048576 := by decide
                                                                                                                                                omega)
theorem bits_of_le {i : Int} {m n : Nat} (h : bits i ≤ m) (hm : m ≤ n) : bits i ≤ n := Nat.le_trans h hm
end L2
namespace L2
open PySem PySem.Spec PyProof.Rows
/-- the tuples stay -/
def SameT (H H' : Hp) : Prop := ∀ b xs, H b = some (.tup xs) → H' b = some (.tup xs)
theorem Same.t {H H' : Hp} (s : Same H H') : SameT H H' := fun b xs e => s b _ e
theorem SameT.trans {H H1 H2 : Hp} (a : SameT H H1) (b : SameT H1 H2) : SameT H H2 := fun c xs e => b c xs (a c xs e)
theorem SameT.upd {H : Hp} {l : Addr} {xs ys : List V} (hl : H l = some (.lst xs)) : SameT H (upd H l (.lst ys)) := fun b zs e => by
  rw [upd_ne (ne_of e hl (by intro z; cases z))]
  exact e
theorem Same.upd {H0 H : Hp} {l : Addr} {o : HO} (s : Same H0 H) (hl : H0 l = none) : Same H0 (upd H l o) := fun b u e => by
  rw [upd_ne (ne_of_none e hl)]
  exact s b u e
/-- a comprehension from where its list is made -/
def CompAt (J : It) (fv : List (Str × Nat)) (te : TE) (σ : St) (H1 : Hp) (Q : VK) : Prop := ∀ p, H1 p = none → ∃ W : Nat → Nat → List V → Hp → Prop, (∃ m, W 0 m [] (upd H1 p (.lst []))) ∧ ∀ i m acc H2, W i m acc H2 →
  H2 p = some (.lst acc) ∧ acc.length < sizeLine ∧ ((J.stop i H2 ∧ Q (.ref p) H2) ∨ (J.go i H2 ∧ ∀ x H3, J.yld i H2 x H3 → te (some x :: fvs fv σ) H3 fun y H4 => H4 p = some (.lst acc) ∧ ∃ m', m' < m ∧ W (i + 1) m' (acc ++ [y]) (upd H4 p (.lst (acc ++ [y])))))
def tCompA (wi : TI) (fv : List (Str × Nat)) (te : TE) : TE := fun σ H Q => wi σ H fun J H1 => CompAt J fv te σ H1 Q
section
variable {X : Cx} {scope : Scope} {cl : List (Str × Addr)} {x : Str} {fv : List (Str × Nat)} {elt iter : Expr} {px pos : Pos} {te : TE}
theorem pe_compA {wi : TI} (hcalm : X.calm = true) (C : CompN X scope cl x fv) (hi : PI X (.Name x px) iter wi) (he : ∀ (fp : List Addr) (s₀ : Shared) (H₀ : Hp), PE (X.blk (x :: fv.map (·.1)) scope cl fp s₀ H₀) elt te)
    (hs : ∀ v, foldedSetIterable iter X.env v = pure v := by intro _; rfl) : PE X (.ListComp elt [⟨.Name x px, iter, [], 0⟩] scope pos) (tCompA wi fv te) := pe_comp hcalm C hi he hs
theorem ps_setCompA {wi : TI} {y : Str} {j : Nat} {py spos : Pos} (hcalm : X.calm = true) (C : CompN X scope cl x fv) (hN : X.N.Nodup) (hj : X.N[j]? = some y) (hy : X.env.scope.names.lookup y = some .local) (hi : PI X (.Name x px) iter wi) (he : ∀ (fp : List Addr) (s₀ : Shared) (H₀ : Hp), PE (X.blk (x :: fv.map (·.1)) scope cl fp s₀ H₀) elt te)
    (hsw : swapsWith (.ListComp elt [⟨.Name x px, iter, [], 0⟩] scope pos) (some (.Name y py)) spos.line X.env = pure true := by rfl)
    (hs : ∀ v, foldedSetIterable iter X.env v = pure v := by intro _; rfl) : PS X (.Assign [.Name y py] (.ListComp elt [⟨.Name x px, iter, [], 0⟩] scope pos) spos) (tAsg (tCompA wi fv te) (gName j)) := ps_setComp hcalm C hN hj hy hi he hsw hs
end
theorem comp_R {K : PySem.W.Frag} {a : Addr} {xs : List V} {fv : List (Str × Nat)} {te : TE} {σ : St} {H1 : Hp} {Q : VK} (hL : SqL K H1 a xs) (hlen : xs.length < 1000) (R : Nat → V → Hp → Prop) (hR : ∀ i v H H', SameT H H' → R i v H → R i v H')
    (hs : ∀ i x H2 (Kc : VK), xs[i]? = some x → Same H1 H2 → (∀ y H4, Same H2 H4 → R i y H4 → Kc y H4) → te (some x :: fvs fv σ) H2 Kc)
    (hd : ∀ l ys H', H1 l = none → Same H1 H' → H' l = some (.lst ys) → ys.length = xs.length → (∀ i y, ys[i]? = some y → R i y H') → Q (.ref l) H') :
    CompAt (Itl K a) fv te σ H1 Q := by
  intro l hl
  refine comp_list (K := K) (a := a) (xs := xs) (l := l) (fv := fv) (Qp := fun H2 => Q (.ref l) H2) (fun i acc H2 => acc.length = i ∧ Same H1 H2 ∧ H2 l = some (.lst acc) ∧ ∀ j y, acc[j]? = some y → R j y H2)
    ⟨rfl, Same.new hl, upd_same, fun j y h => by simp at h⟩ ?_ ?_ ?_
  · rintro i acc H2 hi ⟨e1, sm, e3, _⟩
    exact ⟨sm.seq hL, e3, small1000 (by omega)⟩
  · rintro i x acc H2 Kc hx ⟨e1, sm, e3, hr⟩ kk
    refine hs i x H2 Kc hx sm fun y H4 s4 ry => kk y H4 (s4 _ _ e3) ⟨by simp [e1], (sm.trans s4).upd hl, upd_same, fun j z hz => ?_⟩
    have t4 := SameT.upd (ys := acc ++ [y]) (s4 _ _ e3)
    rcases Nat.lt_trichotomy j acc.length with h | h | h
    · rw [List.getElem?_append_left h] at hz
      exact hR _ _ _ _ (s4.t.trans t4) (hr j z hz)
    · subst h
      rw [List.getElem?_append_right (Nat.le_refl _), Nat.sub_self] at hz
      cases hz
      rw [e1]
      exact hR _ _ _ _ t4 ry
    · rw [List.getElem?_eq_none (by simp; omega)] at hz
      cases hz
  · rintro acc H2 ⟨e1, sm, e3, hr⟩
    exact hd l acc H2 hl sm e3 e1 hr
theorem comp_rR {n : Nat} {lo : Int} {fv : List (Str × Nat)} {te : TE} {σ : St} {H1 : Hp} {Q : VK} (hlen : n < 1000) (R : Nat → V → Hp → Prop) (hR : ∀ i v H H', SameT H H' → R i v H → R i v H')
    (hs : ∀ i H2 (Kc : VK), i < n → Same H1 H2 → (∀ y H4, Same H2 H4 → R i y H4 → Kc y H4) → te (some (.int (lo + i)) :: fvs fv σ) H2 Kc)
    (hd : ∀ l ys H', H1 l = none → Same H1 H' → H' l = some (.lst ys) → ys.length = n → (∀ i y, ys[i]? = some y → R i y H') → Q (.ref l) H') :
    CompAt (Itr lo n) fv te σ H1 Q := by
  intro l hl
  refine comp_range (n := n) (lo := lo) (l := l) (fv := fv) (Qp := fun H2 => Q (.ref l) H2) (fun i acc H2 => acc.length = i ∧ Same H1 H2 ∧ H2 l = some (.lst acc) ∧ ∀ j y, acc[j]? = some y → R j y H2)
    ⟨rfl, Same.new hl, upd_same, fun j y h => by simp at h⟩ ?_ ?_ ?_
  · rintro i acc H2 hi ⟨e1, sm, e3, _⟩
    exact ⟨e3, small1000 (by omega)⟩
  · rintro i acc H2 Kc hx ⟨e1, sm, e3, hr⟩ kk
    refine hs i H2 Kc hx sm fun y H4 s4 ry => kk y H4 (s4 _ _ e3) ⟨by simp [e1], (sm.trans s4).upd hl, upd_same, fun j z hz => ?_⟩
    have t4 := SameT.upd (ys := acc ++ [y]) (s4 _ _ e3)
    rcases Nat.lt_trichotomy j acc.length with h | h | h
    · rw [List.getElem?_append_left h] at hz
      exact hR _ _ _ _ (s4.t.trans t4) (hr j z hz)
    · subst h
      rw [List.getElem?_append_right (Nat.le_refl _), Nat.sub_self] at hz
      cases hz
      rw [e1]
      exact hR _ _ _ _ t4 ry
    · rw [List.getElem?_eq_none (by simp; omega)] at hz
      cases hz
  · rintro acc H2 ⟨e1, sm, e3, hr⟩
    exact hd l acc H2 hl sm e3 e1 hr
end L2
namespace L2
open PySem PySem.Spec PyProof.Rows
/-! ### what is new, what is changed, by heaps of their own names -/
section
variable {X : Cx} {pos : Pos} {es : List Expr} {ta : TA}
def tTupA (t : TA) : TE := fun σ H Q => t σ H fun xs H1 => xs.length ≤ sizeLine ∧ ∀ p H2, Same H1 H2 → H2 p = some (.tup xs) → H1 p = none → Q (.ref p) H2
def tLstA (t : TA) : TE := fun σ H Q => t σ H fun xs H1 => xs.length ≤ sizeLine ∧ ∀ p H2, Same H1 H2 → H2 p = some (.lst xs) → H1 p = none → Q (.ref p) H2
theorem pe_tupA {x1} (h : PA X es ta) : PE X (.Tuple es x1 pos) (tTupA ta) := by
  intro pins s σ H Q I hq
  refine wpAny_Tuple_spliced (thn (h pos pins s σ H _ I hq) fun us s1 ⟨xs, H1, I1, r, z, q⟩ => ⟨by rw [← r.length]; exact z, ?_⟩)
  have hf : H1 s1.heap.objs.size = none := I1.hok.fresh (Nat.le_refl _)
  refine ⟨.ref s1.heap.objs.size, upd H1 s1.heap.objs.size (.tup xs), I1.laid (t' := s1.toks) (fun b u e => Heap.get?_push_of_some _ e) (Nat.le_refl _) ?_, rfl, q _ _ (Same.new hf) upd_same hf⟩
  exact ⟨z, us, r, ⟨_, Heap.get?_push_size _ rfl, rfl, _, rfl⟩⟩
theorem pe_lstA (h : PA X es ta) : PE X (.List es pos) (tLstA ta) := by
  intro pins s σ H Q I hq
  refine wpAny_List_spliced (thn (h pos pins s σ H _ I hq) fun us s1 ⟨xs, H1, I1, r, z, q⟩ => ⟨by rw [← r.length]; exact z, ?_⟩)
  have hf : H1 s1.heap.objs.size = none := I1.hok.fresh (Nat.le_refl _)
  refine ⟨.ref s1.heap.objs.size, upd H1 s1.heap.objs.size (.lst xs), I1.laid (t' := s1.toks) (fun b u e => Heap.get?_push_of_some _ e) (Nat.le_refl _) ?_, rfl, q _ _ (Same.new hf) upd_same hf⟩
  exact ⟨z, us, 0, r, Heap.get?_push_size _ rfl⟩
def rSlLA (K : PySem.W.Frag) : V → Option Int → Option Int → Hp → VK → Prop := fun x lo hi H Q => ∃ a xs, x = .ref a ∧ SqL K H a xs ∧ ∀ p H2, Same H H2 → H2 p = some (.lst (cutV xs lo hi)) → H p = none → Q (.ref p) H2
theorem sl_listA : SlR X (rSlLA X.K) := fun pins s σ H x v vl vu lo hi sl Q I rx hs pl pu ⟨a, xs, e, hx, q⟩ =>
  sl_list pins s σ H x v vl vu lo hi sl Q I rx hs pl pu ⟨a, xs, e, hx, fun p hp => q p _ (Same.new hp) upd_same hp⟩
def rCatA : R2 := fun x y H Q => ∃ l b xs zs, x = .ref l ∧ y = .ref b ∧ H l = some (.lst xs) ∧ H b = some (.lst zs) ∧ xs.length + zs.length ≤ sizeLine ∧ ∀ p H2, Same H H2 → H2 p = some (.lst (xs ++ zs)) → H p = none → Q (.ref p) H2
theorem op_catA : OpR X (binaryOp .Add) rCatA := fun pins s σ H x y v u Q I rx ry ⟨l, b, xs, zs, e1, e2, h1, h2, hz, q⟩ =>
  op_cat pins s σ H x y v u Q I rx ry ⟨l, b, xs, zs, e1, e2, h1, h2, hz, fun p hp => q p _ (Same.new hp) upd_same hp⟩
end
end L2
namespace L2
open PySem PySem.Spec PyProof.Rows
/-- an item of a list, whichever -/
theorem menu {K : PySem.W.Frag} {H : Hp} {l : Addr} {xs : List V} {i : Int} {Q : VK} (e : H l = some (.lst xs)) (h0 : 0 ≤ i) (h1 : i < (xs.length : Int)) (h : ∀ v ∈ xs, Q v H) : rIxL K (.ref l) (.int i) H Q := by
  obtain ⟨v, hv, mv⟩ := Sp1.atI_mem h0 h1
  exact ⟨l, xs, i, v, rfl, rfl, SqL.of e, hv, h v mv⟩
theorem menu_mod {K : PySem.W.Frag} {H : Hp} {l : Addr} {xs : List V} {n m : Int} {Q : VK} (e : H l = some (.lst xs)) (h0 : 0 < m) (h1 : m ≤ (xs.length : Int)) (h : ∀ v ∈ xs, Q v H) : rIxL K (.ref l) (.int (n % m)) H Q :=
  menu e (Int.emod_nonneg _ (by omega)) (by have := Int.emod_lt_of_pos n h0; omega) h
theorem cells_int {ss : List Int} {lo hi : Option Int} {n : Int} {o : V} {i : Nat} (h : (cutV (ss.map V.int) lo hi ++ [V.int n])[i]? = some o) : ∃ c, o = V.int c := by
  have hm := List.mem_of_getElem? h
  rcases List.mem_append.mp hm with hm | hm
  · obtain ⟨c, _, e⟩ := List.mem_map.mp (mem_cutV hm)
    exact ⟨c, e.symm⟩
  · exact ⟨_, List.mem_singleton.mp hm⟩
theorem cells_len {ss : List Int} {lo hi : Option Int} {n : Int} (h : ss.length ≤ 63) : (cutV (ss.map V.int) lo hi).length + [V.int n].length ≤ sizeLine := by
  have lcut := cutV_length (ss.map V.int) lo hi
  rw [List.length_map] at lcut
  exact Sp1.sz (by show _ + 1 ≤ 1000; omega)
theorem len3 {α : Type} {xs : List α} (h : xs.length = 3) : ∃ a b c, xs = [a, b, c] := match xs, h with | [a, b, c], _ => ⟨a, b, c, rfl⟩
theorem len2 {α : Type} {xs : List α} (h : xs.length = 2) : ∃ a b, xs = [a, b] := match xs, h with | [a, b], _ => ⟨a, b, rfl⟩
theorem len4 {α : Type} {xs : List α} (h : xs.length = 4) : ∃ a b c d, xs = [a, b, c, d] := match xs, h with | [a, b, c, d], _ => ⟨a, b, c, d, rfl⟩
theorem len5 {α : Type} {xs : List α} (h : xs.length = 5) : ∃ a b c d e, xs = [a, b, c, d, e] := match xs, h with | [a, b, c, d, e], _ => ⟨a, b, c, d, e, rfl⟩
theorem len6 {α : Type} {xs : List α} (h : xs.length = 6) : ∃ a b c d e f, xs = [a, b, c, d, e, f] := match xs, h with | [a, b, c, d, e, f], _ => ⟨a, b, c, d, e, f, rfl⟩
end L2
/-! ZIP and ENUMERATE, walked with a target of names -/
namespace L2
open PySem PySem.Spec PyProof.Rows
section
variable {X : Cx} {pins : List (Addr × Obj)} {σ : St} {H : Hp} {s : Shared}
end
section
variable {X : Cx} {elts : List Expr} {kt : Nat} {tpos : Pos}
end
end L2
/-! DATA: what a value stands for, whole; == and != of such -/
namespace L2
open PySem PySem.Spec PyProof.Rows
section
variable {X : Cx} {pins : List (Addr × Obj)} {σ : St} {H : Hp} {s : Shared}
end
end L2
/-! GENERATED -/
namespace L2
open PySem PySem.Spec PyProof.Rows
section
variable {X : Cx} {pins : List (Addr × Obj)} {σ : St} {H : Hp} {s : Shared}
end
section
variable {X : Cx}
end
/-! ### how one shows what a value stands for -/
section
variable {H : Hp} {n : Nat} {p : Addr} {x y z w : V} {a b c d : D}
end
end L2
/-! COMPREHENSIONS of one clause, any target, a test or none -/
namespace L2
open PySem PySem.Spec PyProof.Rows
/-- what is asked of the names: x the clause's own name; fv the free ones with their slots -/
structure CompM (X : Cx) (scope : Scope) (cl : List (Str × Addr)) (xs : List Str) (fv : List (Str × Nat)) : Prop where
  clos : closureFor scope X.env = pure cl
  kind : scope.kind = .function
  cell : ∀ y ∈ scope.names, y.2 ≠ .cell
  names : ∀ y ∈ scope.names, y.2 = .local → scope.names.lookup y.1 = some .local
  own : ∀ x ∈ xs, scope.names.lookup x = some .local
  cells : ∀ p ∈ cl, X.env.cells.lookup p.1 = some p.2
  has : ((relabel scope X.env).names.all fun q => !(q.2 == .cell || q.2 == .free) || (cl.lookup q.1).isSome) = true
  nd : (xs ++ fv.map (·.1)).Nodup
  slot : ∀ p ∈ fv, X.N[p.2]? = some p.1 ∧ X.env.kindOf p.1 = some .cell ∧ Vis X.env.scope p.1 ∧ (cl.lookup p.1).isSome = true ∧ ((relabel scope X.env).names.lookup p.1 = some .cell)
  stk : X.stack = X.env :: X.outer ∧ X.env.frame = some X.env.locals
  noex : X.ex = []
/-- the tests of a clause: none, or one -/
def PTs (X : Cx) (ifs : List Expr) (tc : TT) : Prop :=
  ∀ (pins : List (Addr × Obj)) (s : Shared) (σ : St) (H : Hp) (Q : Bool → Hp → Prop), Inv X pins σ H s → tc σ H Q →
    wpAny (model X.prog X.w) X.A (forIn ifs true fun c r => if r = true then do let ok ← isTrue c X.env (eval c X.env); pure (ForInStep.yield ok) else pure (ForInStep.yield r)) (fun b s' => ∃ H', Inv X pins σ H' s' ∧ Q b H') X.xe s
theorem pts_one {X : Cx} {c : Expr} {tc : TT} (h : PT X c tc) : PTs X [c] tc := fun pins s σ H Q I q => wpAny_tests_one (h pins s σ H Q I q)
/-- a turn of the loop, whatever its target is -/
theorem compLoop_go {prog : Program} {w : World} {A : Around} {R : Result → Shared → Prop} {s : Shared} {elt target iter : Expr} {ifs : List Expr} {scope : Scope} {pos : Pos} {it acc : Value} {env : Env} (I : Nat → Shared → Prop)
    (turn : ∀ n s, I n s → wpAny (model prog w) A (pyNext it) (fun r s₁ => match r with
      | none => R (.ok .next) s₁
      | some v => wpAny (model prog w) A (letOwnedTupleGo target it v) (fun _ s₀ => wpAny (model prog w) A (assign target env v) (fun _ s₂ =>
          wpAny (model prog w) A (forIn ifs true fun c r => if r = true then do let ok ← isTrue c env (eval c env); pure (ForInStep.yield ok) else pure (ForInStep.yield r)) (fun ok s₃ =>
            if ok = true then wpAny (model prog w) A (eval elt env) (fun x s₄ =>
              wpAny (model prog w) A (call (.builtin "list.append") [acc, x]) (fun _ s₅ => ∃ m, m < n ∧ I m s₅) (notedBy (model prog w) A env fun e s' => R (.error e) s') s₄) (notedBy (model prog w) A env fun e s' => R (.error e) s') s₃
            else ∃ m, m < n ∧ I m s₃) (notedBy (model prog w) A env fun e s' => R (.error e) s') s₂) (notedBy (model prog w) A env fun e s' => R (.error e) s') s₀) (notedBy (model prog w) A env fun e s' => R (.error e) s') s₁) (notedBy (model prog w) A env fun e s' => R (.error e) s') s)
    (n : Nat) (h : I n s) : codeAny (model prog w) A (.compLoop (.ListComp elt [⟨target, iter, ifs, 0⟩] scope pos) 0 it acc env) R s := by
  refine codeAny_loop rfl I (fun n s hI => ?_) n h
  show wpAny _ A ((compTurn (.ListComp elt [⟨target, iter, ifs, 0⟩] scope pos) 0 it acc env).onRaise (fun x => do noteFrame x env; theTreesLotGoes x)) _ _ s
  refine wpAny_noted ?_
  rw [compTurn_list]
  refine wpAny_bind (wpAny_standAt (wpAny_bind (wpAny_mono (turn n s hI) (fun r s₁ h₁ => ?_) fun _ _ h' => h')))
  cases r with
  | none => exact wpAny_pure h₁
  | some v =>
    refine wpAny_bind (wpAny_mono h₁ (fun _ s₀ h₀ => ?_) fun _ _ h' => h')
    refine wpAny_bind (wpAny_mono h₀ (fun _ s₂ h₂ => wpAny_bind (wpAny_mono h₂ (fun ok s₃ h₃ => ?_) fun _ _ h' => h')) fun _ _ h' => h')
    cases ok with
    | false => exact wpAny_pure ⟨rfl, h₃⟩
    | true => exact wpAny_bind (wpAny_bind (wpAny_mono h₃ (fun x s₄ h₄ => wpAny_bind (wpAny_mono h₄ (fun _ s₅ h₅ => wpAny_pure (wpAny_pure ⟨rfl, h₅⟩)) fun _ _ h' => h')) fun _ _ h' => h'))
def CompAtG (J : It) (n : Nat) (fv : List (Str × Nat)) (g : TG) (tc : TT) (te : TE) (σ : St) (H1 : Hp) (Q : VK) : Prop := ∀ p, H1 p = none → ∃ W : Nat → Nat → List V → Hp → Prop, (∃ m, W 0 m [] (upd H1 p (.lst []))) ∧ ∀ i m acc H2, W i m acc H2 →
  H2 p = some (.lst acc) ∧ acc.length < sizeLine ∧ ((J.stop i H2 ∧ Q (.ref p) H2) ∨ (J.go i H2 ∧ ∀ x H3, J.yld i H2 x H3 → ∀ τ : St, τ.length = n → g x (τ ++ fvs fv σ) H3 fun σ2 H4 => (∃ τ' : St, τ'.length = n ∧ σ2 = τ' ++ fvs fv σ) ∧
    tc σ2 H4 fun b H5 => if b = true then te σ2 H5 (fun y H6 => H6 p = some (.lst acc) ∧ ∃ m', m' < m ∧ W (i + 1) m' (acc ++ [y]) (upd H6 p (.lst (acc ++ [y])))) else ∃ m', m' < m ∧ W (i + 1) m' acc H5))
def tCompG (wi : TI) (n : Nat) (fv : List (Str × Nat)) (g : TG) (tc : TT) (te : TE) : TE := fun σ H Q => wi σ H fun J H1 => CompAtG J n fv g tc te σ H1 Q
section
variable {X : Cx} {scope : Scope} {cl : List (Str × Addr)} {xs : List Str} {fv : List (Str × Nat)} {elt iter tg : Expr} {ifs : List Expr} {pos : Pos} {te : TE} {tc : TT} {g : TG}
theorem blk_okG {pins : List (Addr × Obj)} {σ : St} {H : Hp} {s : Shared} {fp : List Addr} (C : CompM X scope cl xs fv) (I : Inv X pins σ H s) (hf : ∀ b ∈ fp, FpOk X pins H b) (ho : ∀ b ∈ fp, b < s.heap.objs.size) : (X.blk (xs ++ fv.map (·.1)) scope cl fp s H).Ok := by
  have hcl : ∀ y c, cl.lookup y = some c → X.env.cells.lookup y = some c := fun y c h => C.cells _ (lookup_mem h)
  have old : ∀ b ∈ fp, X.s₀.heap.objs.size ≤ b := fun b hb => by
    rcases (hf b hb).2.2.2.1 with z | z
    · rw [C.noex] at z
      cases z
    · exact z
  refine ⟨I.ok.mod, by show (relabel scope X.env).kind = _; exact C.kind, I.ok.glob, I.ok.blt, Nat.le_refl _, fun y z c h1 h2 => I.ok.inj y z c (hcl y c h1) (hcl z c h2), fun y hy => ?_, (fun y c h => by cases h), I.ok.hd, I.ok.frames, .inl rfl, fun b hb => ?_, fun b o e => I.bs b o e, Nat.le_trans I.ok.bsz I.sz, fun b o e hb => ?_, fun b hb hm => ?_, I.stack, I.stkFree⟩
  · have q := C.has
    rw [List.all_eq_true] at q
    have hm : ∃ k, (y, k) ∈ (relabel scope X.env).names ∧ (k = .cell ∨ k = .free) := by
      rcases hy with hy | hy
      · exact ⟨_, lookup_mem hy, .inl rfl⟩
      · exact ⟨_, lookup_mem hy, .inr rfl⟩
    obtain ⟨k, hk, hk2⟩ := hm
    have q2 := q _ hk
    have q3 : (cl.lookup y).isSome = true := by
      rcases hk2 with rfl | rfl
      · simpa using q2
      · simpa using q2
    exact Option.isSome_iff_exists.mp q3
  · obtain ⟨f0, f1, f2, f3, f4, f5⟩ := hf b hb
    refine ⟨?_, fun y c h => f4 y c (hcl y c h)⟩
    exact Nat.ne_of_lt (ho b hb)
  · have z := Heap.lt_size e
    have z2 := old b hb
    exact absurd (Nat.lt_of_lt_of_le z (Nat.le_trans I.ok.bsz z2)) (Nat.lt_irrefl _)
  · obtain ⟨f0, f1, f2, f3, f4, f5⟩ := hf b hb
    rcases List.mem_cons.mp (I.stkSub b hm) with z | z
    · exact f1 z
    · exact f2 z
/-- the block begins -/
theorem blk_invG {pins : List (Addr × Obj)} {σ : St} {H : Hp} {s s4 : Shared} {fp : List Addr} (C : CompM X scope cl xs fv) (I : Inv X pins σ H s) (hf : ∀ b ∈ fp, FpOk X pins H b) (ho : ∀ b ∈ fp, b < s.heap.objs.size)
    (hs : s4.os = s.os ∧ s4.gens = s.gens) (ns : s4.heap.Ns s.heap.objs.size fun _ => none) (kp : ∀ b o, s.heap.get? b = some o → s4.heap.get? b = some o) :
    Inv (X.blk (xs ++ fv.map (·.1)) scope cl fp s H) [] (List.replicate xs.length none ++ fvs fv σ) H s4 := by
  have hcl : ∀ y c, cl.lookup y = some c → X.env.cells.lookup y = some c := fun y c h => C.cells _ (lookup_mem h)
  refine ⟨blk_okG C I hf ho, hs.1, by rw [hs.2]; exact I.bare, Un.kept kp, ⟨_, ns, fun i y v e1 e2 e3 => ?_⟩, fun y c h => ?_, I.hok.fresh (Nat.le_refl _), fun y c h => I.freeC y c (hcl y c h), fun p hp => by simp at hp, I.hok.kept kp, by simp [fvs]⟩
  · by_cases hi : i < xs.length
    · rw [List.getElem?_append_left (by rw [List.length_replicate]; exact hi), List.getElem?_replicate] at e2
      simp [hi] at e2
    · obtain ⟨j, rfl⟩ : ∃ j, i = xs.length + j := ⟨i - xs.length, by omega⟩
      have e1' : (fv.map (·.1))[j]? = some y := by
        have z : (xs ++ fv.map (·.1))[xs.length + j]? = some y := e1
        rw [List.getElem?_append_right (by omega)] at z
        simpa using z
      have e2' : (fvs fv σ)[j]? = some (some v) := by
        rw [List.getElem?_append_right (by rw [List.length_replicate]; omega), List.length_replicate] at e2
        simpa using e2
      rw [List.getElem?_map] at e1'
      unfold fvs at e2'
      rw [List.getElem?_map] at e2'
      cases hq : fv[j]? with
      | none =>
        rw [hq] at e1'
        cases e1'
      | some q =>
        rw [hq] at e1' e2'
        have ey : q.1 = y := Option.some.inj e1'
        have ev : (σ[q.2]?).join = some v := Option.some.inj e2'
        have hm : q ∈ fv := List.mem_of_getElem? hq
        obtain ⟨s1, s2, s3, s4', s5⟩ := C.slot q hm
        have ev2 : σ[q.2]? = some (some v) := by
          cases hz : σ[q.2]? with
          | none =>
            rw [hz] at ev
            cases ev
          | some z =>
            rw [hz] at ev
            have ev' : z = some v := ev
            rw [ev']
        obtain ⟨m, hn, hl⟩ := I.loc
        obtain ⟨u, r, lk⟩ := hl q.2 q.1 v s1 ev2 s3
        obtain ⟨c, hc⟩ := Option.isSome_iff_exists.mp s4'
        refine ⟨u, r, .inr ⟨.inl (by rw [← ey]; exact s5), c, by rw [← ey]; exact hc, ?_⟩⟩
        rcases lk with ⟨k, _⟩ | ⟨_, c', hc', z⟩
        · rw [s2] at k
          cases k
        · rw [hcl _ _ hc] at hc'
          cases hc'
          obtain ⟨o, ho', hd⟩ := z
          exact ⟨o, kp _ _ ho', hd⟩
  · obtain ⟨v, o, ho', hd⟩ := I.cell y c (hcl y c h)
    exact ⟨v, o, kp _ _ ho', hd⟩
/-- the block, to its end -/
theorem blk_runG {pins : List (Addr × Obj)} {σ : St} {H2 : Hp} {s2 : Shared} {it : Addr} {fp : List Addr} {tn : Nat → Heap → Prop} {J : It} {RR : Value → Addr → Result → Shared → Prop} {E : Value → Shared → Prop} {Qf : V → Hp → Prop}
    (hcalm : X.calm = true) (C : CompM X scope cl xs fv) (I2 : Inv X pins σ H2 s2) (T : Turn X.prog X.w X.K tg J fp it tn) (st : tn 0 s2.heap) (f2 : ∀ b ∈ fp, FpOk X pins H2 b)
    (rd : CompAtG J xs.length fv g tc te σ H2 Qf)
    (hg : ∀ (s₀ : Shared) (H₀ : Hp), PG (X.blk (xs ++ fv.map (·.1)) scope cl fp s₀ H₀) tg g) (ht : ∀ (s₀ : Shared) (H₀ : Hp), PTs (X.blk (xs ++ fv.map (·.1)) scope cl fp s₀ H₀) ifs tc)
    (he : ∀ (s₀ : Shared) (H₀ : Hp), PE (X.blk (xs ++ fv.map (·.1)) scope cl fp s₀ H₀) elt te)
    (hRR : ∀ (p C : Addr) (H' : Hp) (s' : Shared), (∃ m, s'.heap.Ns C m) → C ≠ X.env.locals → H' C = none → X.s₀.heap.objs.size ≤ C → (∀ y c, X.env.cells.lookup y = some c → c ≠ C) → (∀ q ∈ X.pn ++ pins, q.1 ≠ C) → Inv X pins σ H' s' → Qf (.ref p) H' → RR (.ref p) C (.ok .next) s') :
    wpAny (model X.prog X.w) X.A (newList []) (fun acc s₃ => wpAny (model X.prog X.w) X.A (newFunctionEnv scope X.env.globals cl [] X.env.qual none .none (some X.env)) (fun cenv s₄ =>
      codeAny (model X.prog X.w) X.A (.compStart (.ListComp elt [⟨tg, iter, ifs, 0⟩] scope pos) 0 (.ref it) acc { cenv with scope := relabel scope X.env }) (RR acc cenv.locals) s₄) E s₃) E s2 := by
  refine wpAny_newObj_type ?_
  -- the new list
  have hfresh := I2.fresh
  have I3 : Inv X pins σ (upd H2 s2.heap.objs.size (.lst [])) { s2 with heap := s2.heap.push { cls := .type "list", data := .seq ([] : List Value).toArray } } :=
    I2.laid (t' := s2.toks) (fun b u q => Heap.get?_push_of_some _ q) (Nat.le_refl _) ⟨Nat.zero_le _, [], 0, .nil, Heap.get?_push_size _ rfl⟩
  generalize hs3 : ({ s2 with heap := s2.heap.push { cls := .type "list", data := .seq ([] : List Value).toArray } } : Shared) = s3 at I3 ⊢
  have hp3 : s2.heap.objs.size < s3.heap.objs.size := by rw [← hs3]; exact Nat.lt_of_lt_of_le (Nat.lt_succ_self _) (Nat.le_of_eq (Heap.size_push _ _).symm)
  have k23 : ∀ b o, s2.heap.get? b = some o → s3.heap.get? b = some o := fun b o e => by rw [← hs3]; exact Heap.get?_push_of_some _ e
  have fpo : ∀ b ∈ fp, b < s2.heap.objs.size := fun b hb => by
    obtain ⟨o, e, _⟩ := T.obj 0 _ st b hb
    exact Heap.lt_size e
  have f3 : ∀ b ∈ fp, FpOk X pins (upd H2 s2.heap.objs.size (.lst [])) b := fun b hb => ⟨by rw [upd_ne (Nat.ne_of_lt (fpo b hb))]; exact (f2 b hb).1, (f2 b hb).2⟩
  refine wpAny_newFunctionEnv C.cell (by intro y hy; simp at hy) (fun h1 hns1 hsb1 => ?_) C.kind
  have kp : ∀ b o, s3.heap.get? b = some o → h1.get? b = some o := fun b o e => (hsb1.2 b (Nat.ne_of_lt (Heap.lt_size e))).trans (Heap.get?_push_of_some _ e)
  have I4 := blk_invG (s4 := { s3 with heap := h1, toks := s3.toks + ([] : List (Str × Value)).length }) C I3 f3 (fun b hb => Nat.lt_trans (fpo b hb) hp3) ⟨rfl, rfl⟩ hns1 kp
  have st4 : tn 0 h1 := T.keep 0 _ _ st fun b _ o e => kp b o (k23 b o e)
  obtain ⟨W, ⟨m0, w0⟩, step⟩ := rd _ hfresh
  have loop : codeAny (model X.prog X.w) X.A (.compLoop (.ListComp elt [⟨tg, iter, ifs, 0⟩] scope pos) 0 (.ref it) (.ref s2.heap.objs.size) (compEnvC scope cl s3.heap.objs.size X.env)) (RR (.ref s2.heap.objs.size) s3.heap.objs.size)
      { s3 with heap := h1, toks := s3.toks + ([] : List (Str × Value)).length } := by
    refine compLoop_go (fun n s => ∃ i acc τ H', τ.length = xs.length ∧ Inv (X.blk (xs ++ fv.map (·.1)) scope cl fp s3 (upd H2 s2.heap.objs.size (.lst []))) [] (τ ++ fvs fv σ) H' s ∧ tn i s.heap ∧ (∀ b ∈ fp, H' b = none) ∧ W i n acc H') ?_ m0 ⟨0, [], List.replicate xs.length none, _, List.length_replicate, I4, st4, fun b hb => (f3 b hb).1, w0⟩
    rintro n s ⟨i, acc, τ, H', hτ, I', st', fr', w'⟩
    obtain ⟨hp, hlen, alt⟩ := step i n acc H' w'
    have fpk : ∀ {H5 : Hp}, (∀ b ∈ fp, H5 b = none) → ∀ b ∈ fp, FpOk (X.blk (xs ++ fv.map (·.1)) scope cl fp s3 (upd H2 s2.heap.objs.size (.lst []))) [] H5 b := fun h5 b hb =>
      ⟨h5 b hb, (I'.ok.exf b hb).1, I'.ok.exfs b hb, .inl hb, fun y c e => (I'.ok.exf b hb).2 y c e, fun q hq => by simp at hq⟩
    rcases alt with ⟨stop, qf⟩ | ⟨go, turn⟩
    · refine wpAny_mono (T.done (X.blk (xs ++ fv.map (·.1)) scope cl fp s3 (upd H2 s2.heap.objs.size (.lst []))) rfl rfl rfl hcalm i [] s _ H' (fun _ _ => False) I' (fpk fr') st' stop) (fun r s5 ⟨hr, I5⟩ => ?_) fun _ _ z => False.elim z
      subst hr
      refine hRR _ _ H' s5 (let ⟨m, hn, _⟩ := I5.loc; ⟨m, hn⟩) (Nat.ne_of_gt I3.lt) I5.free I3.sz (fun y c e => ?_) (fun q hq => ?_) ?_ qf
      · obtain ⟨v, z⟩ := I3.cell y c e
        exact Nat.ne_of_lt z.lt
      · exact Nat.ne_of_lt (Heap.lt_size (I3.pin q hq).1)
      · exact I3.call' (s' := s5) (ch := fp) I5.os I5.base I5.hok I5.bare fun b hb => ⟨(f2 b hb).2.2.2.1, (f2 b hb).2.1, (f2 b hb).2.2.2.2.1, (f2 b hb).2.2.2.2.2⟩
    · refine wpAny_mono (T.item (X.blk (xs ++ fv.map (·.1)) scope cl fp s3 (upd H2 s2.heap.objs.size (.lst []))) rfl rfl rfl hcalm i [] s _ H' (fun _ _ => False) I' (fpk fr') st' go) (fun r s5 ⟨u, hr, h5⟩ => ?_) fun _ _ z => False.elim z
      subst hr
      refine wpAny_mono h5 (fun _ s6 ⟨y, H6, I6, r6, y6, st6, fr6⟩ => ?_) fun _ _ z => False.elim z
      have I6' := I6.pinned (fpk fr6) (T.obj _ _ st6)
      have rt := turn y _ y6 τ hτ
      refine wpAny_mono (hg s3 _ _ s6 _ H6 y u _ I6' r6 rt) (fun _ s7 ⟨σ7, H7, I7, ⟨τ', hτ', e7⟩, q7⟩ => ?_) fun _ _ z => False.elim z
      subst e7
      refine wpAny_mono (ht s3 _ _ s7 _ _ _ I7 q7) (fun b s7b ⟨H7b, I7b, q7b⟩ => ?_) fun _ _ z => False.elim z
      have kp6 : ∀ {σ9 : St} {H9 : Hp} {s9 : Shared}, Inv (X.blk (xs ++ fv.map (·.1)) scope cl fp s3 (upd H2 s2.heap.objs.size (.lst []))) ([] ++ pinsAt fp s6.heap) σ9 H9 s9 → tn (i + 1) s9.heap ∧ ∀ b ∈ fp, H9 b = none := fun {σ9 H9 s9} I9 => by
        refine ⟨T.keep _ _ _ st6 fun b hb o e => (I9.pin (b, o) (List.mem_append_right _ (List.mem_append_right _ (mem_pinsAt hb e)))).1, fun b hb => ?_⟩
        obtain ⟨o, e, d⟩ := T.obj _ _ st6 b hb
        exact (I9.pin (b, o) (List.mem_append_right _ (List.mem_append_right _ (mem_pinsAt hb e)))).2.1
      cases b with
      | false =>
        obtain ⟨m', hm', w8⟩ := q7b
        exact ⟨m', hm', i + 1, acc, τ', _, hτ', I7b.unpinned, (kp6 I7b).1, (kp6 I7b).2, w8⟩
      | true =>
        refine wpAny_mono (he s3 _ _ s7b _ _ _ I7b q7b) (fun v8 s8 ⟨y8, H8, I8, r8, q8, m', hm', w8⟩ => ?_) fun _ _ z => False.elim z
        refine wpAny_mono (mt_append (X := X.blk (xs ++ fv.map (·.1)) scope cl fp s3 (upd H2 s2.heap.objs.size (.lst []))) _ s8 _ H8 (.ref s2.heap.objs.size) [y8] (.ref s2.heap.objs.size) [v8] (fun _ H9 => H9 = upd H8 s2.heap.objs.size (.lst (acc ++ [y8]))) I8 rfl (.cons r8 .nil) ⟨_, acc, y8, rfl, rfl, q8, hlen, rfl⟩) (fun _ s9 ⟨_, H9, I9, _, e9⟩ => ?_) fun _ _ z => False.elim z
        subst e9
        exact ⟨m', hm', i + 1, acc ++ [y8], τ', _, hτ', I9.unpinned, (kp6 I9).1, (kp6 I9).2, w8⟩
  exact codeAny_compStart_list loop (T.self _ 0 _ _ _ st4 loop)
/-- [elt for x in iter] -/
theorem pe_compG {wi : TI} (hcalm : X.calm = true) (C : CompM X scope cl xs fv) (hi : PI X tg iter wi) (hg : ∀ (fp : List Addr) (s₀ : Shared) (H₀ : Hp), PG (X.blk (xs ++ fv.map (·.1)) scope cl fp s₀ H₀) tg g) (ht : ∀ (fp : List Addr) (s₀ : Shared) (H₀ : Hp), PTs (X.blk (xs ++ fv.map (·.1)) scope cl fp s₀ H₀) ifs tc) (he : ∀ (fp : List Addr) (s₀ : Shared) (H₀ : Hp), PE (X.blk (xs ++ fv.map (·.1)) scope cl fp s₀ H₀) elt te)
    (hs : ∀ v, foldedSetIterable iter X.env v = pure v := by intro _; rfl) : PE X (.ListComp elt [⟨tg, iter, ifs, 0⟩] scope pos) (tCompG wi xs.length fv g tc te) := by
  intro pins s σ H Q I h
  rw [eval_ListComp]
  refine wpAny_comprehension_free (use := none) rfl hs C.clos C.kind C.names (wpAny_mono (hi pins s σ H _ I h) (fun v s1 h1 => wpAny_mono h1 (fun itv s2 h2 => ?_) fun _ _ z => z) fun _ _ z => z)
  obtain ⟨it, fp, tn, J, H2, rfl, I2, T, st2, f2, rd⟩ := h2
  refine blk_runG (Qf := Q) hcalm C I2 T st2 f2 rd (hg fp) (ht fp) (he fp) fun p D H' s' ns nL nH n0 nC nP I8 q => ?_
  obtain ⟨m, hn⟩ := ns
  exact ⟨m, hn, fun h'' sb => ⟨.ref p, H', I8.turned (t' := s'.toks) (fun b o hb e => (sb.2 b hb).trans e) nH nL (.inr n0) nC nP, rfl, q⟩⟩
end
end L2
/-! [.. for k in range(..) if ..] -/
namespace L2
open PySem PySem.Spec PyProof.Rows
theorem comp_rF {n : Nat} {lo : Int} {fv : List (Str × Nat)} {g : TG} {tc : TT} {te : TE} {σ : St} {H1 : Hp} {Q : VK} {k : Nat} (hlen : n < 1000) (R : V → Hp → Prop) (hR : ∀ v H H', SameT H H' → R v H → R v H')
    (hs : ∀ (i : Nat) H2 (τ : St) (Kc : VK) (Kn : Hp → Prop), i < n → Same H1 H2 → τ.length = k → (∀ y H4, Same H2 H4 → R y H4 → Kc y H4) → (∀ H4, Same H2 H4 → Kn H4) → g (.int (lo + i)) (τ ++ fvs fv σ) H2 fun σ2 H4 => (∃ τ' : St, τ'.length = k ∧ σ2 = τ' ++ fvs fv σ) ∧ tc σ2 H4 fun b H5 => if b = true then te σ2 H5 Kc else Kn H5)
    (hd : ∀ l ys H', H1 l = none → Same H1 H' → H' l = some (.lst ys) → ys.length ≤ n → (∀ y ∈ ys, R y H') → Q (.ref l) H') : CompAtG (Itr lo n) k fv g tc te σ H1 Q := by
  intro l hl
  refine ⟨fun i m acc H2 => m = n - i ∧ i ≤ n ∧ acc.length ≤ i ∧ Same H1 H2 ∧ H2 l = some (.lst acc) ∧ ∀ y ∈ acc, R y H2, ⟨n, rfl, Nat.zero_le _, Nat.le_refl _, Same.new hl, upd_same, fun y h => nomatch h⟩, ?_⟩
  rintro i m acc H2 ⟨rfl, hi, e1, sm, e3, hr⟩
  refine ⟨e3, small1000 (by omega), ?_⟩
  by_cases hlt : i < n
  · refine .inr ⟨hlt, fun x H3 y τ hτ => ?_⟩
    obtain ⟨rfl, rfl⟩ := y
    refine hs i H3 τ _ _ hlt sm hτ (fun y H4 s4 ry => ⟨s4 _ _ e3, n - (i + 1), by omega, rfl, hlt, by simp; exact e1, (sm.trans s4).upd hl, upd_same, fun z hz => ?_⟩) fun H4 s4 => ⟨n - (i + 1), by omega, rfl, hlt, by omega, sm.trans s4, s4 _ _ e3, fun z hz => hR _ _ _ s4.t (hr z hz)⟩
    have t4 := SameT.upd (ys := acc ++ [y]) (s4 _ _ e3)
    rcases List.mem_append.mp hz with hz | hz
    · exact hR _ _ _ (s4.t.trans t4) (hr z hz)
    · rw [List.mem_singleton.mp hz]
      exact hR _ _ _ t4 ry
  · have e : i = n := by omega
    subst e
    exact .inl ⟨Nat.le_refl _, hd l acc H2 hl sm e3 e1 hr⟩
end L2
/-! WHAT THE LAWS DRAW: pots, lines -/
namespace Dr
open PySem PySem.Spec L2 Mth Sp1 Sp2 Sp3 Sp7
end Dr
namespace Dr
open PySem PySem.Spec L2 Mth Sp1 Sp2 Sp3 Sp7
end Dr
namespace Dr
open PySem
end Dr
/-! THE SIGN OF A NUMBER WITH TWO ROOTS: as a great scale tells it -/
namespace Sp5
open PySem PySem.Spec L2 Mth Sp1 Sp2 Sp3 Sp24
/-- A is the whole root of T * a -/
structure Rtf (T a A : Int) : Prop where
  nn : 0 ≤ A
  lo : A * A ≤ T * a
  hi : T * a < (A + 1) * (A + 1)
theorem sq_lt {x y : Int} (hx : 0 ≤ x) (h : x < y) : x * x < y * y := by
  have h1 : x * x ≤ y * x := Int.mul_le_mul_of_nonneg_right (by omega) hx
  have h2 : y * x < y * y := Int.mul_lt_mul_of_pos_left h (by omega)
  omega
theorem sq_le {x y : Int} (hy : 0 ≤ y) (h : x * x ≤ y * y) : x ≤ y := by
  by_cases hx : x ≤ y
  · exact hx
  · have := sq_lt hy (show y < x by omega)
    omega
theorem sq_mono {x y : Int} (hx : 0 ≤ x) (h : x ≤ y) : x * x ≤ y * y := Int.mul_le_mul h h hx (by omega)
theorem Rtf.uniq {T a A B : Int} (h : Rtf T a A) (k : Rtf T a B) : A = B := by
  have h1 : A ≤ B := by
    by_cases z : A ≤ B
    · exact z
    · have := sq_mono (x := B + 1) (y := A) (by have := k.nn; omega) (by omega)
      have := k.hi; have := h.lo; omega
  have h2 : B ≤ A := by
    by_cases z : B ≤ A
    · exact z
    · have := sq_mono (x := A + 1) (y := B) (by have := h.nn; omega) (by omega)
      have := h.hi; have := k.lo; omega
  omega
theorem Rtf.mono {T a c A C : Int} (hT : 0 ≤ T) (h : Rtf T a A) (k : Rtf T c C) (hac : a ≤ c) : A ≤ C := by
  by_cases z : A ≤ C
  · exact z
  · have := sq_mono (x := C + 1) (y := A) (by have := k.nn; omega) (by omega)
    have := k.hi; have := h.lo
    have : T * a ≤ T * c := Int.mul_le_mul_of_nonneg_left hac hT
    omega
/-- the scale -/
structure Scl (S M : Int) : Prop where
  m1 : 1 ≤ M
  s : 216 * (M * (M * M)) ≤ S
theorem Scl.mm {S M : Int} (h : Scl S M) : M ≤ M * M ∧ M * M ≤ M * (M * M) := by
  have h1 := h.m1
  have a : 1 * M ≤ M * M := Int.mul_le_mul_of_nonneg_right h1 (by omega)
  have b : 1 * (M * M) ≤ M * (M * M) := Int.mul_le_mul_of_nonneg_right h1 (by omega)
  omega
theorem Scl.pos {S M : Int} (h : Scl S M) : 216 * M ≤ S := by
  have := h.mm; have := h.s; omega
/-- the square is greater than 24 times the scale and the most -/
theorem Scl.big {S M K : Int} (h : Scl S M) (hK : K ≤ 24 * (S * M)) : K < S * S := by
  have p := h.pos
  have m1 := h.m1
  have : S * (216 * M) ≤ S * S := Int.mul_le_mul_of_nonneg_left p (by omega)
  have e : S * (216 * M) = 216 * (S * M) := by grind
  have q : 0 < S * M := Int.mul_pos (by omega) (by omega)
  omega
theorem Scl.fin {S M K f : Int} (h : Scl S M) (f0 : 0 ≤ f) (hf : f ≤ 2 * (M * M)) (k0 : 0 ≤ K) (hK : K ≤ 24 * (S * M)) : 2 * ((S * S) * (f * K)) + K * K < (S * S) * (S * S) := by
  have m1 := h.m1
  have p := h.pos
  have s0 : 0 < S := by omega
  have mm := h.mm
  have q : 0 < S * M := Int.mul_pos s0 (by omega)
  -- f K
  have a1 : f * K ≤ 2 * (M * M) * (24 * (S * M)) := Int.mul_le_mul hf hK k0 (by omega)
  have a2 : 2 * (M * M) * (24 * (S * M)) = 48 * (S * (M * (M * M))) := by grind
  have a3 : S * (216 * (M * (M * M))) ≤ S * S := Int.mul_le_mul_of_nonneg_left h.s (by omega)
  have a4 : S * (216 * (M * (M * M))) = 216 * (S * (M * (M * M))) := by grind
  have a5 : 9 * (f * K) ≤ 2 * (S * S) := by omega
  -- K K
  have b1 : K * K ≤ (24 * (S * M)) * (24 * (S * M)) := Int.mul_le_mul hK hK k0 (by omega)
  have b2 : (24 * (S * M)) * (24 * (S * M)) = (S * S) * (576 * (M * M)) := by grind
  have b3 : 216 * (M * M) ≤ S := by have := h.s; omega
  have b4 : 1 * S ≤ S * S := Int.mul_le_mul_of_nonneg_right (by omega) (by omega)
  have t0 : 0 < S * S := Int.mul_pos s0 s0
  have b5 : 3 * (576 * (M * M)) ≤ S * S := by
    have : 216 * S ≤ S * S := by
      have : 216 * S ≤ S * S := Int.mul_le_mul_of_nonneg_right (by omega) (by omega)
      exact this
    omega
  have c1 : (S * S) * (9 * (f * K)) ≤ (S * S) * (2 * (S * S)) := Int.mul_le_mul_of_nonneg_left a5 (by omega)
  have c2 : (S * S) * (3 * (576 * (M * M))) ≤ (S * S) * (S * S) := Int.mul_le_mul_of_nonneg_left b5 (by omega)
  have d1 : (S * S) * (9 * (f * K)) = 9 * ((S * S) * (f * K)) := by grind
  have d2 : (S * S) * (2 * (S * S)) = 2 * ((S * S) * (S * S)) := by grind
  have d3 : (S * S) * (3 * (576 * (M * M))) = 3 * ((S * S) * (576 * (M * M))) := by grind
  have t1 : 0 < (S * S) * (S * S) := Int.mul_pos t0 t0
  omega
theorem Rtf.le {S M a A : Int} (h : Scl S M) (r : Rtf (S * S) a A) (ha : a ≤ M * M) : A ≤ S * M := by
  have m1 := h.m1
  have p := h.pos
  refine sq_le (Int.mul_nonneg (by omega) (by omega)) ?_
  have : (S * S) * a ≤ (S * S) * (M * M) := Int.mul_le_mul_of_nonneg_left ha (Int.mul_nonneg (by omega) (by omega))
  have e : (S * M) * (S * M) = (S * S) * (M * M) := by grind
  have := r.lo
  omega
theorem Rtf.ge {S M a A : Int} (h : Scl S M) (r : Rtf (S * S) a A) (ha : 1 ≤ a) : S ≤ A := by
  have m1 := h.m1
  have p := h.pos
  by_cases z : S ≤ A
  · exact z
  · have := sq_mono (x := A + 1) (y := S) (by have := r.nn; omega) (by omega)
    have : (S * S) * 1 ≤ (S * S) * a := Int.mul_le_mul_of_nonneg_left ha (Int.mul_nonneg (by omega) (by omega))
    have := r.hi
    omega
/-- two roots of unlike numbers lie apart -/
theorem D1 {S M a c A C : Int} (h : Scl S M) (ra : Rtf (S * S) a A) (rc : Rtf (S * S) c C) (hc : c ≤ M * M) (hac : c + 1 ≤ a) : C + 2 < A := by
  have m1 := h.m1
  have p := h.pos
  by_cases z : C + 2 < A
  · exact z
  · have c0 := rc.nn
    have h1 := sq_mono (x := A + 1) (y := C + 3) (by have := ra.nn; omega) (by omega)
    have e1 : (C + 3) * (C + 3) = C * C + 6 * C + 9 := by grind
    have h2 : (S * S) * (c + 1) ≤ (S * S) * a := Int.mul_le_mul_of_nonneg_left hac (Int.mul_nonneg (by omega) (by omega))
    have e2 : (S * S) * (c + 1) = (S * S) * c + S * S := by grind
    have := ra.hi
    have := rc.lo
    have hC := rc.le h hc
    have q : S * 1 ≤ S * M := Int.mul_le_mul_of_nonneg_left m1 (by omega)
    have := h.big (K := 6 * C + 9) (by omega)
    omega
/-- the products of both roots, from below and above -/
theorem Rtf.prod {T a c A C : Int} (hT : 0 ≤ T) (ha : 0 ≤ a) (hc : 0 ≤ c) (ra : Rtf T a A) (rc : Rtf T c C) : (2 * (A * C)) * (2 * (A * C)) ≤ T * T * (4 * (a * c)) ∧ T * T * (4 * (a * c)) ≤ (2 * ((A + 1) * (C + 1))) * (2 * ((A + 1) * (C + 1))) := by
  have a0 := ra.nn
  have c0 := rc.nn
  have ta : 0 ≤ T * a := Int.mul_nonneg hT ha
  have tc : 0 ≤ T * c := Int.mul_nonneg hT hc
  have h1 : (A * A) * (C * C) ≤ (T * a) * (T * c) := Int.mul_le_mul ra.lo rc.lo (Int.mul_nonneg c0 c0) ta
  have h2 : (T * a) * (T * c) ≤ ((A + 1) * (A + 1)) * ((C + 1) * (C + 1)) := Int.mul_le_mul (Int.le_of_lt ra.hi) (Int.le_of_lt rc.hi) tc (Int.mul_nonneg (by omega) (by omega))
  have e1 : (2 * (A * C)) * (2 * (A * C)) = 4 * ((A * A) * (C * C)) := by grind
  have e2 : (2 * ((A + 1) * (C + 1))) * (2 * ((A + 1) * (C + 1))) = 4 * (((A + 1) * (A + 1)) * ((C + 1) * (C + 1))) := by grind
  have e3 : T * T * (4 * (a * c)) = 4 * ((T * a) * (T * c)) := by grind
  rw [e1, e2, e3]
  omega
/-- where the product is above: a bound from S² f - K ≤ 2 A C -/
theorem low_no {S M a c A C f K : Int} (h : Scl S M) (ha : 0 ≤ a) (hc : 0 ≤ c) (ra : Rtf (S * S) a A) (rc : Rtf (S * S) c C) (f1 : 1 ≤ f) (hf : f ≤ 2 * (M * M)) (k0 : 0 ≤ K) (hK : K ≤ 24 * (S * M)) (hfc : 4 * (a * c) + 1 ≤ f * f) (hle : (S * S) * f ≤ 2 * (A * C) + K) : False := by
  have m1 := h.m1
  have p := h.pos
  have t0 : 0 < S * S := Int.mul_pos (by omega) (by omega)
  have big := h.big hK
  have g1 : (S * S) * 1 ≤ (S * S) * f := Int.mul_le_mul_of_nonneg_left f1 (by omega)
  have y0 : 0 ≤ (S * S) * f - K := by omega
  have y1 := sq_mono (x := (S * S) * f - K) (y := 2 * (A * C)) y0 (by omega)
  have y2 := (Rtf.prod (by omega) ha hc ra rc).1
  have y3 : (S * S) * (S * S) * (4 * (a * c) + 1) ≤ (S * S) * (S * S) * (f * f) := Int.mul_le_mul_of_nonneg_left hfc (Int.mul_nonneg (by omega) (by omega))
  have y4 := h.fin (by omega) hf k0 hK
  have e1 : ((S * S) * f - K) * ((S * S) * f - K) = (S * S) * (S * S) * (f * f) - 2 * ((S * S) * (f * K)) + K * K := by grind
  have e2 : (S * S) * (S * S) * (4 * (a * c) + 1) = (S * S) * (S * S) * (4 * (a * c)) + (S * S) * (S * S) := by grind
  have kk : 0 ≤ K * K := Int.mul_nonneg k0 k0
  omega
/-- where the product is below -/
theorem hi_no {S M a c A C f K : Int} (h : Scl S M) (ha : 0 ≤ a) (hc : 0 ≤ c) (ra : Rtf (S * S) a A) (rc : Rtf (S * S) c C) (f0 : 0 ≤ f) (hf : f ≤ 2 * (M * M)) (k0 : 0 ≤ K) (hK : K ≤ 24 * (S * M)) (hfc : f * f + 1 ≤ 4 * (a * c)) (hle : 2 * ((A + 1) * (C + 1)) ≤ (S * S) * f + K) : False := by
  have m1 := h.m1
  have p := h.pos
  have t0 : 0 < S * S := Int.mul_pos (by omega) (by omega)
  have a0 := ra.nn
  have c0 := rc.nn
  have z0 : 0 ≤ 2 * ((A + 1) * (C + 1)) := by
    have : 0 ≤ (A + 1) * (C + 1) := Int.mul_nonneg (by omega) (by omega)
    omega
  have y1 := sq_mono z0 hle
  have y2 := (Rtf.prod (by omega) ha hc ra rc).2
  have y3 : (S * S) * (S * S) * (f * f + 1) ≤ (S * S) * (S * S) * (4 * (a * c)) := Int.mul_le_mul_of_nonneg_left hfc (Int.mul_nonneg (by omega) (by omega))
  have y4 := h.fin f0 hf k0 hK
  have e1 : ((S * S) * f + K) * ((S * S) * f + K) = (S * S) * (S * S) * (f * f) + 2 * ((S * S) * (f * K)) + K * K := by grind
  have e2 : (S * S) * (S * S) * (f * f + 1) = (S * S) * (S * S) * (f * f) + (S * S) * (S * S) := by grind
  omega
section
variable {S M a c A C v : Int}
/-- both roots against a whole number -/
theorem L1 (h : Scl S M) (ha : 0 ≤ a) (hc : 0 ≤ c) (haM : a ≤ M * M) (hcM : c ≤ M * M) (ra : Rtf (S * S) a A) (rc : Rtf (S * S) c C) (v0 : 0 ≤ v) (hv : v ≤ M) (he : 0 < v * v - a - c) (hd : 4 * (a * c) + 1 ≤ (v * v - a - c) * (v * v - a - c)) : 2 < v * S - A - C := by
  by_cases z : 2 < v * S - A - C
  · exact z
  exfalso
  have m1 := h.m1
  have p := h.pos
  have a0 := ra.nn
  have c0 := rc.nn
  have hA := ra.le h haM
  have hC := rc.le h hcM
  have q : S * 1 ≤ S * M := Int.mul_le_mul_of_nonneg_left m1 (by omega)
  have vv : v * v ≤ M * M := sq_mono v0 hv
  have s1 := sq_mono (x := v * S) (y := A + C + 2) (Int.mul_nonneg v0 (by omega)) (by omega)
  have e1 : (v * S) * (v * S) = (S * S) * (v * v) := by grind
  have e2 : (A + C + 2) * (A + C + 2) = A * A + C * C + 2 * (A * C) + 4 * A + 4 * C + 4 := by grind
  have e3 : (S * S) * (v * v - a - c) = (S * S) * (v * v) - (S * S) * a - (S * S) * c := by grind
  have := ra.lo
  have := rc.lo
  exact low_no h ha hc ra rc (f := v * v - a - c) (K := 4 * A + 4 * C + 4) (by omega) (by omega) (by omega) (by omega) hd (by omega)
theorem L2 (h : Scl S M) (ha : 0 ≤ a) (hc : 0 ≤ c) (ra : Rtf (S * S) a A) (rc : Rtf (S * S) c C) (v0 : 0 ≤ v) (hv : v ≤ M) (hd : v * v - a - c < 0 ∨ (0 ≤ v * v - a - c ∧ (v * v - a - c) * (v * v - a - c) + 1 ≤ 4 * (a * c))) : v * S - A - C < -2 := by
  by_cases z : v * S - A - C < -2
  · exact z
  exfalso
  have m1 := h.m1
  have p := h.pos
  have a0 := ra.nn
  have c0 := rc.nn
  have q : S * 1 ≤ S * M := Int.mul_le_mul_of_nonneg_left m1 (by omega)
  have vs : v * S ≤ M * S := Int.mul_le_mul_of_nonneg_right hv (by omega)
  have ms : M * S = S * M := Int.mul_comm _ _
  have vv : v * v ≤ M * M := sq_mono v0 hv
  have s1 := sq_mono (x := A + 1 + (C + 1)) (y := v * S + 4) (by omega) (by omega)
  have e1 : (v * S + 4) * (v * S + 4) = (S * S) * (v * v) + 8 * (v * S) + 16 := by grind
  have e2 : (A + 1 + (C + 1)) * (A + 1 + (C + 1)) = (A + 1) * (A + 1) + (C + 1) * (C + 1) + 2 * ((A + 1) * (C + 1)) := by grind
  have e3 : (S * S) * (v * v - a - c) = (S * S) * (v * v) - (S * S) * a - (S * S) * c := by grind
  have := ra.hi
  have := rc.hi
  have vs0 : 0 ≤ v * S := Int.mul_nonneg v0 (by omega)
  have z0 : 0 ≤ (A + 1) * (C + 1) := Int.mul_nonneg (by omega) (by omega)
  rcases hd with hd | ⟨hd0, hd⟩
  · have g : (S * S) * (v * v - a - c) ≤ (S * S) * (-1) := Int.mul_le_mul_of_nonneg_left (by omega) (Int.mul_nonneg (by omega) (by omega))
    have := h.big (K := 8 * (v * S) + 16) (by omega)
    omega
  · exact hi_no h ha hc ra rc (f := v * v - a - c) (K := 8 * (v * S) + 16) hd0 (by omega) (by omega) (by omega) hd (by omega)
theorem L3 (h : Scl S M) (ha : 0 ≤ a) (hc : 0 ≤ c) (ra : Rtf (S * S) a A) (rc : Rtf (S * S) c C) (v0 : 0 ≤ v) (he : 0 ≤ v * v - a - c) (hd : (v * v - a - c) * (v * v - a - c) = 4 * (a * c)) : -2 ≤ v * S - A - C ∧ v * S - A - C ≤ 2 := by
  have m1 := h.m1
  have p := h.pos
  have a0 := ra.nn
  have c0 := rc.nn
  have t0 : 0 ≤ S * S := Int.mul_nonneg (by omega) (by omega)
  have vs0 : 0 ≤ v * S := Int.mul_nonneg v0 (by omega)
  have pr := Rtf.prod t0 ha hc ra rc
  have e0 : (S * S * (v * v - a - c)) * (S * S * (v * v - a - c)) = S * S * (S * S) * (4 * (a * c)) := by rw [← hd]; grind
  have te : 0 ≤ S * S * (v * v - a - c) := Int.mul_nonneg t0 he
  have k1 : 2 * (A * C) ≤ S * S * (v * v - a - c) := sq_le te (by omega)
  have z0 : 0 ≤ (A + 1) * (C + 1) := Int.mul_nonneg (by omega) (by omega)
  have k2 : S * S * (v * v - a - c) ≤ 2 * ((A + 1) * (C + 1)) := sq_le (by omega) (by omega)
  have e3 : (S * S) * (v * v - a - c) = (S * S) * (v * v) - (S * S) * a - (S * S) * c := by grind
  have e4 : (v * S) * (v * S) = (S * S) * (v * v) := by grind
  have e5 : (A + C) * (A + C) = A * A + C * C + 2 * (A * C) := by grind
  have e6 : (A + 1 + (C + 1)) * (A + 1 + (C + 1)) = (A + 1) * (A + 1) + (C + 1) * (C + 1) + 2 * ((A + 1) * (C + 1)) := by grind
  have := ra.lo; have := rc.lo; have := ra.hi; have := rc.hi
  have h1 : A + C ≤ v * S := sq_le vs0 (by omega)
  have h2 : v * S ≤ A + 1 + (C + 1) := sq_le (by omega) (by omega)
  omega
/-- a whole number and the lesser root against the greater -/
theorem L4 (h : Scl S M) (ha : 0 ≤ a) (hc : 0 ≤ c) (haM : a ≤ M * M) (hcM : c ≤ M * M) (ra : Rtf (S * S) a A) (rc : Rtf (S * S) c C) (v0 : 0 < v) (hd : 0 < v * v - a - c ∨ (v * v - a - c ≤ 0 ∧ (v * v - a - c) * (v * v - a - c) + 1 ≤ 4 * (a * c))) : 2 < v * S + A - C := by
  by_cases z : 2 < v * S + A - C
  · exact z
  exfalso
  have m1 := h.m1
  have p := h.pos
  have a0 := ra.nn
  have c0 := rc.nn
  have hA := ra.le h haM
  have hC := rc.le h hcM
  have q : S * 1 ≤ S * M := Int.mul_le_mul_of_nonneg_left m1 (by omega)
  have s1 := sq_mono (x := v * S) (y := C - A + 2) (Int.mul_nonneg (by omega) (by omega)) (by omega)
  have e1 : (v * S) * (v * S) = (S * S) * (v * v) := by grind
  have e2 : (C - A + 2) * (C - A + 2) = A * A + C * C - 2 * (A * C) + 4 * C - 4 * A + 4 := by grind
  have e3 : (S * S) * (v * v - a - c) = (S * S) * (v * v) - (S * S) * a - (S * S) * c := by grind
  have e4 : (A + 1) * (C + 1) = A * C + A + C + 1 := by grind
  have := ra.lo
  have := rc.lo
  have ac0 : 0 ≤ A * C := Int.mul_nonneg a0 c0
  rcases hd with hd | ⟨hd0, hd⟩
  · have g : (S * S) * 1 ≤ (S * S) * (v * v - a - c) := Int.mul_le_mul_of_nonneg_left (by omega) (Int.mul_nonneg (by omega) (by omega))
    have := h.big (K := 4 * C + 4) (by omega)
    omega
  · have e5 : (S * S) * (-(v * v - a - c)) = -((S * S) * (v * v - a - c)) := by grind
    have vv : 0 ≤ v * v := Int.mul_nonneg (by omega) (by omega)
    have e6 : -(v * v - a - c) * -(v * v - a - c) = (v * v - a - c) * (v * v - a - c) := by grind
    exact hi_no h ha hc ra rc (f := -(v * v - a - c)) (K := 6 * C + 2 * A + 6) (by omega) (by omega) (by omega) (by omega) (by rw [e6]; exact hd) (by omega)
theorem L5 (h : Scl S M) (ha : 0 ≤ a) (hc : 0 ≤ c) (haM : a ≤ M * M) (hcM : c ≤ M * M) (hac : a ≤ c) (ra : Rtf (S * S) a A) (rc : Rtf (S * S) c C) (v0 : 0 < v) (hv : v ≤ M) (he : v * v - a - c < 0) (hd : 4 * (a * c) + 1 ≤ (v * v - a - c) * (v * v - a - c)) : v * S + A - C < -2 := by
  by_cases z : v * S + A - C < -2
  · exact z
  exfalso
  have m1 := h.m1
  have p := h.pos
  have a0 := ra.nn
  have c0 := rc.nn
  have hA := ra.le h haM
  have hC := rc.le h hcM
  have q : S * 1 ≤ S * M := Int.mul_le_mul_of_nonneg_left m1 (by omega)
  have vs : v * S ≤ M * S := Int.mul_le_mul_of_nonneg_right hv (by omega)
  have ms : M * S = S * M := Int.mul_comm _ _
  have t0 : 0 ≤ S * S := Int.mul_nonneg (by omega) (by omega)
  have hAC := Rtf.mono t0 ra rc hac
  have vs0 : 0 ≤ v * S := Int.mul_nonneg (by omega) (by omega)
  have s1 := sq_mono (x := C - A) (y := v * S + 2) (by omega) (by omega)
  have e1 : (v * S + 2) * (v * S + 2) = (S * S) * (v * v) + 4 * (v * S) + 4 := by grind
  have e2 : (C - A) * (C - A) = A * A + C * C - 2 * (A * C) := by grind
  have e3 : (S * S) * (v * v - a - c) = (S * S) * (v * v) - (S * S) * a - (S * S) * c := by grind
  have e5 : (S * S) * (-(v * v - a - c)) = -((S * S) * (v * v - a - c)) := by grind
  have e6 : -(v * v - a - c) * -(v * v - a - c) = (v * v - a - c) * (v * v - a - c) := by grind
  have e7 : (A + 1) * (A + 1) = A * A + 2 * A + 1 := by grind
  have e8 : (C + 1) * (C + 1) = C * C + 2 * C + 1 := by grind
  have vv : 0 ≤ v * v := Int.mul_nonneg (by omega) (by omega)
  have := ra.hi
  have := rc.hi
  exact low_no h ha hc ra rc (f := -(v * v - a - c)) (K := 4 * (v * S) + 4 + 2 * A + 2 * C) (by omega) (by omega) (by omega) (by omega) (by rw [e6]; exact hd) (by omega)
theorem L6 (h : Scl S M) (ha : 0 ≤ a) (hc : 0 ≤ c) (hac : a ≤ c) (ra : Rtf (S * S) a A) (rc : Rtf (S * S) c C) (v0 : 0 < v) (he : v * v - a - c ≤ 0) (hd : (v * v - a - c) * (v * v - a - c) = 4 * (a * c)) : -2 ≤ v * S + A - C ∧ v * S + A - C ≤ 2 := by
  have m1 := h.m1
  have p := h.pos
  have a0 := ra.nn
  have c0 := rc.nn
  have t0 : 0 < S * S := Int.mul_pos (by omega) (by omega)
  have vs0 : 0 < v * S := Int.mul_pos (by omega) (by omega)
  have aa : a * a ≤ a * c := Int.mul_le_mul_of_nonneg_left hac ha
  have f2 : 2 * a ≤ -(v * v - a - c) := sq_le (by omega) (by
    have e1 : (2 * a) * (2 * a) = 4 * (a * a) := by grind
    have e2 : -(v * v - a - c) * -(v * v - a - c) = (v * v - a - c) * (v * v - a - c) := by grind
    rw [e1, e2, hd]
    omega)
  have g0 : 0 ≤ c - a - v * v := by omega
  have gg : (c - a - v * v) * (c - a - v * v) = 4 * (v * v * a) := by
    have : (c - a - v * v) * (c - a - v * v) - 4 * (v * v * a) = (v * v - a - c) * (v * v - a - c) - 4 * (a * c) := by grind
    omega
  have := ra.lo; have := rc.lo; have := ra.hi; have := rc.hi
  have e3 : (S * S) * (c - a - v * v) = (S * S) * c - (S * S) * a - (S * S) * (v * v) := by grind
  have sg0 : 0 ≤ S * (c - a - v * v) := Int.mul_nonneg (by omega) g0
  have k1 : C ≤ v * S + A := by
    by_cases z : C ≤ v * S + A
    · exact z
    exfalso
    have s1 := sq_mono (x := v * S + (A + 1)) (y := C) (by omega) (by omega)
    have e1 : (v * S + (A + 1)) * (v * S + (A + 1)) = (S * S) * (v * v) + S * (2 * (v * (A + 1))) + (A + 1) * (A + 1) := by grind
    have e2 : (S * S) * (c - a - v * v) = S * (S * (c - a - v * v)) := by grind
    have l1 : S * (2 * (v * (A + 1))) < S * (S * (c - a - v * v)) := by omega
    have l2 : 2 * (v * (A + 1)) < S * (c - a - v * v) := Int.lt_of_mul_lt_mul_left l1 (by omega)
    have va : 0 ≤ v * (A + 1) := Int.mul_nonneg (by omega) (by omega)
    have l3 := sq_mono (x := 2 * (v * (A + 1))) (y := S * (c - a - v * v)) (by omega) (by omega)
    have e4 : (S * (c - a - v * v)) * (S * (c - a - v * v)) = 4 * (v * v * (S * S * a)) := by
      have : (S * (c - a - v * v)) * (S * (c - a - v * v)) = (S * S) * ((c - a - v * v) * (c - a - v * v)) := by grind
      rw [this, gg]; grind
    have e5 : (2 * (v * (A + 1))) * (2 * (v * (A + 1))) = 4 * (v * v * ((A + 1) * (A + 1))) := by grind
    have l4 : v * v * (S * S * a) < v * v * ((A + 1) * (A + 1)) := Int.mul_lt_mul_of_pos_left ra.hi (Int.mul_pos v0 v0)
    omega
  have k2 : v * S + A ≤ C + 1 := by
    by_cases z : v * S + A ≤ C + 1
    · exact z
    exfalso
    have s1 := sq_mono (x := C + 1) (y := v * S + A) (by omega) (by omega)
    have e1 : (v * S + A) * (v * S + A) = (S * S) * (v * v) + S * (2 * (v * A)) + A * A := by grind
    have e2 : (S * S) * (c - a - v * v) = S * (S * (c - a - v * v)) := by grind
    have l1 : S * (S * (c - a - v * v)) < S * (2 * (v * A)) := by omega
    have l2 : S * (c - a - v * v) < 2 * (v * A) := Int.lt_of_mul_lt_mul_left l1 (by omega)
    have l3 : (S * (c - a - v * v)) * (S * (c - a - v * v)) < (2 * (v * A)) * (2 * (v * A)) := sq_lt sg0 l2
    have e4 : (S * (c - a - v * v)) * (S * (c - a - v * v)) = 4 * (v * v * (S * S * a)) := by
      have : (S * (c - a - v * v)) * (S * (c - a - v * v)) = (S * S) * ((c - a - v * v) * (c - a - v * v)) := by grind
      rw [this, gg]; grind
    have e5 : (2 * (v * A)) * (2 * (v * A)) = 4 * (v * v * (A * A)) := by grind
    have l4 : v * v * (A * A) ≤ v * v * (S * S * a) := Int.mul_le_mul_of_nonneg_left ra.lo (Int.mul_nonneg (by omega) (by omega))
    omega
  omega
end
end Sp5
/-! THE SIGN THAT THE SCALE TELLS IS swrs -/
namespace Sp5
open PySem PySem.Spec L2 Mth Sp1 Sp2 Sp3 Sp24
theorem sg_p {x : Int} (h : 0 < x) : sg x = 1 := by unfold sg; rw [if_pos h]
theorem sg_n {x : Int} (h : x < 0) : sg x = -1 := by unfold sg; rw [if_neg (by omega), if_pos h]
theorem sg_z {x : Int} (h : x = 0) : sg x = 0 := by subst h; rfl
theorem sg_neg (x : Int) : sg (-x) = -sg x := by
  rcases Int.lt_trichotomy x 0 with h | h | h
  · rw [sg_n h, sg_p (by omega)]; rfl
  · subst h; rfl
  · rw [sg_p h, sg_n (by omega)]
def told (x : Int) : Int := (if decide (x > 2) = true then 1 else 0) - (if decide (x < -2) = true then 1 else 0)
theorem told_p {x : Int} (h : 2 < x) : told x = 1 := by
  unfold told
  rw [decide_eq_true (show x > 2 from h), decide_eq_false (show ¬ x < -2 by omega)]; rfl
theorem told_n {x : Int} (h : x < -2) : told x = -1 := by
  unfold told
  rw [decide_eq_false (show ¬ x > 2 by omega), decide_eq_true h]; rfl
theorem told_z {x : Int} (h : -2 ≤ x ∧ x ≤ 2) : told x = 0 := by
  unfold told
  rw [decide_eq_false (show ¬ x > 2 by omega), decide_eq_false (show ¬ x < -2 by omega)]; rfl
theorem told_neg (x : Int) : told (-x) = -told x := by
  by_cases h : 2 < x
  · rw [told_p h, told_n (by omega)]
  by_cases h2 : x < -2
  · rw [told_n h2, told_p (by omega)]; rfl
  · rw [told_z (x := x) (by omega), told_z (by omega)]; rfl
theorem ssq_p {x : Int} (h : 0 ≤ x) : ssq x = x * x := by unfold ssq; rw [if_neg (by omega)]
theorem ssq_n {x : Int} (h : x < 0) : ssq x = -(x * x) := by unfold ssq; rw [if_pos h, Int.mul_neg]
section
variable {S M a c A C w : Int}
def Gp (w a c : Int) : Int := if sg w * sg (a + c) ≥ 0 then sg (sg w + sg (a + c)) else sg w * sg (ssq (w * w - a - c) - 4 * (a * c))
def Gm (w a c : Int) : Int := if sg w * sg (a - c) ≥ 0 then sg (sg w + sg (a - c)) else sg w * sg (ssq (w * w - a - c) + 4 * (a * c))
theorem rt0 (h : Scl S M) (r : Rtf (S * S) 0 A) : A = 0 := by
  have h0 : Rtf (S * S) 0 0 := ⟨Int.le_refl _, by simp, by simp⟩
  exact r.uniq h0
theorem pp (h : Scl S M) (ha : 0 ≤ a) (hc : 0 ≤ c) (haM : a ≤ M * M) (hcM : c ≤ M * M) (ra : Rtf (S * S) a A) (rc : Rtf (S * S) c C) (hw0 : -M ≤ w) (hw1 : w ≤ M) : told (w * S + A + C) = Gp w a c := by
  have m1 := h.m1
  have p := h.pos
  have a0 := ra.nn
  have c0 := rc.nn
  unfold Gp
  by_cases w0 : 0 < w
  · have : 1 * S ≤ w * S := Int.mul_le_mul_of_nonneg_right (by omega) (by omega)
    rw [told_p (by omega), sg_p w0]
    rcases Int.lt_or_eq_of_le (show 0 ≤ a + c by omega) with g | g
    · rw [sg_p g]; rfl
    · rw [sg_z g.symm]; rfl
  by_cases wz : w = 0
  · subst wz
    by_cases a1 : 1 ≤ a
    · have := ra.ge h a1
      rw [told_p (by omega), sg_p (show 0 < a + c by omega)]; rfl
    by_cases c1 : 1 ≤ c
    · have := rc.ge h c1
      rw [told_p (by omega), sg_p (show 0 < a + c by omega)]; rfl
    have ea : a = 0 := by omega
    have ec : c = 0 := by omega
    subst ea ec
    rw [rt0 h ra, rt0 h rc, Int.zero_mul]
    rfl
  have wn : w < 0 := by omega
  have ws : w * S ≤ -1 * S := Int.mul_le_mul_of_nonneg_right (by omega) (by omega)
  rw [sg_n wn]
  by_cases ac : a + c = 0
  · have ea : a = 0 := by omega
    have ec : c = 0 := by omega
    subst ea ec
    rw [rt0 h ra, rt0 h rc, told_n (by omega)]
    rfl
  rw [sg_p (show 0 < a + c by omega), if_neg (by decide)]
  have e1 : w * S + A + C = -(-w * S - A - C) := by grind
  have e2 : w * w - a - c = -w * -w - a - c := by grind
  rw [e1, told_neg, e2]
  have hac : 0 ≤ a * c := Int.mul_nonneg ha hc
  generalize ee : -w * -w - a - c = e at *
  rcases Int.lt_trichotomy (ssq e - 4 * (a * c)) 0 with g | g | g
  · have k : e < 0 ∨ (0 ≤ e ∧ e * e + 1 ≤ 4 * (a * c)) := by
      by_cases e0 : e < 0
      · exact .inl e0
      · rw [ssq_p (by omega)] at g
        exact .inr ⟨by omega, by omega⟩
    rw [sg_n g, told_n (L2 h ha hc ra rc (by omega) (by omega) (by rw [ee]; exact k))]
    rfl
  · have e0 : 0 ≤ e := by
      by_cases e0 : e < 0
      · rw [ssq_n e0] at g
        have : 0 < e * e := Int.mul_pos_of_neg_of_neg e0 e0
        omega
      · omega
    rw [ssq_p e0] at g
    rw [sg_z (show ssq e - 4 * (a * c) = 0 by rw [ssq_p e0]; exact g), told_z (L3 h ha hc ra rc (by omega) (by rw [ee]; exact e0) (by rw [ee]; omega))]
    rfl
  · have e0 : 0 < e := by
      by_cases e0 : e < 0
      · rw [ssq_n e0] at g
        have : 0 < e * e := Int.mul_pos_of_neg_of_neg e0 e0
        omega
      · by_cases e1 : e = 0
        · subst e1
          rw [show ssq 0 = 0 from rfl] at g
          omega
        · omega
    rw [sg_p g]
    rw [ssq_p (by omega)] at g
    rw [told_p (L1 h ha hc haM hcM ra rc (by omega) (by omega) (by rw [ee]; exact e0) (by rw [ee]; omega))]
    rfl
theorem Gm_neg (w a c : Int) : Gm (-w) c a = -Gm w a c := by
  unfold Gm
  rw [sg_neg, show c - a = -(a - c) by omega, sg_neg, Int.neg_mul_neg, show -w * -w - c - a = w * w - a - c by grind, Int.mul_comm c a]
  by_cases g : sg w * sg (a - c) ≥ 0
  · rw [if_pos g, if_pos g, show -sg w + -sg (a - c) = -(sg w + sg (a - c)) by omega, sg_neg]
  · rw [if_neg g, if_neg g, Int.neg_mul]
/-- the whole number and the lesser root against the greater -/
theorem pm1 (h : Scl S M) (ha : 0 ≤ a) (hc : 0 ≤ c) (haM : a ≤ M * M) (hcM : c ≤ M * M) (ra : Rtf (S * S) a A) (rc : Rtf (S * S) c C) (w0 : 0 < w) (hw1 : w ≤ M) (hac : a < c) : told (w * S + A - C) = sg (ssq (w * w - a - c) + 4 * (a * c)) := by
  have hp : 0 ≤ a * c := Int.mul_nonneg ha hc
  generalize ee : w * w - a - c = e at *
  rcases Int.lt_trichotomy (ssq e + 4 * (a * c)) 0 with g | g | g
  · have e0 : e < 0 := by
      by_cases e0 : e < 0
      · exact e0
      · rw [ssq_p (by omega)] at g
        have : 0 ≤ e * e := Int.mul_nonneg (by omega) (by omega)
        omega
    rw [sg_n g]
    rw [ssq_n e0] at g
    exact told_n (L5 h ha hc haM hcM (by omega) ra rc w0 hw1 (by rw [ee]; exact e0) (by rw [ee]; omega))
  · have e0 : e ≤ 0 := by
      by_cases e0 : e ≤ 0
      · exact e0
      · rw [ssq_p (by omega)] at g
        have : 0 < e * e := Int.mul_pos (by omega) (by omega)
        omega
    rw [sg_z g]
    have g2 : e * e = 4 * (a * c) := by
      by_cases e1 : e < 0
      · rw [ssq_n e1] at g; omega
      · have : e = 0 := by omega
        subst this
        rw [show ssq 0 = 0 from rfl] at g
        omega
    exact told_z (L6 h ha hc (by omega) ra rc w0 (by rw [ee]; exact e0) (by rw [ee]; exact g2))
  · rw [sg_p g]
    refine told_p (L4 h ha hc haM hcM ra rc w0 ?_)
    rw [ee]
    by_cases e0 : 0 < e
    · exact .inl e0
    · refine .inr ⟨by omega, ?_⟩
      by_cases e1 : e < 0
      · rw [ssq_n e1] at g; omega
      · have : e = 0 := by omega
        subst this
        rw [show ssq 0 = 0 from rfl] at g
        omega
theorem pm2 (h : Scl S M) (ha : 0 ≤ a) (hc : 0 ≤ c) (haM : a ≤ M * M) (hcM : c ≤ M * M) (ra : Rtf (S * S) a A) (rc : Rtf (S * S) c C) (w0 : 0 ≤ w) (hw1 : w ≤ M) (hz : 0 < w ∨ c ≤ a) : told (w * S + A - C) = Gm w a c := by
  have m1 := h.m1
  have p := h.pos
  have t0 : 0 ≤ S * S := Int.mul_nonneg (by omega) (by omega)
  by_cases hac : a < c
  · have w1 : 0 < w := by omega
    rw [pm1 h ha hc haM hcM ra rc w1 hw1 hac]
    unfold Gm
    rw [sg_p w1, sg_n (show a - c < 0 by omega), if_neg (by decide), Int.one_mul]
  have hle := Rtf.mono t0 rc ra (show c ≤ a by omega)
  unfold Gm
  by_cases w1 : 0 < w
  · have : 1 * S ≤ w * S := Int.mul_le_mul_of_nonneg_right (by omega) (by omega)
    rw [told_p (by omega), sg_p w1]
    rcases Int.lt_or_eq_of_le (show 0 ≤ a - c by omega) with g | g
    · rw [sg_p g]; rfl
    · rw [sg_z g.symm]; rfl
  have wz : w = 0 := by omega
  subst wz
  by_cases hlt : c + 1 ≤ a
  · have := D1 h ra rc hcM hlt
    rw [told_p (by omega), sg_p (show 0 < a - c by omega)]; rfl
  · have e : a = c := by omega
    subst e
    have e2 := ra.uniq rc
    subst e2
    rw [told_z (by omega), sg_z (show a - a = 0 by omega)]; rfl
theorem pm (h : Scl S M) (ha : 0 ≤ a) (hc : 0 ≤ c) (haM : a ≤ M * M) (hcM : c ≤ M * M) (ra : Rtf (S * S) a A) (rc : Rtf (S * S) c C) (hw0 : -M ≤ w) (hw1 : w ≤ M) : told (w * S + A - C) = Gm w a c := by
  by_cases g : 0 < w ∨ (w = 0 ∧ c ≤ a)
  · exact pm2 h ha hc haM hcM ra rc (by omega) hw1 (by omega)
  · have k := pm2 h hc ha hcM haM rc ra (w := -w) (by omega) (by omega) (by omega)
    rw [Gm_neg, show -w * S + C - A = -(w * S + A - C) by grind, told_neg] at k
    omega
end
/-- both signs of the roots -/
theorem told_eq {S M w m u n l A C : Int} (h : Scl S M) (hu : 0 ≤ u) (hl : 0 ≤ l) (haM : m * m * u ≤ M * M) (hcM : n * n * l ≤ M * M) (ra : Rtf (S * S) (m * m * u) A) (rc : Rtf (S * S) (n * n * l) C) (hw0 : -M ≤ w) (hw1 : w ≤ M) :
    told (w * S + A * sg m - C * sg n) = swrs w m u (-n) l := by
  have mm : 0 ≤ m * m := by
    rcases Int.lt_or_le m 0 with g | g
    · exact Int.le_of_lt (Int.mul_pos_of_neg_of_neg g g)
    · exact Int.mul_nonneg g g
  have nn : 0 ≤ n * n := by
    rcases Int.lt_or_le n 0 with g | g
    · exact Int.le_of_lt (Int.mul_pos_of_neg_of_neg g g)
    · exact Int.mul_nonneg g g
  have ha : 0 ≤ m * m * u := Int.mul_nonneg mm hu
  have hc : 0 ≤ n * n * l := Int.mul_nonneg nn hl
  -- the shape of swrs
  have key : ∀ (x y z : Int), ssq m * u + ssq (-n) * l = x → ssq (-2 * m * -n) * (u * l) = y → swrs w m u (-n) l = if sg w * sg x ≥ 0 then sg (sg w + sg x) else sg w * sg (ssq (w * w - m * m * u - n * n * l) + y) := by
    intro x y z hx hy
    unfold swrs swr
    rw [hx, hy, show -n * -n * l = n * n * l by grind]
  have s1 : ∀ {x : Int}, 0 ≤ x → ssq x = x * x := fun h => ssq_p h
  have s2 : ∀ {x : Int}, x ≤ 0 → ssq x = -(x * x) := fun {x} h => by
    by_cases g : x < 0
    · exact ssq_n g
    · have : x = 0 := by omega
      subst this; rfl
  have sA : m = 0 → A = 0 := fun e => by subst e; exact rt0 h (by simpa using ra)
  have sC : n = 0 → C = 0 := fun e => by subst e; exact rt0 h (by simpa using rc)
  have A1 : 0 ≤ m → A * sg m = A := fun g => by
    by_cases e : m = 0
    · rw [sA e]; simp
    · rw [sg_p (by omega), Int.mul_one]
  have A2 : m ≤ 0 → A * sg m = -A := fun g => by
    by_cases e : m = 0
    · rw [sA e]; simp
    · rw [sg_n (by omega), Int.mul_neg, Int.mul_one]
  have C1 : 0 ≤ n → C * sg n = C := fun g => by
    by_cases e : n = 0
    · rw [sC e]; simp
    · rw [sg_p (by omega), Int.mul_one]
  have C2 : n ≤ 0 → C * sg n = -C := fun g => by
    by_cases e : n = 0
    · rw [sC e]; simp
    · rw [sg_n (by omega), Int.mul_neg, Int.mul_one]
  rcases Int.le_total 0 m with gm | gm
  · rcases Int.le_total 0 n with gn | gn
    · -- + -
      have hp : 0 ≤ m * n := Int.mul_nonneg gm gn
      rw [A1 gm, C1 gn, key (m * m * u - n * n * l) (4 * (m * m * u * (n * n * l))) 0 (by rw [s1 gm, s2 (by omega)]; grind) (by rw [show -2 * m * -n = 2 * (m * n) by grind, s1 (by omega)]; grind)]
      exact pm h ha hc haM hcM ra rc hw0 hw1
    · -- + +
      have hp : m * n ≤ 0 := Int.mul_nonpos_of_nonneg_of_nonpos gm gn
      rw [A1 gm, C2 gn, key (m * m * u + n * n * l) (-(4 * (m * m * u * (n * n * l)))) 0 (by rw [s1 gm, s1 (by omega)]; grind) (by rw [show -2 * m * -n = 2 * (m * n) by grind, s2 (by omega)]; grind), show w * S + A - -C = w * S + A + C by omega]
      have k := pp h ha hc haM hcM ra rc hw0 hw1
      rw [k]
      rfl
  · rcases Int.le_total 0 n with gn | gn
    · -- - -
      have hp : m * n ≤ 0 := Int.mul_nonpos_of_nonpos_of_nonneg gm gn
      rw [A2 gm, C1 gn, key (-(m * m * u + n * n * l)) (-(4 * (m * m * u * (n * n * l)))) 0 (by rw [s2 gm, s2 (by omega)]; grind) (by rw [show -2 * m * -n = 2 * (m * n) by grind, s2 (by omega)]; grind), show w * S + -A - C = -(-w * S + A + C) by grind, told_neg]
      have k := pp h ha hc haM hcM ra rc (w := -w) (by omega) (by omega)
      rw [k]
      unfold Gp
      rw [show -w * -w = w * w by grind, sg_neg w, sg_neg (m * m * u + n * n * l), Int.neg_mul, Int.mul_neg]
      by_cases g : -(sg w * sg (m * m * u + n * n * l)) ≥ 0
      · rw [if_pos g, if_pos g, show sg w + -sg (m * m * u + n * n * l) = -(-sg w + sg (m * m * u + n * n * l)) by omega, sg_neg]
      · rw [if_neg g, if_neg g, Int.neg_mul, Int.neg_neg]
        rfl
    · -- - +
      have hp : 0 ≤ m * n := Int.mul_nonneg_of_nonpos_of_nonpos gm gn
      rw [A2 gm, C2 gn, key (n * n * l - m * m * u) (4 * (m * m * u * (n * n * l))) 0 (by rw [s2 gm, s1 (by omega)]; grind) (by rw [show -2 * m * -n = 2 * (m * n) by grind, s1 (by omega)]; grind), show w * S + -A - -C = w * S + C - A by omega]
      have k := pm h hc ha hcM haM rc ra hw0 hw1
      rw [k]
      unfold Gm
      rw [show w * w - n * n * l - m * m * u = w * w - m * m * u - n * n * l by omega, Int.mul_comm (n * n * l)]
end Sp5
/-! GATES: what the order of a number with one root and a fraction says -/
namespace Sp5
open PySem PySem.Spec L2 Mth Sp1 Sp2 Sp3 Sp24
theorem ssq_odd (x : Int) : ssq (-x) = -ssq x := by
  rcases Int.lt_trichotomy x 0 with h | h | h
  · rw [ssq_n h, ssq_p (x := -x) (by omega)]; grind
  · subst h; rfl
  · rw [ssq_p (x := x) (by omega), ssq_n (x := -x) (by omega)]; grind
theorem swrs_swap (w m u n l : Int) : swrs (-w) n l (-m) u = -swrs w m u (-n) l := by
  unfold swrs swr
  rw [ssq_odd m, ssq_odd n, sg_neg w, show ssq n * l + -ssq m * u = -(ssq m * u + -ssq n * l) by grind, sg_neg (ssq m * u + -ssq n * l), Int.neg_mul_neg, show -w * -w - n * n * l - -m * -m * u = w * w - m * m * u - -n * -n * l by grind, show -2 * n * -m = -2 * m * -n by grind, Int.mul_comm l u]
  by_cases g : sg w * sg (ssq m * u + -ssq n * l) ≥ 0
  · rw [if_pos g, if_pos g, show -sg w + -sg (ssq m * u + -ssq n * l) = -(sg w + sg (ssq m * u + -ssq n * l)) by omega, sg_neg]
  · rw [if_neg g, if_neg g, Int.neg_mul]
theorem ro_swap (a0 a1 a2 a3 b0 b1 b2 b3 : Int) : ro b0 b1 b2 b3 a0 a1 a2 a3 = 0 - ro a0 a1 a2 a3 b0 b1 b2 b3 := by
  unfold ro
  have h := swrs_swap (a0 * b3 - b0 * a3) (a1 * b3) a2 (b1 * a3) b2
  rw [Int.neg_mul a1 b3, Int.neg_mul b1 a3, show b0 * a3 - a0 * b3 = -(a0 * b3 - b0 * a3) by omega, h]
  omega
theorem ro_self (a0 a1 a2 a3 : Int) : ro a0 a1 a2 a3 a0 a1 a2 a3 = 0 := by
  have h := ro_swap a0 a1 a2 a3 a0 a1 a2 a3
  omega
theorem swrs1 (W m u : Int) : swrs W m u 0 0 = if sg W * sg (ssq m * u) ≥ 0 then sg (sg W + sg (ssq m * u)) else sg W * sg (W * W - m * m * u) := by
  unfold swrs swr
  have e0 : ssq (0 : Int) = 0 := rfl
  have sq : ∀ e : Int, sg (ssq e) = sg e := fun e => by
    rcases Int.lt_trichotomy e 0 with h | h | h
    · rw [ssq_n h, sg_n h, sg_n (by have := Int.mul_pos_of_neg_of_neg h h; omega)]
    · subst h; rfl
    · rw [ssq_p (by omega), sg_p h, sg_p (Int.mul_pos h h)]
  have e1 : -2 * m * 0 = 0 := by omega
  have e2 : ssq m * u + 0 * 0 = ssq m * u := by omega
  have e3 : W * W - m * m * u - 0 * 0 * 0 = W * W - m * m * u := by omega
  rw [e1, e0, e2, e3, show ssq (W * W - m * m * u) + 0 * (u * 0) = ssq (W * W - m * m * u) by omega, sq]
/-- W + w√U -/
theorem one_p {W w U : Int} (hw : 0 < w) (hU : 0 ≤ U) : (swrs W w U 0 0 < 0 ↔ W < 0 ∧ w * w * U < W * W) ∧ (swrs W w U 0 0 = 0 ↔ W ≤ 0 ∧ W * W = w * w * U) ∧ (0 < swrs W w U 0 0 ↔ 0 < W ∨ W * W < w * w * U) := by
  rw [swrs1, ssq_p (show 0 ≤ w by omega)]
  have ww : 0 < w * w := Int.mul_pos hw hw
  have wu : 0 ≤ w * w * U := Int.mul_nonneg (by omega) hU
  generalize w * w * U = V at *
  have WW : 0 < W → 0 < W * W := fun h => Int.mul_pos h h
  have WN : W < 0 → 0 < W * W := fun h => Int.mul_pos_of_neg_of_neg h h
  rcases Int.lt_trichotomy W 0 with h | h | h
  · have k := WN h
    rw [sg_n h]
    rcases Int.lt_or_eq_of_le wu with g | g
    · rw [sg_p g, if_neg (by decide)]
      rcases Int.lt_trichotomy (W * W - V) 0 with d | d | d
      · rw [sg_n d]; omega
      · rw [sg_z d]; omega
      · rw [sg_p d]; omega
    · rw [← g]
      show (sg (-1 + sg 0) < 0 ↔ _) ∧ (sg (-1 + sg 0) = 0 ↔ _) ∧ (0 < sg (-1 + sg 0) ↔ _)
      rw [show sg (-1 + sg 0) = -1 from rfl]
      omega
  · subst h
    rw [show sg 0 = 0 from rfl, Int.zero_mul, if_pos (by decide), Int.zero_add, Int.zero_mul]
    rcases Int.lt_or_eq_of_le wu with g | g
    · rw [sg_p g, show sg 1 = 1 from rfl]; omega
    · rw [← g, show sg (sg 0) = 0 from rfl]; omega
  · have k := WW h
    rw [sg_p h]
    rcases Int.lt_or_eq_of_le wu with g | g
    · rw [sg_p g, if_pos (by decide), show sg (1 + 1) = 1 from rfl]; omega
    · rw [← g, show sg 0 = 0 from rfl, if_pos (by decide), show sg (1 + 0) = 1 from rfl]; omega
/-- W - w√U -/
theorem one_n {W w U : Int} (hw : 0 < w) (hU : 0 ≤ U) : (0 < swrs W (-w) U 0 0 ↔ 0 < W ∧ w * w * U < W * W) ∧ (swrs W (-w) U 0 0 = 0 ↔ 0 ≤ W ∧ W * W = w * w * U) ∧ (swrs W (-w) U 0 0 < 0 ↔ W < 0 ∨ W * W < w * w * U) := by
  have k := one_p (W := -W) hw hU
  have e : swrs W (-w) U 0 0 = -swrs (-W) w U 0 0 := by
    rw [swrs1, swrs1, sg_neg W, ssq_n (show -w < 0 by omega), show -w * -w = w * w by grind, show -W * -W = W * W by grind, ssq_p (show 0 ≤ w by omega), Int.neg_mul, sg_neg (w * w * U), Int.neg_mul, Int.mul_neg]
    by_cases g : -(sg W * sg (w * w * U)) ≥ 0
    · rw [if_pos g, if_pos g, show sg W + -sg (w * w * U) = -(-sg W + sg (w * w * U)) by omega, sg_neg]
    · rw [if_neg g, if_neg g, Int.neg_mul, Int.neg_neg]
  rw [show -W * -W = W * W by grind] at k
  rw [e]
  omega
end Sp5
/-! GATES: where they are shut, and that their ends are right -/
namespace Sp5
open PySem PySem.Spec L2 Mth Sp1 Sp2 Sp3 Sp24
/-- a curve A t² - 2 B t + C, the square x / y, and what reach_of makes of them -/
structure Gv (A B C be x y P L U : Int) : Prop where
  pa : 0 < A
  py : 0 < y
  pb : be * be = A * C - B * B
  eP : P = B * y
  eL : L = A * y
  eU : U = y * (x * A - y * be * be)
section
variable {A B C be x y P L U : Int}
theorem Gv.kU (g : Gv A B C be x y P L U) : U = y * (x * A - (A * C - B * B) * y) := by
  rw [g.eU, show y * (x * A - y * be * be) = y * (x * A - y * (be * be)) by grind, g.pb]; grind
theorem pos_iff {k z : Int} (hk : 0 < k) : (0 < k * z ↔ 0 < z) ∧ (k * z = 0 ↔ z = 0) ∧ (k * z < 0 ↔ z < 0) := by
  rcases Int.lt_trichotomy z 0 with h | h | h
  · have := Int.mul_neg_of_pos_of_neg hk h
    omega
  · subst h; simp
  · have := Int.mul_pos hk h
    omega
theorem Gv.ya (g : Gv A B C be x y P L U) : 0 < y * A := Int.mul_pos g.py g.pa
theorem ro_frac (p q r s t w : Int) : ro p q r s t 0 0 w = swrs (p * w - t * s) (q * w) r 0 0 := by
  unfold ro
  rw [show -0 * s = 0 by omega]
/-- the three orders of part_within -/
theorem Gv.lowE (g : Gv A B C be x y P L U) : ro P (-1) U L 1 0 0 1 = swrs (P - L) (-1) U 0 0 := by rw [ro_frac]; congr 1 <;> omega
theorem Gv.lowB (g : Gv A B C be x y P L U) : ro P (-1) U L 0 0 0 1 = swrs P (-1) U 0 0 := by rw [ro_frac]; congr 1 <;> omega
theorem Gv.highE (g : Gv A B C be x y P L U) : ro P 1 U L 1 0 0 1 = swrs (P - L) 1 U 0 0 := by rw [ro_frac]; congr 1 <;> omega
theorem Gv.highB (g : Gv A B C be x y P L U) : ro P 1 U L 0 0 0 1 = swrs P 1 U 0 0 := by rw [ro_frac]; congr 1 <;> omega
theorem on_p {W U : Int} (hU : 0 ≤ U) : (swrs W 1 U 0 0 < 0 ↔ W < 0 ∧ U < W * W) ∧ (swrs W 1 U 0 0 = 0 ↔ W ≤ 0 ∧ W * W = U) ∧ (0 < swrs W 1 U 0 0 ↔ 0 < W ∨ W * W < U) := by
  have h := one_p (W := W) (w := 1) (by decide) hU
  rw [Int.one_mul, Int.one_mul] at h
  exact h
theorem on_n {W U : Int} (hU : 0 ≤ U) : (0 < swrs W (-1) U 0 0 ↔ 0 < W ∧ U < W * W) ∧ (swrs W (-1) U 0 0 = 0 ↔ 0 ≤ W ∧ W * W = U) ∧ (swrs W (-1) U 0 0 < 0 ↔ W < 0 ∨ W * W < U) := by
  have h := one_n (W := W) (w := 1) (by decide) hU
  rw [Int.one_mul, Int.one_mul] at h
  exact h
/-- the least square of the curve within 0 and 1, as top and bottom -/
def lstT (A B C : Int) : Int := if A = 0 ∨ B ≤ 0 then C else if B ≥ A then A - 2 * B + C else A * C - B * B
def lstB (A B : Int) : Int := if A = 0 ∨ B ≤ 0 then 1 else if B ≥ A then 1 else A
/-- not shut: three facts -/
structure Opn (A B C P L U : Int) : Prop where
  u : 0 ≤ U
  e : ¬ (0 < P - L ∧ U < (P - L) * (P - L))
  b : ¬ (P < 0 ∧ U < P * P)
theorem Gv.shut (g : Gv A B C be x y P L U) (n : ¬ (sg U < 0 ∨ ro 1 0 0 1 P (-1) U L < 0 ∨ ro P 1 U L 0 0 0 1 < 0)) : Opn A B C P L U := by
  have u : 0 ≤ U := by
    by_cases h : U < 0
    · exact absurd (.inl (by rw [sg_n h]; decide)) n
    · omega
  refine ⟨u, fun h => n (.inr (.inl ?_)), fun h => n (.inr (.inr ?_))⟩
  · rw [ro_swap P (-1) U L 1 0 0 1, g.lowE]
    have := (on_n u).1.mpr h
    omega
  · rw [g.highB]
    exact (on_p u).1.mpr h
theorem Gv.shut' (g : Gv A B C be x y P L U) (n : sg U < 0 ∨ ro 1 0 0 1 P (-1) U L < 0 ∨ ro P 1 U L 0 0 0 1 < 0) : U < 0 ∨ (0 < P - L ∧ U < (P - L) * (P - L)) ∨ (P < 0 ∧ U < P * P) := by
  by_cases u : U < 0
  · exact .inl u
  have u : 0 ≤ U := by omega
  rcases n with n | n | n
  · rcases Int.lt_or_eq_of_le u with h | h
    · rw [sg_p h] at n; omega
    · rw [← h] at n; exact absurd n (by decide)
  · rw [ro_swap P (-1) U L 1 0 0 1, g.lowE] at n
    exact .inr (.inl ((on_n u).1.mp (by omega)))
  · rw [g.highB] at n
    exact .inr (.inr ((on_p u).1.mp n))
/-- the ends as part_within tells them -/
def lowN (P U L : Int) : Int × Int × Int × Int := if ro P (-1) U L 0 0 0 1 < 0 then (0, 0, 0, 1) else (P, -1, U, L)
def highN (P U L : Int) : Int × Int × Int × Int := if ro P 1 U L 1 0 0 1 > 0 then (1, 0, 0, 1) else (P, 1, U, L)
end
end Sp5
/-! GATES WALKED: what lies within their ends -/
namespace Sp5
open PySem PySem.Spec L2 Mth Sp1 Sp2 Sp3 Sp24
abbrev N4 := Int × Int × Int × Int
def ltB (l : N4) (a b : Int) : Int := ro l.1 l.2.1 l.2.2.1 l.2.2.2 a 0 0 b
def gtB (m : N4) (a b : Int) : Int := ro a 0 0 b m.1 m.2.1 m.2.2.1 m.2.2.2
def withinB (o : Option (N4 × N4)) (a b : Int) : Bool := match o with
  | none => false
  | some (l, m) => decide (ltB l a b < 1) && decide (gtB m a b < 1)
def amidB (o : Option (N4 × N4)) (a b : Int) : Bool := match o with
  | none => false
  | some (l, m) => decide (ltB l a b = -1) && decide (gtB m a b = -1)
theorem gt_lt (m : N4) (a b : Int) : gtB m a b = 0 - ltB m a b := ro_swap _ _ _ _ _ _ _ _
theorem lt_01 {a b : Int} : ltB (0, 0, 0, 1) a b = sg (-a) ∧ ltB (1, 0, 0, 1) a b = sg (b - a) := by
  have h : ∀ W : Int, swrs W 0 0 0 0 = sg W := fun W => by
    rw [swrs1, show ssq 0 * 0 = 0 by omega, show sg 0 = 0 from rfl, Int.mul_zero, if_pos (by decide), Int.add_zero]
    rcases Int.lt_trichotomy W 0 with h | h | h
    · rw [sg_n h]; rfl
    · rw [sg_z h]; rfl
    · rw [sg_p h]; rfl
  unfold ltB
  dsimp only
  rw [ro_frac, ro_frac, Int.zero_mul, Int.mul_one, Int.one_mul, h, h]
  constructor
  · congr 1; omega
  · rfl
theorem sgn_lt1 {x : Int} : sg x < 1 ↔ x ≤ 0 := by
  rcases Int.lt_trichotomy x 0 with h | h | h
  · rw [sg_n h]; omega
  · rw [sg_z h]; omega
  · rw [sg_p h]; omega
section
variable {A B C be x y P L U a b : Int}
/-- the worth at a / b against the told square -/
theorem Gv.kt (g : Gv A B C be x y P L U) (a b : Int) : (P * b - a * L) * (P * b - a * L) - b * b * U = y * A * ((A * a * a - 2 * B * a * b + C * b * b) * y - x * (b * b)) := by
  rw [g.kU, g.eP, g.eL]; grind
theorem Gv.ct (g : Gv A B C be x y P L U) (a b : Int) : ((P * b - a * L) * (P * b - a * L) ≤ b * b * U ↔ (A * a * a - 2 * B * a * b + C * b * b) * y ≤ x * (b * b)) ∧ ((P * b - a * L) * (P * b - a * L) < b * b * U ↔ (A * a * a - 2 * B * a * b + C * b * b) * y < x * (b * b)) := by
  have h := pos_iff (z := (A * a * a - 2 * B * a * b + C * b * b) * y - x * (b * b)) g.ya
  rw [← g.kt a b] at h
  omega
theorem sq_up {u v : Int} (h0 : 0 ≤ u) (h : u ≤ v) : u * u ≤ v * v := Int.mul_le_mul h h h0 (by omega)
theorem Gv.lpos (g : Gv A B C be x y P L U) : 0 < L := by rw [g.eL]; exact Int.mul_pos g.pa g.py
theorem mulsq (b p : Int) : b * p * (b * p) = b * b * (p * p) := by grind
theorem Gv.wle (g : Gv A B C be x y P L U) (ha : 0 ≤ a) : P * b - a * L ≤ b * P := by
  have := Int.mul_nonneg ha (Int.le_of_lt g.lpos)
  rw [Int.mul_comm P b]
  omega
theorem Gv.wge (g : Gv A B C be x y P L U) (hab : a ≤ b) : b * (P - L) ≤ P * b - a * L := by
  have h := Int.mul_le_mul_of_nonneg_right hab (Int.le_of_lt g.lpos)
  rw [Int.mul_sub, Int.mul_comm b P]
  omega
theorem Gv.low_le (g : Gv A B C be x y P L U) (u0 : 0 ≤ U) (ha : 0 ≤ a) (hb : 0 < b) : (ltB (lowN P U L) a b < 1 ↔ ¬ (0 < P * b - a * L ∧ b * b * U < (P * b - a * L) * (P * b - a * L))) ∧ (ltB (lowN P U L) a b = -1 → P * b - a * L < 0 ∨ (P * b - a * L) * (P * b - a * L) < b * b * U) := by
  have bb : 0 < b * b := Int.mul_pos hb hb
  unfold lowN
  by_cases h : ro P (-1) U L 0 0 0 1 < 0
  · rw [if_pos h, lt_01.1]
    rw [g.lowB] at h
    have k := (on_n (W := P) u0).2.2.mp h
    have wle := g.wle (b := b) ha
    generalize P * b - a * L = W at *
    have key : W < 0 ∨ W * W < b * b * U := by
      by_cases hw : W < 0
      · exact .inl hw
      · have hP : ¬ P < 0 := fun z => by
          have := Int.mul_neg_of_pos_of_neg hb z
          omega
        have k2 : P * P < U := by omega
        have s1 := sq_up (show 0 ≤ W by omega) wle
        rw [mulsq] at s1
        have s2 := Int.mul_lt_mul_of_pos_left k2 bb
        exact .inr (by omega)
    refine ⟨⟨fun _ ⟨h1, h2⟩ => by omega, fun _ => ?_⟩, fun _ => key⟩
    exact sgn_lt1.mpr (by omega)
  · rw [if_neg h]
    show (ro P (-1) U L a 0 0 b < 1 ↔ _) ∧ (ro P (-1) U L a 0 0 b = -1 → _)
    rw [ro_frac, show -1 * b = -b by omega]
    have k := one_n (W := P * b - a * L) hb u0
    omega
theorem Gv.high_ge (g : Gv A B C be x y P L U) (u0 : 0 ≤ U) (hab : a ≤ b) (hb : 0 < b) : (gtB (highN P U L) a b < 1 ↔ ¬ (P * b - a * L < 0 ∧ b * b * U < (P * b - a * L) * (P * b - a * L))) ∧ (gtB (highN P U L) a b = -1 → 0 < P * b - a * L ∨ (P * b - a * L) * (P * b - a * L) < b * b * U) := by
  have bb : 0 < b * b := Int.mul_pos hb hb
  rw [gt_lt]
  unfold highN
  by_cases h : ro P 1 U L 1 0 0 1 > 0
  · rw [if_pos h, lt_01.2]
    rw [g.highE] at h
    have k := (on_p (W := P - L) u0).2.2.mp h
    have wge := g.wge (a := a) hab
    generalize P * b - a * L = W at *
    have key : 0 < W ∨ W * W < b * b * U := by
      by_cases hw : 0 < W
      · exact .inl hw
      · have hP : ¬ 0 < P - L := fun z => by
          have := Int.mul_pos hb z
          omega
        have k2 : (P - L) * (P - L) < U := by omega
        have s1 := sq_up (u := -W) (v := b * -(P - L)) (by omega) (by rw [Int.mul_neg]; omega)
        rw [mulsq, show -W * -W = W * W by grind, show -(P - L) * -(P - L) = (P - L) * (P - L) by grind] at s1
        have s2 := Int.mul_lt_mul_of_pos_left k2 bb
        exact .inr (by omega)
    refine ⟨⟨fun _ ⟨h1, h2⟩ => by omega, fun _ => ?_⟩, fun _ => key⟩
    have : 0 ≤ sg (b - a) := by
      rcases Int.lt_or_eq_of_le (show 0 ≤ b - a by omega) with z | z
      · rw [sg_p z]; decide
      · rw [← z]; decide
    omega
  · rw [if_neg h]
    show (0 - ro P 1 U L a 0 0 b < 1 ↔ _) ∧ (0 - ro P 1 U L a 0 0 b = -1 → _)
    rw [ro_frac, Int.one_mul]
    have k := one_p (W := P * b - a * L) hb u0
    omega
theorem sqx (x : Int) : 0 ≤ x * x := by
  rcases Int.le_total 0 x with h | h
  · exact Int.mul_nonneg h h
  · exact Int.mul_nonneg_of_nonpos_of_nonpos h h
/-- where the gate is shut no place of it is near enough -/
theorem Gv.far (g : Gv A B C be x y P L U) (n : U < 0 ∨ (0 < P - L ∧ U < (P - L) * (P - L)) ∨ (P < 0 ∧ U < P * P)) (ha : 0 ≤ a) (hab : a ≤ b) (hb : 0 < b) : b * b * U < (P * b - a * L) * (P * b - a * L) := by
  have bb : 0 < b * b := Int.mul_pos hb hb
  rcases n with n | ⟨n1, n2⟩ | ⟨n1, n2⟩
  · have h1 := Int.mul_neg_of_pos_of_neg bb n
    have h2 := sqx (P * b - a * L)
    omega
  · have wge := g.wge (a := a) hab
    have s1 := sq_up (u := b * (P - L)) (Int.mul_nonneg (by omega) (by omega)) wge
    rw [mulsq] at s1
    have s2 := Int.mul_lt_mul_of_pos_left n2 bb
    omega
  · have wle := g.wle (b := b) ha
    have s1 := sq_up (u := b * -P) (v := -(P * b - a * L)) (Int.mul_nonneg (by omega) (by omega)) (by rw [Int.mul_neg]; omega)
    rw [mulsq, show -P * -P = P * P by grind, show -(P * b - a * L) * -(P * b - a * L) = (P * b - a * L) * (P * b - a * L) by grind] at s1
    have s2 := Int.mul_lt_mul_of_pos_left n2 bb
    omega
end
end Sp5
/-! comprehensions over a tuple -/
namespace L2
open PySem PySem.Spec PyProof.Rows
theorem sqT_same {K : PySem.W.Frag} {H H' : Hp} {a : Addr} {xs : List V} (h : SqT K H a xs) (s : Same H H') : SqT K H' a xs := by
  rcases h with (h | ⟨o, h⟩) | h
  · exact .inl (.inl (s _ _ h))
  · exact .inl (.inr ⟨o, s _ _ h⟩)
  · exact .inr h
end L2
/-! a, b, c = x, y, z -/
namespace L2
open PySem PySem.Spec PyProof.Rows
def tPar3 (i j l : Nat) (ta : TA) : TS := fun D σ H => ta σ H fun vs H1 => ∃ v w z, vs = [v, w, z] ∧ D.nx (((σ.set i (some v)).set j (some w)).set l (some z)) H1
theorem ps_par3 {X : Cx} {pos : Pos} {i j l : Nat} {x y z : Str} {a b c : Expr} {ta : TA} {px py pz pt : Pos} {kt k2 pt2} (hc : X.calm = true) (hN : X.N.Nodup) (hi : X.N[i]? = some x) (hj : X.N[j]? = some y) (hl : X.N[l]? = some z) (hd : i ≠ j ∧ i ≠ l ∧ j ≠ l)
    (hx : X.env.scope.names.lookup x = some .local) (hy : X.env.scope.names.lookup y = some .local) (hz : X.env.scope.names.lookup z = some .local) (ha : PA X [a, b, c] ta)
    (hw : swappedStores [.Tuple [.Name x px, .Name y py, .Name z pz] kt pt] (.Tuple [a, b, c] k2 pt2) X.env = pure (some [x, y, z]))
    (hs : swapsWithSole [.Tuple [.Name x px, .Name y py, .Name z pz] kt pt] (.Tuple [a, b, c] k2 pt2) pos.line X.env = pure false := by rfl) :
    PS X (.Assign [.Tuple [.Name x px, .Name y py, .Name z pz] kt pt] (.Tuple [a, b, c] k2 pt2) pos) (tPar3 i j l ta) := by
  intro pins s σ H D I h
  rw [exec_Assign_arm]
  refine wpAny_bind (wpAny_standAt ?_)
  rw [hs]
  refine wpAny_bind (wpAny_pure ?_)
  rw [if_neg (by decide)]
  refine wpAny_bind (Tuple_ (thn (ha _ pins s σ H _ I h) fun us s1 ⟨vs, H1, I1, r1, q1⟩ => ?_))
  obtain ⟨v, w, t, e1, q1⟩ := q1
  subst e1
  obtain ⟨u1, u2, u3, rfl, rv, rw', rt⟩ : ∃ u1 u2 u3, us = [u1, u2, u3] ∧ RelV v u1 ∧ RelV w u2 ∧ RelV t u3 := by
    cases r1 with
    | cons p q =>
      cases q with
      | cons p' q' =>
        cases q' with
        | cons p2 q2 =>
          cases q2
          exact ⟨_, _, _, rfl, p, p', p2⟩
  refine wpAny_newObj_type ?_ (by show 3 ≤ sizeLine; decide)
  have I2 : Inv X pins σ H1 { s1 with heap := s1.heap.push { cls := .type "tuple", data := .seq [u1, u2, u3].toArray } } := I1.kept (t' := s1.toks) fun b o e => Heap.get?_push_of_some _ e
  rw [hw]
  refine wpAny_bind (wpAny_pure ?_)
  show wpAny (model X.prog X.w) X.A (do rule "assign.swapped-stores"; let items ← unpackItems (.ref s1.heap.objs.size) 3 none; assignInOrder [fun v => bindName X.env z v, fun v => bindName X.env y v, fun v => bindName X.env x v] items.reverse; pure Flow.next) _ _ _
  refine wpAny_bind (wpAny_rule (wpAny_bind (unpackItems_tuple (items := #[u1, u2, u3]) (I.ok.hd hc) (IsTup.new s1.heap _) fun h' hx' => ?_)))
  have I3 := I2.kept (h' := h') (t' := s1.toks) fun b o e => hx' b o (Nat.ne_of_lt (Heap.lt_size e)) e
  show wpAny _ _ (assignInOrder [fun v => bindName X.env z v, fun v => bindName X.env y v, fun v => bindName X.env x v] [u3, u2, u1] >>= fun _ => pure Flow.next) _ _ _
  refine wpAny_bind (assignInOrder_cons (wpAny_bindName (store_ok I3 hN hl (.inl hz) rt (fun s2 I4 => ?_) (.inr hz))))
  refine assignInOrder_cons (wpAny_bindName (store_ok I4 hN hj (.inl hy) rw' (fun s3 I5 => ?_) (.inr hy)))
  refine assignInOrder_cons (wpAny_bindName (store_ok I5 hN hi (.inl hx) rv (fun s4 I6 => assignInOrder_nil (wpAny_pure ?_)) (.inr hx)))
  have e : ((σ.set l (some t)).set j (some w)).set i (some v) = ((σ.set i (some v)).set j (some w)).set l (some t) := by
    rw [List.set_comm (i := l) (j := j) _ _ (Ne.symm hd.2.2), List.set_comm (i := l) (j := i) _ _ (Ne.symm hd.2.1), List.set_comm (i := j) (j := i) _ _ (Ne.symm hd.1)]
  rw [e] at I6
  exact ⟨_, H1, I6, q1⟩
end L2
/-! ### the head: the top's run, looked at once by the kernel -/
namespace Hd
open PySem PySem.W PySem.Spec L2
def live (o : Obj) : Bool := match o.data with
  | .freed => false
  | _ => true
def nums : Nat → List Obj → Frag
  | _, [] => []
  | n, a :: r => bif live a then (n, a) :: nums (n + 1) r else nums (n + 1) r
theorem nums_at : ∀ (l : List Obj) (n a : Nat) (o : Obj), (nums n l).lookup a = some o → n ≤ a ∧ l[a - n]? = some o ∧ live o = true
  | [], _, _, _, e => by cases e
  | x :: r, n, a, o, e => by
    have up : (nums (n + 1) r).lookup a = some o → n ≤ a ∧ (x :: r)[a - n]? = some o ∧ live o = true := fun e => by
      obtain ⟨h1, h2, h3⟩ := nums_at r (n + 1) a o e
      refine ⟨by omega, ?_, h3⟩
      have : a - n = (a - (n + 1)) + 1 := by omega
      rw [this]
      exact h2
    unfold nums at e
    cases hl : live x with
    | false =>
      rw [hl] at e
      exact up e
    | true =>
      rw [hl, cond_true, List.lookup_cons] at e
      cases hb : a == n with
      | true =>
        rw [hb] at e
        have hb := beq_iff_eq.mp hb
        subst hb
        cases e
        exact ⟨Nat.le_refl _, by simp, hl⟩
      | false =>
        rw [hb] at e
        exact up e
/-- all of a heap as a part written out -/
def frag (h : Heap) : Frag := nums 0 h.objs.toList
theorem frag_in (h : Heap) : (frag h).In h := by
  intro a o e
  obtain ⟨_, q, hl⟩ := nums_at _ _ _ _ e
  have q : h.objs[a]? = some o := by simpa using q
  unfold Heap.get?
  rw [q]
  obtain ⟨c, d, dt, sl⟩ := o
  cases dt <;> first | rfl | cases hl
/-- a def as it stands under its name -/
def fnFact (K : Frag) (x : Str) : Option (Arguments × List Stmt × Scope × Value) := match nsIn K mainGlobals x with
  | some (some (.ref f)) => (match K.lookup f with
    | some ⟨_, _, .func fd, _⟩ => (match fd.body, fd.closure with
      | .stmts b, [] => bif (fd.name == x && (fd.qualname == x && (Nat.beq fd.globals mainGlobals && (Nat.beq fd.builtins builtinsNs && codeIn K fd.code x)))) then some (fd.params, b, fd.scope, fd.defaults) else none
      | _, _ => none)
    | _ => none)
  | _ => none
theorem fnFact_spec {K : Frag} {x : Str} {a : Arguments} {b : List Stmt} {sc : Scope} {dv : Value} (e : fnFact K x = some (a, b, sc, dv)) :
    ∃ (f : Addr) (oc : Value) (od : Option Addr) (kV doc pm : Value) (an : Option Addr) (cdv ct : Value) (osl : Array (Option Value)),
      nsIn K mainGlobals x = some (some (.ref f)) ∧ K.lookup f = some ⟨oc, od, .func (fnOf x x a b sc dv kV doc pm an cdv ct), osl⟩ ∧ codeIn K cdv x = true ∧ keepIn K (.ref f) = true := by
  unfold fnFact at e
  split at e
  · rename_i f hf
    split at e
    · rename_i oc od fd osl hl
      split at e
      · rename_i b' hb hc
        cases hq : (fd.name == x && (fd.qualname == x && (Nat.beq fd.globals mainGlobals && (Nat.beq fd.builtins builtinsNs && codeIn K fd.code x)))) with
        | false => rw [hq] at e; cases e
        | true =>
          rw [hq] at e
          simp only [Bool.and_eq_true] at hq
          obtain ⟨h1, h2, h3, h4, h5⟩ := hq
          replace h1 := eq_of_beq h1
          replace h2 := eq_of_beq h2
          replace h3 := Nat.eq_of_beq_eq_true h3
          replace h4 := Nat.eq_of_beq_eq_true h4
          simp only [cond_true, Option.some.injEq, Prod.mk.injEq] at e
          obtain ⟨e1, e2, e3, e4⟩ := e
          obtain ⟨n, qn, ps, bd, s, gl, cl, df, kw, dc, pm, an, cd, ct, bl⟩ := fd
          simp only at h1 h2 h3 h4 h5 e1 e2 e3 e4 hb hc
          subst h1 h2 h3 h4 e1 e2 e3 e4 hb hc
          refine ⟨f, oc, od, kw, dc, pm, an, cd, ct, osl, hf, hl, h5, ?_⟩
          unfold keepIn
          dsimp only
          rw [hl]
      · cases e
    · cases e
  · cases e
theorem df_of {K : Frag} {mg : Str → Option Value} {h : Heap} {x : Str} {st : Stmt} (X : K.In h) (G : h.Ns mainGlobals mg) (e : fnFact K x = some (defArgs st, defBody st, defScope st, .none)) : Df K mg x st := by
  obtain ⟨f, oc, od, kV, doc, pm, an, cdv, ct, osl, h1, h2, h3, h4⟩ := fnFact_spec e
  exact df_mk X G h1 h2 h3 h4
/-- values without their tokens -/
def bareV : Value → V
  | .none => .non
  | .bool b => .bl b
  | .int i _ => .int i
  | .str x _ => .str x
  | .bytes b _ => .byt b
  | .float b _ => .flt b
  | .ref a => .ref a
  | .type n => .ty n
  | _ => .ty "no plain value"
def plainV : Value → Bool
  | .ellipsis | .notImplemented | .builtin _ => false
  | _ => true
theorem bareV_rel : ∀ {v : Value}, plainV v = true → RelV (bareV v) v
  | .none, _ => rfl
  | .bool _, _ => rfl
  | .int _ t, _ => ⟨t, rfl⟩
  | .str _ t, _ => ⟨t, rfl⟩
  | .bytes _ t, _ => ⟨t, rfl⟩
  | .float _ t, _ => ⟨t, rfl⟩
  | .ref _, _ => rfl
  | .type _, _ => rfl
  | .ellipsis, h => by cases h
  | .notImplemented, h => by cases h
  | .builtin _, h => by cases h
theorem vals_bare : ∀ {l : List Value}, l.all plainV = true → Vals (l.map bareV) l
  | [], _ => .nil
  | _ :: _, h => by
    rw [List.all_cons, Bool.and_eq_true] at h
    exact .cons (bareV_rel h.1) (vals_bare h.2)
/-- the items of a tuple or list that stands written out -/
def seqAt (K : Frag) (v : Value) : Option (List V) := match v with
  | .ref a => (match K.lookup a with
    | some ⟨_, _, .seq its _, _⟩ => bif its.toList.all plainV then some (its.toList.map bareV) else none
    | _ => none)
  | _ => none
/-- a def with defaults -/
def fnFactD (K : Frag) (x : Str) : Option (Arguments × List Stmt × Scope × List V) := match fnFact K x with
  | some (a, b, s, dv) => (match seqAt K dv with
    | some ds => some (a, b, s, ds)
    | none => none)
  | none => none
/-- the class under a name -/
def cls (K : Frag) (x : Str) : Addr := match nsIn K mainGlobals x with
  | some (some (.ref C)) => C
  | _ => 0
def excFact (K : Frag) (x : Str) : Bool := match nsIn K mainGlobals x with
  | some (some (.ref C)) => excIn K C [.type "ValueError", .type "Exception", .type "BaseException", .type "object"] "ValueError.__new__"
  | _ => false
theorem exc_of {K : Frag} {mg : Str → Option Value} {h : Heap} {x : Str} (X : K.In h) (G : h.Ns mainGlobals mg) (e : excFact K x = true) : ExcC K mg x (cls K x) := by
  unfold excFact at e
  split at e
  · rename_i C hC
    have : cls K x = C := by unfold cls; rw [hC]
    rw [this]
    exact exc_mk X G hC e
  · cases e
/-- a tuple under a name -/
def tupFact (K : Frag) (x : Str) : Option (List V) := match nsIn K mainGlobals x with
  | some (some (.ref a)) => (match K.lookup a with
    | some ⟨.type "tuple", _, .seq its _, _⟩ => bif its.toList.all plainV then some (its.toList.map bareV) else none
    | _ => none)
  | _ => none
theorem tup_of {K : Frag} {x : Str} {ds : List V} (e : tupFact K x = some ds) : ∃ (a : Addr) (od : Option Addr) (its : List Value) (n : Nat) (osl : Array (Option Value)), nsIn K mainGlobals x = some (some (.ref a)) ∧ K.lookup a = some ⟨.type "tuple", od, .seq its.toArray n, osl⟩ ∧ Vals ds its := by
  unfold tupFact at e
  split at e
  · rename_i a ha
    split at e
    · rename_i od its n osl hl
      cases hq : its.toList.all plainV with
      | false => rw [hq] at e; cases e
      | true =>
        rw [hq] at e
        cases e
        exact ⟨a, od, its.toList, n, osl, ha, hl, vals_bare hq⟩
    · cases e
  · cases e
/-- no global of that name -/
def noFact (K : Frag) (x : Str) : Bool := match nsIn K mainGlobals x with
  | some none => true
  | _ => false
theorem no_of {K : Frag} {x : Str} (e : noFact K x = true) : nsIn K mainGlobals x = some none := by
  unfold noFact at e
  split at e
  · rename_i h
    exact h
  · cases e
theorem at_map {α β : Type} {f g : α → β} {l : List α} (e : l.map f = l.map g) (i : Nat) {a : α} (h : l[i]? = some a) : f a = g a := by
  have q := congrArg (fun l : List β => l[i]?) e
  simp only [List.getElem?_map, h, Option.map_some, Option.some.injEq] at q
  exact q
theorem at_all {α : Type} {f : α → Bool} {l : List α} (e : l.all f = true) (i : Nat) {a : α} (h : l[i]? = some a) : f a = true :=
  List.all_eq_true.mp e a (List.mem_of_getElem? h)
/-- what the head has seen of the heap, kept -/
def hook {α : Type} (facts : Frag → α) (val : α) : Hook :=
  ⟨α, fun s => facts (frag s.heap), fun _ => val, fun _ h => ∃ K : Frag, K.In h ∧ facts K = val, fun _ s e => ⟨_, frag_in s.heap, e⟩, fun _ _ _ ⟨K, hi, e⟩ k => ⟨K, Frag.In.keeps hi k, e⟩⟩
theorem law_walk {l : OpenLaw} {k : Nat} {q : Program} {loose : List Str} {XP : (Str → Option Value) → Heap → Prop} {d : DefRec} {α : Type} {facts : Frag → α} {val : α} (hk : Room k callerA) (hn : l.most = some 63) (hdf : d.params.defaults = [])
    (F : ∀ (K : Frag), facts K = val → ∀ (w : World) (mg : Str → Option Value) (fa : Addr) (h : Heap), K.In h → h.Ns mainGlobals mg → mg d.name = some (.ref fa) →
      ∃ fd : FuncData, (∀ (s : Shared) (u : Value), BindsTo s fd ⟨[u], []⟩ [("script", u)]) ∧ ∀ base : Heap, K.In base → base.Ns mainGlobals mg → FnOk l.prog w K mg base CX0 k fa fd ["script"] (spLaw K)) :
    WalkO q loose XP (Hook.says (hook facts val)) l.row.toRowW d [] (fun f vs => PySem.call f vs) := by
  intro w s₀ s₁ mg mb G Y
  obtain ⟨K, hin, hf⟩ := Y
  exact L2.law_walk (l := l) (k := k) (q := q) (loose := loose) (XP := XP) (YP := fun _ h => K.In h) (d := d) (K := fun _ => K) hk hn hdf (fun _ _ y => y) (fun w mg fa h => F K hf w mg fa h) w s₀ s₁ mg mb G hin
end Hd
namespace Hd
open PySem PySem.W PySem.Spec L2
theorem vals_sz {ds : List V} {its : List Value} (u : Vals ds its) (h : ds.length ≤ 100) : its.toArray.size ≤ 100 := by
  rw [List.size_toArray, ← u.length]
  exact h
end Hd
/- a bound of a number's size -/
local macro_rules | `(tactic| walk_at "bt") => `(tactic| first
  | assumption
  | (apply L2.bits_mul <;> walk_at "bt")
  | (apply L2.bits_add2 <;> walk_at "bt")
  | (apply L2.bits_sub2 <;> walk_at "bt")
  | (apply L2.bits_neg; walk_at "bt")
  | (apply L2.bits_abs; walk_at "bt")
  | exact L2.bits_lit)
/- .. at most a written one -/
local macro_rules | `(tactic| walk_at "bl") => `(tactic| (apply L2.bits_of_le; (walk_at "bt"); decide))
local macro_rules | `(tactic| walk_at "cm") => `(tactic| first
  | exact L2.CM.l ⟨by decide, by decide⟩
  | exact L2.CM.r ⟨by decide, by decide⟩
  | (apply L2.CM.of; (walk_at "bt"); (walk_at "bt"); decide))
/- what stands at an address -/
local macro_rules | `(tactic| walk_at "at") => `(tactic| first
  | assumption
  | exact L2.upd_same
  | (refine L2.Same.at (by assumption) ?_; walk_at "at")
  | (refine L2.SameT.at (by assumption) ?_; walk_at "at"))
local macro_rules | `(tactic| walk_at "sm") => `(tactic| first
  | assumption
  | exact L2.Same.rfl'
  | (refine L2.Same.trans ?_ (by assumption); walk_at "sm"))
local macro_rules | `(tactic| walk_at "kn") => `(tactic| first
  | assumption
  | exact ⟨_, .int _⟩ | exact ⟨_, .bl _⟩ | exact ⟨_, .str _⟩ | exact ⟨_, .non⟩
  | exact ⟨_, .tup (by walk_at "at")⟩ | exact ⟨_, .lst (by walk_at "at")⟩ | exact ⟨_, .dict (by walk_at "at")⟩)
local macro_rules | `(tactic| walk_at "nice") => `(tactic| first
  | exact L2.nice_int | exact L2.nice_bool | exact L2.nice_tuple | exact L2.nice_list | exact L2.nice_str)
local macro_rules | `(tactic| walk_at "th") => `(tactic| first
  | assumption
  | exact Sp1.th_flat .non (fun p e => nomatch e) | exact Sp1.th_flat (.int _) (fun p e => nomatch e) | exact Sp1.th_flat (.bl _) (fun p e => nomatch e) | exact Sp1.th_flat (.str _) (fun p e => nomatch e)
  | exact Sp1.th_lst (by walk_at "at")
  | (refine' Sp1.th_tup ?hat ?hkn; (case hat => walk_at "at"); (case hkn => (simp only [List.mem_cons, List.not_mem_nil, or_false, forall_eq_or_imp, forall_eq, false_imp_iff, implies_true]; (try (first | (walk_at "kn") | (repeat' apply And.intro) <;> walk_at "kn")))))
  )
/- a step of the reading -/
local macro_rules | `(tactic| walk_at "r1") => `(tactic| first
  | (refine ⟨_, rfl, ?_⟩)
  | (refine ⟨_, _, rfl, rfl, ?_⟩)
  | (refine' ⟨_, _, _, _, rfl, rfl, L2.SqT.of ?hat, ?hix, ?nxt⟩; (case hat => walk_at "at"); (case hix => exact rfl))
  | (refine' ⟨_, _, _, _, rfl, rfl, L2.SqL.of ?hat, ?hix, ?nxt⟩; (case hat => walk_at "at"); (case hix => exact rfl))
  | (refine ⟨by walk_at "cm", ?_⟩)
  | (refine ⟨(by show (0 : Int) < _; decide), ?_⟩)
  | (refine ⟨⟨by decide, by decide⟩, ?_⟩)
  | (refine ⟨⟨by decide, by decide, by decide⟩, ?_⟩)
  | (refine ⟨Sp1.sz (by simp), fun _ _ _ _ _ => ?_⟩)
  | (refine ⟨Sp1.sz (by simp), L2.alloc fun _ _ _ _ => ?_⟩)
  | (refine' ⟨_, _, _, _, rfl, rfl, ?hat, ?hbt, Sp1.sz ?hsz, fun _ _ _ _ _ => ?nxt⟩; (case hat => walk_at "at"); (case hbt => walk_at "at"); (case hsz => simp))
  | (refine' ⟨_, _, _, _, rfl, rfl, ?hat, ?hbt, Sp1.sz ?hsz, L2.alloc fun _ _ _ _ => ?nxt⟩; (case hat => walk_at "at"); (case hbt => walk_at "at"); (case hsz => simp))
  | (refine' ⟨_, _, rfl, .inl (L2.SqL.of ?hat), ?nxt⟩; (case hat => walk_at "at"))
  | (refine' ⟨_, _, rfl, .inr (L2.SqT.of ?hat), ?nxt⟩; (case hat => walk_at "at"))
  | (refine' L2.alloc fun _ _ _ _ => ?nxt))
local macro_rules | `(tactic| walk_at "rd") => `(tactic| repeat (walk_at "r1"))
namespace K23
open PySem PySem.Spec L2 Mth Sp1 Sp2 Sp3 Sp24 Sp5
def top (i : Nat) : Stmt := PySem.Challenge.pw_oneleash_k23_gates_walked.main.body.getD i (.Pass ⟨0, 0, 0, 0⟩)
structure Txt (mg : Str → Option Value) : Prop where
  z_abs : mg "abs" = none
  z_bool : mg "bool" = none
  z_int : mg "int" = none
  z_isinstance : mg "isinstance" = none
  z_len : mg "len" = none
  z_range : mg "range" = none
  z_tuple : mg "tuple" = none
section
variable {P : Program} {w : World} {K : PySem.W.Frag} {mg : Str → Option Value} {base : Heap}
theorem S_is_whole : FnScope ["thing"] ["thing"] (defScope (top 4)) := ⟨rfl, rfl, rfl, by decide +kernel, rfl, by decide +kernel, by decide +kernel⟩
theorem fn_is_whole (D_is_whole : Df K mg "is_whole" (top 4)) (T : Txt mg) : Fn P w K mg base "is_whole" ["thing"] 1 spWhole := by
  refine D_is_whole.fn S_is_whole (fun _ _ _ _ _ _ us hl => match us, hl with | [_], _ => rfl) (fun vs H Q E h => ?_) (fun f cdv A outer s H vs Q E hr h => ?_)
  · obtain ⟨x, t, rfl, _⟩ := h
    rfl
  · obtain ⟨x, t, rfl, k, q⟩ := h
    refine ⟨_, (pss_one (ps_ret (pe_and (pe_callB call_isinst (by rfl) T.z_isinstance bt_isinstance (pa_cons (pv 0) (pa_cons (pe_ty T.z_int bt_int) pa_nil))) (pe_one (pe_not (pe_callB call_isinst (by rfl) T.z_isinstance bt_isinstance (pa_cons (pv 0) (pa_cons (pe_ty T.z_bool bt_bool) pa_nil)))))))), ?_⟩
    refine ⟨_, rfl, x, t, "int", rfl, k, .inl rfl, _, rfl, ?_⟩
    refine ite3 (fun hc => ?_) (fun hc => ?_)
    · refine ⟨_, rfl, x, t, "bool", rfl, k, .inr (.inl rfl), _, rfl, ?_⟩
      rw [(whole_sub k).1 hc]
      exact q
    · rw [(whole_sub k).2 hc] at q
      exact q
theorem S_common_divisor : FnScope ["one", "other", "rest"] ["one", "other"] (defScope (top 5)) := ⟨rfl, rfl, rfl, by decide +kernel, rfl, by decide +kernel, by decide +kernel⟩
theorem fn_common_divisor (D_common_divisor : Df K mg "common_divisor" (top 5)) (T : Txt mg) : Fn P w K mg base "common_divisor" ["one", "other"] 1 spGcd := by
  refine D_common_divisor.fn S_common_divisor (fun _ _ _ _ _ _ us hl => match us, hl with | [_, _], _ => rfl) (fun vs H Q E h => ?_) (fun f cdv A outer s H vs Q E hr h => ?_)
  · obtain ⟨a, b, rfl, _⟩ := h
    rfl
  · obtain ⟨a, b, rfl, q⟩ := h
    refine ⟨_, (pss_cons (ps_set (i := 0) S_common_divisor.nd rfl (Or.inl rfl) (pe_callB call_abs (by rfl) T.z_abs bt_abs (pa_cons (pv 0) pa_nil))) (pss_cons (ps_set (i := 1) S_common_divisor.nd rfl (Or.inl rfl) (pe_callB call_abs (by rfl) T.z_abs bt_abs (pa_cons (pv 1) pa_nil))) (pss_cons (ps_while PassesOwn.never (pt_cmpR op_ne (pv 1) pe_int (nomark _)) (pss_cons (ps_set (i := 2) S_common_divisor.nd rfl (Or.inl rfl) (pe_op op_mod (pv 0) (pv 1))) (pss_cons (ps_set (i := 0) S_common_divisor.nd rfl (Or.inl rfl) (pv 1)) (pss_one (ps_set (i := 1) S_common_divisor.nd rfl (Or.inl rfl) (pv 2)))))) (pss_one (ps_ret (pv 0)))))), ?_⟩
    refine ⟨_, rfl, a, rfl, _, rfl, b, rfl, ?_⟩
    refine while_by (fun σ H' => ∃ x y r, σ = [some (.int x), some (.int y), r] ∧ H' = H ∧ 0 ≤ x ∧ 0 ≤ y ∧ Int.gcd x y = Int.gcd a b)
      (fun σ _ => match σ with | [_, some (.int y), _] => y.toNat | _ => 0) ⟨_, _, _, rfl, rfl, abs_nonneg a, abs_nonneg b, by rw [gcd_abs, gcd_abs']⟩ ?_ ?_
    · rintro σ H' ⟨x, y, r, rfl, rfl, hx, hy, hg⟩
      refine ⟨_, rfl, rfl, _, rfl, ?_⟩
      refine ite3 (fun hc => ?_) (fun hc => ?_)
      · have hy0 : ¬ y = 0 := by simpa using hc
        have hy1 : 0 < y := by omega
        refine ⟨_, rfl, _, rfl, x, y, rfl, rfl, hy1, _, rfl, _, rfl, ⟨y, x % y, _, rfl, rfl, hy, Int.emod_nonneg _ hy0, ?_⟩, ?_⟩
        · rw [gcd_step hx hy1]
          exact hg
        · have h1 := Int.emod_lt_of_pos x hy1
          have h2 := Int.emod_nonneg x hy0
          show (x % y).toNat < y.toNat
          omega
      · have hy0 : y = 0 := by simpa using hc
        subst hy0
        refine ⟨_, rfl, ?_⟩
        have e : (Int.gcd a b : Int) = x := by rw [← hg]; exact gcd_zero hx
        rw [e] at q
        exact q
    · rintro σ H' Q1 Q2 hq ⟨v, e, hs, k, ek, r⟩
      exact ⟨v, e, hs, k, ek, hq _ _ r⟩
theorem S_is_ratio : FnScope ["thing"] ["thing"] (defScope (top 6)) := ⟨rfl, rfl, rfl, by decide +kernel, rfl, by decide +kernel, by decide +kernel⟩
theorem fn_is_ratio (D_is_ratio : Df K mg "is_ratio" (top 6)) (F_is_whole : Fn P w K mg base "is_whole" ["thing"] 1 spWhole) (F_common_divisor : Fn P w K mg base "common_divisor" ["one", "other"] 1 spGcd) (T : Txt mg) : Fn P w K mg base "is_ratio" ["thing"] 2 spLow := by
  refine D_is_ratio.fn S_is_ratio (fun _ _ _ _ _ _ us hl => match us, hl with | [_], _ => rfl) (fun vs H Q E h => ?_) (fun f cdv A outer s H vs Q E hr h => ?_)
  · obtain ⟨x, rfl, _⟩ := h
    rfl
  · obtain ⟨x, rfl, th, q⟩ := h
    obtain ⟨t, k⟩ := th.kn
    refine ⟨_, (pss_cons (ps_if (pw_or (pt_not (pt_val (pe_callB call_isinst (by rfl) T.z_isinstance bt_isinstance (pa_cons (pv 0) (pa_cons (pe_ty T.z_tuple bt_tuple) pa_nil))))) (pw_or1 (pt_cmpR op_ne (pe_callB call_len_seq (by rfl) T.z_len bt_len (pa_cons (pv 0) pa_nil)) pe_int (nomark _)))).pt (pss_one (ps_ret pe_bl)) pss_nil) (pss_cons (ps_if (pw_or (pt_not (pt_val (pe_fn F_is_whole (hr.mono (by decide)) (by rfl) (pa_cons (pe_ix ix_tup (pv 0) pe_int (fun _ _ => rfl)) pa_nil)))) (pw_or1 (pt_not (pt_val (pe_fn F_is_whole (hr.mono (by decide)) (by rfl) (pa_cons (pe_ix ix_tup (pv 0) pe_int (fun _ _ => rfl)) pa_nil)))))).pt (pss_one (ps_ret pe_bl)) pss_nil) (pss_one (ps_ret (pe_and (pe_cmpR op_ge (pe_ix ix_tup (pv 0) pe_int (fun _ _ => rfl)) pe_int (nomark _)) (pe_one (pe_cmpR op_eq (pe_fn F_common_divisor (hr.mono (by decide)) (by rfl) (pa_cons (pe_ix ix_tup (pv 0) pe_int (fun _ _ => rfl)) (pa_cons (pe_ix ix_tup (pv 0) pe_int (fun _ _ => rfl)) pa_nil))) pe_int (nomark _)))))))), ?_⟩
    refine ⟨_, rfl, x, t, "tuple", rfl, k, .inr (.inr (.inl rfl)), _, rfl, ?_⟩
    rcases Kn.cases_tup k with ⟨p, xs, rfl, e, rfl⟩ | ⟨hl, hs⟩
    · -- a tuple
      rw [lowV_tup e] at q
      refine iteF ?_
      refine ⟨_, rfl, p, xs, rfl, .inr (SqT.of e), rfl, _, rfl, ?_⟩
      refine ite3 (fun hc => ?_) (fun hc => ?_)
      · have hn : xs.length ≠ 2 := by
          intro z
          rw [z] at hc
          exact absurd hc (by decide)
        rw [lowL_len hn] at q
        exact q
      · have hn : xs.length = 2 := by
          have z : (xs.length : Int) = 2 := by simpa using hc
          omega
        match xs, hn, e, q with
        | [y, z], _, e, q =>
          obtain ⟨ty, ky⟩ := th.parts p _ rfl e y (by simp)
          obtain ⟨tz, kz⟩ := th.parts p _ rfl e z (by simp)
          refine ⟨_, rfl, p, _, _, _, rfl, rfl, SqT.of e, rfl, y, ty, rfl, ky, _, rfl, ?_⟩
          rcases Kn.cases_int ky with ⟨a, rfl, rfl⟩ | ⟨ny, ey⟩
          · refine iteF ?_
            refine ⟨_, rfl, p, _, _, _, rfl, rfl, SqT.of e, rfl, z, tz, rfl, kz, _, rfl, ?_⟩
            rcases Kn.cases_int kz with ⟨b, rfl, rfl⟩ | ⟨nz, ez⟩
            · refine iteF ?_
              refine ⟨_, rfl, p, _, _, _, rfl, rfl, SqT.of e, rfl, b, 1, rfl, rfl, _, rfl, ?_⟩
              have q' : Q (.bl (lowB a b)) H := q
              unfold lowB at q'
              refine ite3 (fun hc => ?_) (fun hc => ?_)
              · refine ⟨_, rfl, p, _, _, _, rfl, rfl, SqT.of e, rfl, _, rfl, p, _, _, _, rfl, rfl, SqT.of e, rfl, a, b, rfl, rfl, ?_⟩
                rw [hc, Bool.true_and] at q'
                have e1 : decide (V.int (Int.gcd a b : Int) = V.int 1) = decide (Int.gcd a b = 1) := by
                  rw [Bool.eq_iff_iff]
                  simp
                  omega
                rw [← e1] at q'
                exact q'
              · rw [hc, Bool.false_and] at q'
                exact q'
            · rw [ez, lowL_snd nz] at *
              exact q
          · rw [ey, lowL_fst ny] at *
            exact q
    · rw [hs]
      rw [hl] at q
      exact q
theorem S_sign_of : FnScope ["number"] ["number"] (defScope (top 8)) := ⟨rfl, rfl, rfl, by decide +kernel, rfl, by decide +kernel, by decide +kernel⟩
theorem fn_sign_of (D_sign_of : Df K mg "sign_of" (top 8)) : Fn P w K mg base "sign_of" ["number"] 1 spSign := by
  refine D_sign_of.fn S_sign_of (fun _ _ _ _ _ _ us hl => match us, hl with | [_], _ => rfl) (fun vs H Q E h => ?_) (fun f cdv A outer s H vs Q E hr h => ?_)
  · obtain ⟨n, rfl, _⟩ := h
    rfl
  · obtain ⟨n, rfl, q⟩ := h
    refine ⟨_, (pss_cons (ps_if (pt_cmpR op_gt (pv 0) pe_int (nomark _)) (pss_one (ps_ret pe_int)) pss_nil) (pss_cons (ps_if (pt_cmpR op_lt (pv 0) pe_int (nomark _)) (pss_one (ps_ret (pe_un un_neg pe_int))) pss_nil) (pss_one (ps_ret pe_int)))), ?_⟩
    unfold sg at q
    refine ⟨_, rfl, _, _, rfl, rfl, _, rfl, ite3 (fun h1 => ?_) (fun h1 => ?_)⟩
    · rw [if_pos (by simpa using h1)] at q
      exact q
    · rw [if_neg (by simpa using h1)] at q
      refine ⟨_, rfl, _, _, rfl, rfl, _, rfl, ite3 (fun h2 => ?_) (fun h2 => ?_)⟩
      · rw [if_pos (by simpa using h2)] at q
        exact ⟨_, rfl, q⟩
      · rw [if_neg (by simpa using h2)] at q
        exact q
theorem S_signed_square : FnScope ["number"] ["number"] (defScope (top 9)) := ⟨rfl, rfl, rfl, by decide +kernel, rfl, by decide +kernel, by decide +kernel⟩
theorem fn_signed_square (D_signed_square : Df K mg "signed_square" (top 9)) (T : Txt mg) : Fn P w K mg base "signed_square" ["number"] 1 spSsq := by
  refine D_signed_square.fn S_signed_square (fun _ _ _ _ _ _ us hl => match us, hl with | [_], _ => rfl) (fun vs H Q E h => ?_) (fun f cdv A outer s H vs Q E hr h => ?_)
  · obtain ⟨n, rfl, _⟩ := h
    rfl
  · obtain ⟨n, rfl, bn, q⟩ := h
    refine ⟨_, (pss_one (ps_ret (pe_op op_mulX (pv 0) (pe_callB call_abs (by rfl) T.z_abs bt_abs (pa_cons (pv 0) pa_nil))))), ?_⟩
    exact ⟨_, rfl, _, rfl, _, rfl, _, _, rfl, rfl, CM.b bn (bits_abs bn) (by decide) (by decide), q⟩
theorem S_sign_with_root : FnScope ["whole", "part", "under"] ["whole", "part", "under"] (defScope (top 10)) := ⟨rfl, rfl, rfl, by decide +kernel, rfl, by decide +kernel, by decide +kernel⟩
theorem fn_sign_with_root (D_sign_with_root : Df K mg "sign_with_root" (top 10)) (F_sign_of : Fn P w K mg base "sign_of" ["number"] 1 spSign) (F_signed_square : Fn P w K mg base "signed_square" ["number"] 1 spSsq) : Fn P w K mg base "sign_with_root" ["whole", "part", "under"] 2 spSwr := by
  refine D_sign_with_root.fn S_sign_with_root (fun _ _ _ _ _ _ us hl => match us, hl with | [_, _, _], _ => rfl) (fun vs H Q E h => ?_) (fun f cdv A outer s H vs Q E hr h => ?_)
  · obtain ⟨a, p, u, rfl, _⟩ := h
    rfl
  · obtain ⟨a, p, u, rfl, ⟨ba, bp, bu⟩, q⟩ := h
    refine ⟨_, (pss_one (ps_ret (pe_fn F_sign_of (hr.mono (by decide)) (by rfl) (pa_cons (pe_op op_add (pe_fn F_signed_square (hr.mono (by decide)) (by rfl) (pa_cons (pv 0) pa_nil)) (pe_op op_mulX (pe_fn F_signed_square (hr.mono (by decide)) (by rfl) (pa_cons (pv 1) pa_nil)) (pv 2))) pa_nil)))), ?_⟩
    exact ⟨_, rfl, a, rfl, bits_le ba (by decide), _, rfl, p, rfl, bits_le bp (by decide), _, rfl, _, _, rfl, rfl, CM.b (ssq_bits bp) bu (by decide) (by decide), _, _, rfl, rfl, _, rfl, q⟩
theorem S_sign_with_roots : FnScope ["whole", "part", "under", "share", "below", "roots", "even"] ["whole", "part", "under", "share", "below"] (defScope (top 11)) := ⟨rfl, rfl, rfl, by decide +kernel, rfl, by decide +kernel, by decide +kernel⟩
theorem fn_sign_with_roots (D_sign_with_roots : Df K mg "sign_with_roots" (top 11)) (F_sign_of : Fn P w K mg base "sign_of" ["number"] 1 spSign) (F_signed_square : Fn P w K mg base "signed_square" ["number"] 1 spSsq) (F_sign_with_root : Fn P w K mg base "sign_with_root" ["whole", "part", "under"] 2 spSwr) : Fn P w K mg base "sign_with_roots" ["whole", "part", "under", "share", "below"] 3 spSwrs := by
  refine D_sign_with_roots.fn S_sign_with_roots (fun _ _ _ _ _ _ us hl => match us, hl with | [_, _, _, _, _], _ => rfl) (fun vs H Q E h => ?_) (fun f cdv A outer s H vs Q E hr h => ?_)
  · obtain ⟨a, p, u, c, b, rfl, _⟩ := h
    rfl
  · obtain ⟨a, p, u, c, b, rfl, ⟨ba, bp, bu, bc, bb⟩, q⟩ := h
    refine ⟨_, (pss_cons (ps_set (i := 5) S_sign_with_roots.nd rfl (Or.inl rfl) (pe_fn F_sign_of (hr.mono (by decide)) (by rfl) (pa_cons (pe_op op_add (pe_op op_mulX (pe_fn F_signed_square (hr.mono (by decide)) (by rfl) (pa_cons (pv 1) pa_nil)) (pv 2)) (pe_op op_mulX (pe_fn F_signed_square (hr.mono (by decide)) (by rfl) (pa_cons (pv 3) pa_nil)) (pv 4))) pa_nil))) (pss_cons (ps_if (pt_cmpR op_ge (pe_op op_mulX (pe_fn F_sign_of (hr.mono (by decide)) (by rfl) (pa_cons (pv 0) pa_nil)) (pv 5)) pe_int (nomark _)) (pss_one (ps_ret (pe_fn F_sign_of (hr.mono (by decide)) (by rfl) (pa_cons (pe_op op_add (pe_fn F_sign_of (hr.mono (by decide)) (by rfl) (pa_cons (pv 0) pa_nil)) (pv 5)) pa_nil)))) pss_nil) (pss_cons (ps_set (i := 6) S_sign_with_roots.nd rfl (Or.inl rfl) (pe_op op_sub (pe_op op_sub (pe_op op_mulX (pv 0) (pv 0)) (pe_op op_mulX (pe_op op_mulX (pv 1) (pv 1)) (pv 2))) (pe_op op_mulX (pe_op op_mulX (pv 3) (pv 3)) (pv 4)))) (pss_one (ps_ret (pe_op op_mulX (pe_fn F_sign_of (hr.mono (by decide)) (by rfl) (pa_cons (pv 0) pa_nil)) (pe_fn F_sign_with_root (hr.mono (by decide)) (by rfl) (pa_cons (pv 6) (pa_cons (pe_op op_mulX (pe_op op_mulX (pe_un un_neg pe_int) (pv 1)) (pv 3)) (pa_cons (pe_op op_mulX (pv 2) (pv 4)) pa_nil)))))))))), ?_⟩
    refine ⟨_, rfl, p, rfl, bits_le bp (by decide), _, rfl, _, _, rfl, rfl, CM.b (ssq_bits bp) bu (by decide) (by decide), _, rfl, c, rfl, bits_le bc (by decide), _, rfl, _, _, rfl, rfl, CM.b (ssq_bits bc) bb (by decide) (by decide), _, _, rfl, rfl, _, rfl, ?_⟩
    unfold swrs at q
    refine ⟨_, rfl, a, rfl, _, rfl, _, _, rfl, rfl, CM.b (sg_bits _) (sg_bits _) (by decide) (by decide), _, _, rfl, rfl, _, rfl, ite3 (fun h1 => ?_) (fun h1 => ?_)⟩
    · rw [if_pos (by simpa using h1)] at q
      exact ⟨_, rfl, a, rfl, _, rfl, _, _, rfl, rfl, _, rfl, q⟩
    · rw [if_neg (by simpa using h1)] at q
      have m2 : ∀ {i j : Int}, bits i ≤ 1000 → bits j ≤ 1000 → bits (i * j) ≤ 2000 := fun hi hj => bits_mul hi hj
      have m3 : ∀ {i j : Int}, bits i ≤ 2000 → bits j ≤ 1000 → bits (i * j) ≤ 3000 := fun hi hj => bits_mul hi hj
      have cm : ∀ {i j : Int}, bits i ≤ 5000 → bits j ≤ 5000 → CM i j := fun hi hj => CM.b hi hj (by decide) (by decide)
      have w : ∀ {i : Int} {m : Nat}, bits i ≤ m → m ≤ 5000 → bits i ≤ 5000 := fun h hm => bits_le h hm
      have ba' := w ba (by decide)
      have bp' := w bp (by decide)
      have bc' := w bc (by decide)
      have bu' := w bu (by decide)
      have bb' := w bb (by decide)
      refine ⟨_, rfl, _, rfl, _, _, rfl, rfl, cm ba' ba', _, rfl, _, rfl, _, _, rfl, rfl, cm bp' bp', _, rfl, _, _, rfl, rfl, cm (w (m2 bp bp) (by decide)) bu', _, _, rfl, rfl, _, rfl, _, rfl, _, _, rfl, rfl, cm bc' bc', _, rfl, _, _, rfl, rfl, cm (w (m2 bc bc) (by decide)) bb', _, _, rfl, rfl, ?_⟩
      have b2 : bits (-2 : Int) ≤ 1000 := bits_le (bits_small (by decide) (by decide)) (by decide)
      have be : bits (a * a - p * p * u - c * c * b) ≤ 8000 := bits_le (bits_sub (n := 3001) (bits_sub (n := 3000) (bits_le (m2 ba ba) (by decide)) (m3 (m2 bp bp) bu)) (bits_le (m3 (m2 bc bc) bb) (by decide))) (by decide)
      refine ⟨_, rfl, a, rfl, _, rfl, _, rfl, _, rfl, _, _, rfl, rfl, cm (w b2 (by decide)) bp', _, rfl, _, _, rfl, rfl, cm (w (m2 b2 bp) (by decide)) bc', _, rfl, _, rfl, _, _, rfl, rfl, cm bu' bb', _, _, _, rfl, ⟨be, bits_le (m3 (m2 b2 bp) bc) (by decide), bits_le (m2 bu bb) (by decide)⟩, _, _, rfl, rfl, ?_, q⟩
      exact CM.l (by have := sg_small a; exact lt64s (by omega) (by omega))
theorem S_root_order : FnScope ["one", "other", "whole"] ["one", "other"] (defScope (top 12)) := ⟨rfl, rfl, rfl, by decide +kernel, rfl, by decide +kernel, by decide +kernel⟩
theorem fn_root_order (D_root_order : Df K mg "root_order" (top 12)) (F_sign_with_roots : Fn P w K mg base "sign_with_roots" ["whole", "part", "under", "share", "below"] 3 spSwrs) : Fn P w K mg base "root_order" ["one", "other"] 4 (spRo K) := by
  refine D_root_order.fn S_root_order (fun _ _ _ _ _ _ us hl => match us, hl with | [_, _], _ => rfl) (fun vs H Q E h => ?_) (fun f cdv A outer s H vs Q E hr h => ?_)
  · obtain ⟨p, q, a0, a1, a2, a3, b0, b1, b2, b3, rfl, _⟩ := h
    rfl
  · obtain ⟨p, q, a0, a1, a2, a3, b0, b1, b2, b3, rfl, ra, rb, k⟩ := h
    have cm : ∀ {i j : Int}, bits i ≤ 450 → bits j ≤ 450 → CM i j := fun hi hj => CM.b hi hj (by decide) (by decide)
    have m2 : ∀ {i j : Int}, bits i ≤ 450 → bits j ≤ 450 → bits (i * j) ≤ 900 := fun hi hj => bits_mul hi hj
    refine ⟨_, (pss_cons (ps_set (i := 2) S_root_order.nd rfl (Or.inl rfl) (pe_op op_sub (pe_op op_mulX (pe_ix ix_tup (pv 0) pe_int (fun _ _ => rfl)) (pe_ix ix_tup (pv 1) pe_int (fun _ _ => rfl))) (pe_op op_mulX (pe_ix ix_tup (pv 1) pe_int (fun _ _ => rfl)) (pe_ix ix_tup (pv 0) pe_int (fun _ _ => rfl))))) (pss_one (ps_ret (pe_fn F_sign_with_roots (hr.mono (by decide)) (by rfl) (pa_cons (pv 2) (pa_cons (pe_op op_mulX (pe_ix ix_tup (pv 0) pe_int (fun _ _ => rfl)) (pe_ix ix_tup (pv 1) pe_int (fun _ _ => rfl))) (pa_cons (pe_ix ix_tup (pv 0) pe_int (fun _ _ => rfl)) (pa_cons (pe_op op_mulX (pe_un un_neg (pe_ix ix_tup (pv 1) pe_int (fun _ _ => rfl))) (pe_ix ix_tup (pv 0) pe_int (fun _ _ => rfl))) (pa_cons (pe_ix ix_tup (pv 1) pe_int (fun _ _ => rfl)) pa_nil))))))))), ?_⟩
    refine ⟨_, rfl, p, _, _, _, rfl, rfl, ra.at_, rfl, _, rfl, q, _, _, _, rfl, rfl, rb.at_, rfl, _, _, rfl, rfl, cm ra.b0 rb.b3, _, rfl, q, _, _, _, rfl, rfl, rb.at_, rfl, _, rfl, p, _, _, _, rfl, rfl, ra.at_, rfl, _, _, rfl, rfl, cm rb.b0 ra.b3, _, _, rfl, rfl, ?_⟩
    refine ⟨_, rfl, _, rfl, p, _, _, _, rfl, rfl, ra.at_, rfl, _, rfl, q, _, _, _, rfl, rfl, rb.at_, rfl, _, _, rfl, rfl, cm ra.b1 rb.b3, _, rfl, p, _, _, _, rfl, rfl, ra.at_, rfl, _, rfl, q, _, _, _, rfl, rfl, rb.at_, rfl, _, rfl, _, rfl, p, _, _, _, rfl, rfl, ra.at_, rfl, _, _, rfl, rfl, cm (bits_neg rb.b1) ra.b3, _, rfl, q, _, _, _, rfl, rfl, rb.at_, rfl, ?_⟩
    exact ⟨_, _, _, _, _, rfl, ⟨bits_le (bits_sub (m2 ra.b0 rb.b3) (m2 rb.b0 ra.b3)) (by decide), bits_le (m2 ra.b1 rb.b3) (by decide), bits_le ra.b2 (by decide), bits_le (m2 (bits_neg rb.b1) ra.b3) (by decide), bits_le rb.b2 (by decide)⟩, k⟩
theorem S_leash_order : FnScope ["one", "other", "square", "across", "up"] ["one", "other", "square"] (defScope (top 17)) := ⟨rfl, rfl, rfl, by decide +kernel, rfl, by decide +kernel, by decide +kernel⟩
theorem fn_leash_order (D_leash_order : Df K mg "leash_order" (top 17)) (F_sign_of : Fn P w K mg base "sign_of" ["number"] 1 spSign) : Fn P w K mg base "leash_order" ["one", "other", "square"] 2 spLo := by
  refine D_leash_order.fn S_leash_order (fun _ _ _ _ _ _ us hl => match us, hl with | [_, _, _], _ => rfl) (fun vs H Q E h => ?_) (fun f cdv A outer s H vs Q E hr h => ?_)
  · obtain ⟨p, q, r, x, y, x', y', a, b, rfl, _⟩ := h
    rfl
  · obtain ⟨p, q, r, x, y, x', y', a, b, rfl, ⟨e1, b1, b2⟩, ⟨e2, b3, b4⟩, ⟨e3, b5, b6⟩, k⟩ := h
    refine ⟨_, (pss_cons (ps_set (i := 3) S_leash_order.nd rfl (Or.inl rfl) (pe_op op_sub (pe_ix ix_tup (pv 1) pe_int (fun _ _ => rfl)) (pe_ix ix_tup (pv 0) pe_int (fun _ _ => rfl)))) (pss_cons (ps_set (i := 4) S_leash_order.nd rfl (Or.inl rfl) (pe_op op_sub (pe_ix ix_tup (pv 1) pe_int (fun _ _ => rfl)) (pe_ix ix_tup (pv 0) pe_int (fun _ _ => rfl)))) (pss_one (ps_ret (pe_fn F_sign_of (hr.mono (by decide)) (by rfl) (pa_cons (pe_op op_sub (pe_ix ix_tup (pv 2) pe_int (fun _ _ => rfl)) (pe_op op_mulX (pe_op op_add (pe_op op_mulX (pv 3) (pv 3)) (pe_op op_mulX (pv 4) (pv 4))) (pe_ix ix_tup (pv 2) pe_int (fun _ _ => rfl)))) pa_nil)))))), ?_⟩
    walk_at "rd"
    exact k
theorem S_reach_of : FnScope ["corner", "begin", "end", "square", "across", "up", "away_across", "away_up", "length", "along", "beside", "under"] ["corner", "begin", "end", "square"] (defScope (top 18)) := ⟨rfl, rfl, rfl, by decide +kernel, rfl, by decide +kernel, by decide +kernel⟩
theorem fn_reach_of (D_reach_of : Df K mg "reach_of" (top 18)) : Fn P w K mg base "reach_of" ["corner", "begin", "end", "square"] 1 spReach := by
  refine D_reach_of.fn S_reach_of (fun _ _ _ _ _ _ us hl => match us, hl with | [_, _, _, _], _ => rfl) (fun vs H Q E h => ?_) (fun f cdv A outer s H vs Q E hr h => ?_)
  · obtain ⟨pc, pb, pe, ps, cx, cy, bx, by_, ex, ey, a, b, rfl, _⟩ := h
    rfl
  · obtain ⟨pc, pb, pe, ps, cx, cy, bx, by_, ex, ey, a, b, rfl, ⟨e1, b1, b2⟩, ⟨e2, b3, b4⟩, ⟨e3, b5, b6⟩, ⟨e4, b7, b8⟩, k⟩ := h
    refine ⟨_, (pss_cons (ps_set (i := 4) S_reach_of.nd rfl (Or.inl rfl) (pe_op op_sub (pe_ix ix_tup (pv 2) pe_int (fun _ _ => rfl)) (pe_ix ix_tup (pv 1) pe_int (fun _ _ => rfl)))) (pss_cons (ps_set (i := 5) S_reach_of.nd rfl (Or.inl rfl) (pe_op op_sub (pe_ix ix_tup (pv 2) pe_int (fun _ _ => rfl)) (pe_ix ix_tup (pv 1) pe_int (fun _ _ => rfl)))) (pss_cons (ps_set (i := 6) S_reach_of.nd rfl (Or.inl rfl) (pe_op op_sub (pe_ix ix_tup (pv 0) pe_int (fun _ _ => rfl)) (pe_ix ix_tup (pv 1) pe_int (fun _ _ => rfl)))) (pss_cons (ps_set (i := 7) S_reach_of.nd rfl (Or.inl rfl) (pe_op op_sub (pe_ix ix_tup (pv 0) pe_int (fun _ _ => rfl)) (pe_ix ix_tup (pv 1) pe_int (fun _ _ => rfl)))) (pss_cons (ps_set (i := 8) S_reach_of.nd rfl (Or.inl rfl) (pe_op op_add (pe_op op_mulX (pv 4) (pv 4)) (pe_op op_mulX (pv 5) (pv 5)))) (pss_cons (ps_set (i := 9) S_reach_of.nd rfl (Or.inl rfl) (pe_op op_add (pe_op op_mulX (pv 6) (pv 4)) (pe_op op_mulX (pv 7) (pv 5)))) (pss_cons (ps_set (i := 10) S_reach_of.nd rfl (Or.inl rfl) (pe_op op_sub (pe_op op_mulX (pv 6) (pv 5)) (pe_op op_mulX (pv 7) (pv 4)))) (pss_cons (ps_set (i := 11) S_reach_of.nd rfl (Or.inl rfl) (pe_op op_mulX (pe_ix ix_tup (pv 3) pe_int (fun _ _ => rfl)) (pe_op op_sub (pe_op op_mulX (pe_ix ix_tup (pv 3) pe_int (fun _ _ => rfl)) (pv 8)) (pe_op op_mulX (pe_op op_mulX (pe_ix ix_tup (pv 3) pe_int (fun _ _ => rfl)) (pv 10)) (pv 10))))) (pss_one (ps_ret (pe_tup (pa_cons (pe_op op_mulX (pv 9) (pe_ix ix_tup (pv 3) pe_int (fun _ _ => rfl))) (pa_cons (pv 11) (pa_cons (pe_op op_mulX (pv 8) (pe_ix ix_tup (pv 3) pe_int (fun _ _ => rfl))) pa_nil)))))))))))))), ?_⟩
    walk_at "rd"
    exact k _ _ (by assumption) (by assumption)
theorem S_look_at_square : FnScope ["square"] ["square"] (defScope (top 16)) := ⟨rfl, rfl, rfl, by decide +kernel, rfl, by decide +kernel, by decide +kernel⟩
theorem fn_look_at_square {C : Addr} (D_look_at_square : Df K mg "look_at_square" (top 16)) (O_NoSquare : ExcC K mg "NoSquare" C) (F_is_ratio : Fn P w K mg base "is_ratio" ["thing"] 2 spLow) : Fx P w K mg base "look_at_square" ["square"] 3 [] (spLookS C) := by
  refine D_look_at_square.fx S_look_at_square (fun _ _ _ _ _ _ us hl => match us, hl with | [_], _ => rfl) (fun vs H Q E h => ?_) (fun f cdv A outer s H vs Q E hr h => ?_)
  · obtain ⟨x, rfl, _⟩ := h
    rfl
  · obtain ⟨x, rfl, th, k0, k1⟩ := h
    refine ⟨_, (pss_one (ps_if (pw_or (pt_not (pt_val (pe_fn F_is_ratio (hr.mono (by decide)) (by rfl) (pa_cons (pv 0) pa_nil)))) (pw_or1 (pt_cmpR op_lt (pe_ix ix_tup (pv 0) pe_int (fun _ _ => rfl)) pe_int (nomark _)))).pt (pss_one (ps_raise O_NoSquare (by rfl))) pss_nil)), ?_⟩
    refine ⟨_, rfl, x, rfl, th, _, rfl, ?_⟩
    cases hl : lowV H x with
    | false => exact iteT (k0 (sqV_low hl))
    | true =>
      obtain ⟨p, a, b, rfl, e, lw⟩ := lowV_inv hl
      rw [sqV_two e, low_B lw, Bool.true_and] at k0 k1
      refine iteF ?_
      refine ⟨_, rfl, p, _, _, _, rfl, rfl, SqT.of e, rfl, _, _, rfl, rfl, _, rfl, ite3 (fun h1 => ?_) (fun h1 => ?_)⟩
      · exact k0 (by rw [show decide (a < 0) = true from h1]; rfl)
      · exact k1 (by rw [show decide (a < 0) = false from h1]; rfl)
theorem S_law_mixed : FnScope ["cell", "k", "number"] ["cell", "k"] (defScope (top 23)) := ⟨rfl, rfl, rfl, by decide +kernel, rfl, by decide +kernel, by decide +kernel⟩
theorem fn_law_mixed (D_law_mixed : Df K mg "_law_mixed" (top 23)) : Fn P w K mg base "_law_mixed" ["cell", "k"] 1 spMixed := by
  refine D_law_mixed.fn S_law_mixed (fun _ _ _ _ _ _ us hl => match us, hl with | [_, _], _ => rfl) (fun vs H Q E h => ?_) (fun f cdv A outer s H vs Q E hr h => ?_)
  · obtain ⟨c, k, rfl, _⟩ := h
    rfl
  · obtain ⟨c, k, rfl, q⟩ := h
    refine ⟨_, (pss_cons (ps_set (i := 2) S_law_mixed.nd rfl (Or.inl rfl) (pe_op op_mod (pe_op op_mulX (pe_op op_add (pe_op op_add (pe_op op_mod (pv 0) pe_int) (pe_op op_mulX pe_int (pv 1))) pe_int) pe_int) pe_int)) (pss_cons (ps_set (i := 2) S_law_mixed.nd rfl (Or.inl rfl) (pe_op op_mod (pe_op op_add (pe_op op_mod (pe_op op_mulX (pv 2) (pv 2)) pe_int) (pe_op op_mulX pe_int (pv 1))) pe_int)) (pss_one (ps_ret (pe_op op_mod (pe_op op_mulX (pv 2) pe_int) pe_int))))), ?_⟩
    refine ⟨_, rfl, c, _, rfl, rfl, (by show (0 : Int) < 2147483629; decide), _, rfl, _, _, rfl, rfl, CM.l ⟨by decide, by decide⟩, _, _, rfl, rfl, _, _, rfl, rfl, _, _, rfl, rfl, CM.r ⟨by decide, by decide⟩, _, _, rfl, rfl, (by show (0 : Int) < 2147483647; decide), ?_⟩
    refine ⟨_, rfl, _, rfl, _, _, rfl, rfl, CM.l (lt64 (Int.emod_nonneg _ (by decide)) (Int.emod_lt_of_pos _ (by decide))), _, _, rfl, rfl, (by show (0 : Int) < 2147483629; decide), _, rfl, _, _, rfl, rfl, CM.l ⟨by decide, by decide⟩, _, _, rfl, rfl, _, _, rfl, rfl, (by show (0 : Int) < 2147483629; decide), ?_⟩
    exact ⟨_, rfl, _, _, rfl, rfl, CM.r ⟨by decide, by decide⟩, _, _, rfl, rfl, (by show (0 : Int) < 2147483647; decide), q _⟩
theorem S_law_numbers : FnScope ["cell", "many", "base", "found", "left", "k", "number", "turns"] ["cell", "many", "base"] (defScope (top 24)) := ⟨rfl, rfl, rfl, by decide +kernel, rfl, by decide +kernel, by decide +kernel⟩
theorem fn_law_numbers (D_law_numbers : Df K mg "_law_numbers" (top 24)) (F_law_mixed : Fn P w K mg base "_law_mixed" ["cell", "k"] 1 spMixed) (T : Txt mg) : Fn P w K mg base "_law_numbers" ["cell", "many", "base"] 2 spNumbers := by
  refine D_law_numbers.fn S_law_numbers (fun _ _ _ _ _ _ us hl => match us, hl with | [_, _, _], _ => rfl) (fun vs H Q E h => ?_) (fun f cdv A outer s H vs Q E hr h => ?_)
  · obtain ⟨c, m, b, rfl, _⟩ := h
    rfl
  · obtain ⟨c, m, b, rfl, hm, ⟨hb, bb⟩, q⟩ := h
    refine ⟨_, (pss_cons (ps_set (i := 3) S_law_numbers.nd rfl (Or.inl rfl) (pe_lst pa_nil)) (pss_cons (ps_set (i := 4) S_law_numbers.nd rfl (Or.inl rfl) (pe_op op_sub (pv 0) (pe_op op_pow pe_int pe_int))) (pss_cons (ps_for PassesOwn.never rfl (pi_range1 rfl T.z_range (pa_cons (pv 1) pa_nil)) (pg_name (i := 5) S_law_numbers.nd rfl (Or.inl rfl)) (pss_cons (ps_set (i := 6) S_law_numbers.nd rfl (Or.inl rfl) (pv 4)) (pss_cons (ps_if (pt_cmpR op_gt (pv 4) pe_int (nomark _)) (pss_one (ps_set (i := 4) S_law_numbers.nd rfl (Or.inl rfl) (pe_op op_fdivP (pv 4) (pv 2)))) (pss_cons (ps_set (i := 6) S_law_numbers.nd rfl (Or.inl rfl) pe_int) (pss_cons (ps_set (i := 7) S_law_numbers.nd rfl (Or.inl rfl) pe_int) (pss_one (ps_while PassesOwn.never (pt_cmpR op_lt (pe_op op_mulX (pv 7) pe_int) (pe_op op_add (pe_bm0 PySem.F.plainAttrs_int PySem.F.slot_int_bit_length PySem.F.type_int_bit_length mt_bitlen (pv 2)) pe_int) (nomark _)) (pss_cons (ps_set (i := 6) S_law_numbers.nd rfl (Or.inl rfl) (pe_op op_add (pe_op op_mulX (pv 6) pe_int) (pe_fn F_law_mixed (hr.mono (by decide)) (by rfl) (pa_cons (pv 0) (pa_cons (pe_op op_add (pe_op op_mulX pe_int (pv 5)) (pv 7)) pa_nil))))) (pss_one (ps_set (i := 7) S_law_numbers.nd rfl (Or.inl rfl) (pe_op op_add (pv 7) pe_int))))))))) (pss_one (ps_expr (pe_bm PySem.F.plainAttrs_list PySem.F.slot_list_append PySem.F.type_list_append mt_append (pv 3) (pa_cons (pe_op op_mod (pv 6) (pv 2)) pa_nil))))))) (pss_one (ps_ret (pv 3)))))), ?_⟩
    -- found = []
    refine ⟨by decide, fun l hl => ?_⟩
    -- left = cell - 10 ** 18
    refine ⟨_, rfl, _, _, rfl, rfl, ⟨by decide, by decide, by decide⟩, _, _, rfl, rfl, ?_⟩
    refine ⟨_, rfl, _, rfl, by omega, by omega, ?_⟩
    rw [Int.toNat_natCast]
    refine for_range (fun i σ H' => ∃ (ns : List Int) (left : Int) (x5 x6 x7 : Option V), σ = [some (.int c), some (.int (m : Int)), some (.int b), some (.ref l), some (.int left), x5, x6, x7] ∧ Same H H' ∧ H' l = some (.lst (ns.map V.int)) ∧ ns.length = i ∧ ∀ n ∈ ns, 0 ≤ n ∧ n < b)
      ⟨[], _, _, _, _, rfl, Same.new hl, upd_same, rfl, fun n h => nomatch h⟩ ?_ ?_
    · rintro i σ H' hi ⟨ns, left, x5, x6, x7, rfl, sm, hl', hlen, hns⟩
      -- number = left; if left > 0
      refine ⟨_, rfl, ?_⟩
      refine ⟨_, rfl, _, _, rfl, rfl, _, rfl, ?_⟩
      have tail : ∀ (n left' : Int) (x7' : Option V), (tDrop (tBM K "list" rAppend (tVar 3) (tCons (tOp (rI (fun _ j => 0 < j) fun i j => .int (i % j)) (tVar 6) (tVar 2)) tNil))) { nx := fun σ H' => ∃ (ns : List Int) (left : Int) (x5 x6 x7 : Option V), σ = [some (.int c), some (.int (m : Int)), some (.int b), some (.ref l), some (.int left), x5, x6, x7] ∧ Same H H' ∧ H' l = some (.lst (ns.map V.int)) ∧ ns.length = i + 1 ∧ ∀ n ∈ ns, 0 ≤ n ∧ n < b, rt := Q } [some (.int c), some (.int (m : Int)), some (.int b), some (.ref l), some (.int left'), some (.int (0 + (i : Int))), some (.int n), x7'] H' := by
        intro n left' x7'
        refine ⟨_, rfl, .inl ⟨rfl, _, SqL.of hl'⟩, _, rfl, _, rfl, n, b, rfl, rfl, hb, l, _, _, rfl, rfl, hl', ?_, ?_⟩
        · rw [List.length_map]
          exact small1000 (by omega)
        · refine ⟨ns ++ [n % b], left', _, _, _, rfl, ?_, ?_, ?_, ?_⟩
          · intro a o ea
            rw [upd_ne (ne_of_none ea hl)]
            exact sm a o ea
          · rw [upd_same, List.map_append]
            rfl
          · rw [List.length_append, hlen]
            rfl
          · intro y hy
            rcases List.mem_append.mp hy with hy | hy
            · exact hns y hy
            · rw [List.mem_singleton.mp hy]
              exact ⟨Int.emod_nonneg _ (by omega), Int.emod_lt_of_pos _ hb⟩
      refine ite3 (fun hc => ?_) (fun hc => ?_)
      · refine ⟨_, rfl, _, rfl, _, _, rfl, rfl, ⟨hb, bits_le bb (by decide)⟩, ?_⟩
        exact tail left (left / b) x7
      · refine while_by (fun σ H2 => ∃ (n t : Int), σ = [some (.int c), some (.int (m : Int)), some (.int b), some (.ref l), some (.int left), some (.int (0 + (i : Int))), some (.int n), some (.int t)] ∧ H2 = H' ∧ 0 ≤ t)
          (fun σ _ => match σ with | [_, _, _, _, _, _, _, some (.int t)] => (((bits b : Nat) : Int) + 8 - t).toNat | _ => 0) ⟨_, _, rfl, rfl, Int.le_refl 0⟩ ?_ ?_
        · rintro σ H2 ⟨n, t, rfl, rfl, ht⟩
          refine ⟨_, rfl, _, _, rfl, rfl, CM.r ⟨by decide, by decide⟩, _, rfl, rfl, b, rfl, rfl, _, _, rfl, rfl, _, _, rfl, rfl, _, rfl, ?_⟩
          refine ite3 (fun hd => ?_) (fun hd => ?_)
          · have hd' : t * 30 < ((bits b : Nat) : Int) + 8 := by simpa using hd
            refine ⟨_, rfl, _, _, rfl, rfl, CM.r ⟨by decide, by decide⟩, _, rfl, _, rfl, _, _, rfl, rfl, CM.l ⟨by decide, by decide⟩, _, rfl, _, _, rfl, rfl, c, _, rfl, fun z => ⟨_, _, rfl, rfl, ?_⟩⟩
            refine ⟨_, rfl, _, _, rfl, rfl, ⟨_, t + 1, rfl, rfl, by omega⟩, ?_⟩
            show (((bits b : Nat) : Int) + 8 - (t + 1)).toNat < (((bits b : Nat) : Int) + 8 - t).toNat
            omega
          · exact tail n left _
        · rintro σ H2 Q1 Q2 hq h
          obtain ⟨v, e, i1, j1, e1, e2, cm, v2, e3, ty, i2, e4, e5, i3, j3, e6, e7, i4, j4, e8, e9, k, ek, r⟩ := h
          exact ⟨v, e, i1, j1, e1, e2, cm, v2, e3, ty, i2, e4, e5, i3, j3, e6, e7, i4, j4, e8, e9, k, ek, hq _ _ r⟩
    · rintro σ H' ⟨ns, left, x5, x6, x7, rfl, sm, hl', hlen, hns⟩
      refine ⟨_, rfl, ?_⟩
      exact q l ns H' hlen hns sm hl'

theorem S_law_common : FnScope ["one", "other"] ["one", "other"] (defScope (top 25)) := ⟨rfl, rfl, rfl, by decide +kernel, rfl, by decide +kernel, by decide +kernel⟩
theorem fn_law_common (D_law_common : Df K mg "_law_common" (top 25)) : Fn P w K mg base "_law_common" ["one", "other"] 1 spCommon := by
  refine D_law_common.fn S_law_common (fun _ _ _ _ _ _ us hl => match us, hl with | [_, _], _ => rfl) (fun vs H Q E h => ?_) (fun f cdv A outer s H vs Q E hr h => ?_)
  · obtain ⟨a, b, rfl, _⟩ := h
    rfl
  · obtain ⟨a, b, rfl, ha, hb, q⟩ := h
    refine ⟨_, (pss_cons (ps_while PassesOwn.never (pt_cmpR op_gt (pv 1) pe_int (nomark _)) (pss_one (ps_par (i := 0) (j := 1) rfl S_law_common.nd rfl rfl (by decide) rfl rfl (pa_cons (pv 1) (pa_cons (pe_op op_mod (pv 0) (pv 1)) pa_nil)) (by rfl)))) (pss_one (ps_ret (pv 0)))), ?_⟩
    refine while_by (fun σ H' => ∃ x y, σ = [some (.int x), some (.int y)] ∧ H' = H ∧ 0 ≤ x ∧ 0 ≤ y ∧ Int.gcd x y = Int.gcd a b)
      (fun σ _ => match σ with | [_, some (.int y)] => y.toNat | _ => 0) ⟨_, _, rfl, rfl, ha, hb, rfl⟩ ?_ ?_
    · rintro σ H' ⟨x, y, rfl, rfl, hx, hy, hg⟩
      refine ⟨_, rfl, _, _, rfl, rfl, _, rfl, ?_⟩
      refine ite3 (fun hc => ?_) (fun hc => ?_)
      · have hy1 : 0 < y := by simpa using hc
        refine ⟨_, rfl, _, rfl, _, rfl, x, y, rfl, rfl, hy1, _, _, rfl, ⟨y, x % y, rfl, rfl, hy, Int.emod_nonneg _ (by omega), ?_⟩, ?_⟩
        · rw [gcd_step hx hy1]
          exact hg
        · have h1 := Int.emod_lt_of_pos x hy1
          have h2 := Int.emod_nonneg x (show y ≠ 0 by omega)
          show (x % y).toNat < y.toNat
          omega
      · have hy1 : ¬ 0 < y := by simpa using hc
        have hy0 : y = 0 := by omega
        subst hy0
        refine ⟨_, rfl, ?_⟩
        have e : (Int.gcd a b : Int) = x := by rw [← hg]; exact gcd_zero hx
        rw [e] at q
        exact q
    · rintro σ H' Q1 Q2 hq ⟨v, e, i, j, e1, e2, k, ek, r⟩
      exact ⟨v, e, i, j, e1, e2, k, ek, hq _ _ r⟩

def Pw (K : PySem.W.Frag) (H' : Hp) (v : V) (N e : Bool) (P U L : Int) : Prop := (v = .non ∧ N = true) ∨ (N = false ∧ ∃ (t l h : Addr) (ln hn : Int × Int × Int × Int), v = .ref t ∧ H' t = some (.tup [.ref l, .ref h]) ∧ SqT K H' l [.int ln.1, .int ln.2.1, .int ln.2.2.1, .int ln.2.2.2] ∧ SqT K H' h [.int hn.1, .int hn.2.1, .int hn.2.2.1, .int hn.2.2.2] ∧ ln = (if e = true then (0, 0, 0, 1) else lowN P U L) ∧ hn = (if e = true then (1, 0, 0, 1) else highN P U L))
def spPwE (K : PySem.W.Frag) : Sp := fun vs H Q _ => ∃ (pc pb pe ps : Addr) (cx cy bx by_ ex ey a b room : Int), vs = [.ref pc, .ref pb, .ref pe, .ref ps, .int room] ∧ Cn H pc cx cy ∧ Cn H pb bx by_ ∧ Cn H pe ex ey ∧ Sq H ps a b ∧
  ∀ (v : V) (H' : Hp), Same H H' → Pw K H' v (pwN cx cy bx by_ ex ey a b room) (decide ([bx, by_] = [ex, ey])) (rAl cx cy bx by_ ex ey * b) (rUn cx cy bx by_ ex ey a b) (rLen bx by_ ex ey * b) → Q v H'
def spGateE (K : PySem.W.Frag) (room : Int) : Sp := fun vs H Q _ => ∃ (pc pb pe ps : Addr) (cx cy bx by_ ex ey a b : Int), vs = [.ref pc, .ref pb, .ref pe, .ref ps] ∧ Cn H pc cx cy ∧ Cn H pb bx by_ ∧ Cn H pe ex ey ∧ Sq H ps a b ∧ Low a b ∧ 0 ≤ a ∧
  ∀ (v : V) (H' : Hp), Same H H' → Pw K H' v (pwN cx cy bx by_ ex ey a b room) (decide ([bx, by_] = [ex, ey])) (rAl cx cy bx by_ ex ey * b) (rUn cx cy bx by_ ex ey a b) (rLen bx by_ ex ey * b) → Q v H'
theorem S_part_within : FnScope ["corner", "begin", "end", "square", "room", "reach", "low", "high"] ["corner", "begin", "end", "square", "room"] (defScope (top 19)) := ⟨rfl, rfl, rfl, by decide +kernel, rfl, by decide +kernel, by decide +kernel⟩
theorem fn_part_within {pB pE : Addr} (D_part_within : Df K mg "part_within" (top 19)) (G_BEGIN : mg "BEGIN" = some (.ref pB)) (G_END : mg "END" = some (.ref pE)) (hB : ∀ H, SqT K H pB [.int 0, .int 0, .int 0, .int 1]) (hE : ∀ H, SqT K H pE [.int 1, .int 0, .int 0, .int 1])
    (F_leash_order : Fn P w K mg base "leash_order" ["one", "other", "square"] 2 spLo) (F_reach_of : Fn P w K mg base "reach_of" ["corner", "begin", "end", "square"] 1 spReach) (F_sign_of : Fn P w K mg base "sign_of" ["number"] 1 spSign) (F_root_order : Fn P w K mg base "root_order" ["one", "other"] 4 (spRo K)) : Fn P w K mg base "part_within" ["corner", "begin", "end", "square", "room"] 5 (spPwE K) := by
  refine D_part_within.fn S_part_within (fun _ _ _ _ _ _ us hl => match us, hl with | [_, _, _, _, _], _ => rfl) (fun vs H Q E h => ?_) (fun f cdv A outer s H vs Q E hr h => ?_)
  · obtain ⟨pc, pb, pe, ps, cx, cy, bx, by_, ex, ey, a, b, room, rfl, _⟩ := h
    rfl
  · obtain ⟨pc, pb, pe, ps, cx, cy, bx, by_, ex, ey, a, b, room, rfl, c1, c2, c3, c4, k⟩ := h
    refine ⟨_, (pss_cons (ps_if (pt_cmpR (op_eqI hr.units0) (pv 1) (pv 2) (nomark _)) (pss_one (ps_ret (pe_ifExp (pt_cmpR op_ge (pe_fn F_leash_order (hr.mono (by decide)) (by rfl) (pa_cons (pv 0) (pa_cons (pv 1) (pa_cons (pv 3) pa_nil)))) (pv 4) (nomark _)) (pe_tup (pa_cons (pe_glob (v := .ref _) (by rfl) G_BEGIN rfl) (pa_cons (pe_glob (v := .ref _) (by rfl) G_END rfl) pa_nil))) pe_non))) pss_nil) (pss_cons (ps_set (i := 5) S_part_within.nd rfl (Or.inl rfl) (pe_fn F_reach_of (hr.mono (by decide)) (by rfl) (pa_cons (pv 0) (pa_cons (pv 1) (pa_cons (pv 2) (pa_cons (pv 3) pa_nil)))))) (pss_cons (ps_if (pt_cmpR op_lt (pe_fn F_sign_of (hr.mono (by decide)) (by rfl) (pa_cons (pe_ix ix_tup (pv 5) pe_int (fun _ _ => rfl)) pa_nil)) (pv 4) (nomark _)) (pss_one (ps_ret pe_non)) pss_nil) (pss_cons (ps_set (i := 6) S_part_within.nd rfl (Or.inl rfl) (pe_tup (pa_cons (pe_ix ix_tup (pv 5) pe_int (fun _ _ => rfl)) (pa_cons (pe_un un_neg pe_int) (pa_cons (pe_ix ix_tup (pv 5) pe_int (fun _ _ => rfl)) (pa_cons (pe_ix ix_tup (pv 5) pe_int (fun _ _ => rfl)) pa_nil)))))) (pss_cons (ps_set (i := 7) S_part_within.nd rfl (Or.inl rfl) (pe_tup (pa_cons (pe_ix ix_tup (pv 5) pe_int (fun _ _ => rfl)) (pa_cons pe_int (pa_cons (pe_ix ix_tup (pv 5) pe_int (fun _ _ => rfl)) (pa_cons (pe_ix ix_tup (pv 5) pe_int (fun _ _ => rfl)) pa_nil)))))) (pss_cons (ps_if (pw_or (pt_cmpR op_lt (pe_fn F_root_order (hr.mono (by decide)) (by rfl) (pa_cons (pe_glob (v := .ref _) (by rfl) G_END rfl) (pa_cons (pv 6) pa_nil))) (pv 4) (nomark _)) (pw_or1 (pt_cmpR op_lt (pe_fn F_root_order (hr.mono (by decide)) (by rfl) (pa_cons (pv 7) (pa_cons (pe_glob (v := .ref _) (by rfl) G_BEGIN rfl) pa_nil))) (pv 4) (nomark _)))).pt (pss_one (ps_ret pe_non)) pss_nil) (pss_cons (ps_if (pt_cmpR op_lt (pe_fn F_root_order (hr.mono (by decide)) (by rfl) (pa_cons (pv 6) (pa_cons (pe_glob (v := .ref _) (by rfl) G_BEGIN rfl) pa_nil))) pe_int (nomark _)) (pss_one (ps_set (i := 6) S_part_within.nd rfl (Or.inl rfl) (pe_glob (v := .ref _) (by rfl) G_BEGIN rfl))) pss_nil) (pss_cons (ps_if (pt_cmpR op_gt (pe_fn F_root_order (hr.mono (by decide)) (by rfl) (pa_cons (pv 7) (pa_cons (pe_glob (v := .ref _) (by rfl) G_END rfl) pa_nil))) pe_int (nomark _)) (pss_one (ps_set (i := 7) S_part_within.nd rfl (Or.inl rfl) (pe_glob (v := .ref _) (by rfl) G_END rfl))) pss_nil) (pss_one (ps_ret (pe_tup (pa_cons (pv 6) (pa_cons (pv 7) pa_nil))))))))))))), ?_⟩
    refine ⟨_, rfl, _, rfl, pb, pe, [bx, by_], [ex, ey], rfl, rfl, SqT.of c2.at_, SqT.of c3.at_, _, rfl, ite3 (fun h1 => ?_) (fun h1 => ?_)⟩
    · have hs : [bx, by_] = [ex, ey] := dec_t h1
      refine ⟨_, rfl, _, rfl, _, rfl, _, _, _, _, _, _, _, _, _, rfl, c1, c2, c4, _, rfl, _, _, rfl, rfl, _, rfl, ite3 (fun h2 => ?_) (fun h2 => ?_)⟩
      · refine ⟨Sp1.sz (by simp), alloc fun p H1 s1 e1 => k _ _ s1 (.inr ⟨?_, p, pB, pE, (0, 0, 0, 1), (1, 0, 0, 1), rfl, e1, hB _, hE _, ?_, ?_⟩)⟩
        · unfold pwN
          rw [if_pos hs]
          simp only [ge_iff_le] at h2 ⊢
          rw [show decide (room ≤ lo cx cy bx by_ a b) = true from h2]
          rfl
        · rw [decide_eq_true hs]; rfl
        · rw [decide_eq_true hs]; rfl
      · refine k _ _ Same.rfl' (.inl ⟨rfl, ?_⟩)
        unfold pwN
        rw [if_pos hs]
        rw [show decide (lo cx cy bx by_ a b ≥ room) = false from h2]
        rfl
    · have hs : ¬ [bx, by_] = [ex, ey] := dec_f h1
      unfold pwN at k
      rw [if_neg hs, decide_eq_false hs] at k
      refine ⟨_, rfl, _, rfl, _, rfl, _, rfl, _, _, _, _, _, _, _, _, _, _, _, _, rfl, c1, c2, c3, c4, fun r H1 s1 e1 => ?_⟩
      obtain ⟨_, b1, b2⟩ := c1
      obtain ⟨_, b3, b4⟩ := c2
      obtain ⟨_, b5, b6⟩ := c3
      obtain ⟨_, b7, b8⟩ := c4
      have z1 : bits (rAl cx cy bx by_ ex ey * b) ≤ 450 := by unfold rAl; walk_at "bl"
      have z2 : bits (rUn cx cy bx by_ ex ey a b) ≤ 1000 := by unfold rUn rLen rBe; walk_at "bl"
      have z3 : bits (rLen bx by_ ex ey * b) ≤ 450 := by unfold rLen; walk_at "bl"
      generalize rAl cx cy bx by_ ex ey * b = A0 at *
      generalize rUn cx cy bx by_ ex ey a b = A1 at *
      generalize rLen bx by_ ex ey * b = A2 at *
      walk_at "rd"
      refine ite3 (fun h2 => ?_) (fun h2 => ?_)
      · exact k _ _ s1 (.inl ⟨rfl, by rw [show decide (sg A1 < room) = true from h2]; rfl⟩)
      rw [show decide (sg A1 < room) = false from h2, Bool.false_or] at k
      walk_at "rd"
      rename_i pl Hl sl el ph Hh sh eh
      have r0 : bits (0 : Int) ≤ 450 := by decide
      have r1 : bits (1 : Int) ≤ 450 := by decide
      have r2 : bits (-1 : Int) ≤ 450 := by decide
      have r0' : bits (0 : Int) ≤ 1000 := by decide
      have RB : ∀ H, Rt K H pB 0 0 0 1 := fun H => ⟨hB H, r0, r0, r0', r1⟩
      have RE : ∀ H, Rt K H pE 1 0 0 1 := fun H => ⟨hE H, r1, r0, r0', r1⟩
      have RL : Rt K Hh pl A0 (-1) A1 A2 := ⟨SqT.of (sh _ _ el), z1, r2, z2, z3⟩
      have RH : Rt K Hh ph A0 1 A1 A2 := ⟨SqT.of eh, z1, r1, z2, z3⟩
      have sm : Same H Hh := s1.trans (sl.trans sh)
      refine ⟨_, _, _, _, _, _, _, _, _, _, rfl, RE _, RL, _, rfl, _, _, rfl, rfl, _, rfl, ite3 (fun h3 => ?_) (fun h3 => ?_)⟩
      · refine k _ _ sm (.inl ⟨rfl, ?_⟩)
        rw [show decide (ro 1 0 0 1 A0 (-1) A1 A2 < room) = true from h3]
        rfl
      rw [show decide (ro 1 0 0 1 A0 (-1) A1 A2 < room) = false from h3, Bool.false_or] at k
      refine ⟨_, rfl, _, _, _, _, _, _, _, _, _, _, rfl, RH, RB _, _, rfl, _, _, rfl, rfl, _, rfl, ite3 (fun h4 => ?_) (fun h4 => ?_)⟩
      · exact k _ _ sm (.inl ⟨rfl, h4⟩)
      rw [show decide (ro A0 1 A1 A2 0 0 0 1 < room) = false from h4] at k
      have fin : ∀ (l h : Addr) (ln hn : Int × Int × Int × Int), (∀ H1, Same Hh H1 → SqT K H1 l [.int ln.1, .int ln.2.1, .int ln.2.2.1, .int ln.2.2.2]) → (∀ H1, Same Hh H1 → SqT K H1 h [.int hn.1, .int hn.2.1, .int hn.2.2.1, .int hn.2.2.2]) → ln = lowN A0 A1 A2 → hn = highN A0 A1 A2 → (tRet (tTup (tCons (tVar 6) (tCons (tVar 7) tNil)))) { nx := fun _ H' => Q .non H', rt := Q } [some (.ref pc), some (.ref pb), some (.ref pe), some (.ref ps), some (.int room), some (.ref r), some (.ref l), some (.ref h)] Hh := fun l h ln hn hl hh e1 e2 =>
        ⟨_, rfl, _, rfl, Sp1.sz (by simp), alloc fun p H1 s1 ep => k _ _ (sm.trans s1) (.inr ⟨rfl, p, l, h, ln, hn, rfl, ep, hl _ s1, hh _ s1, e1, e2⟩)⟩
      have lT : ro A0 (-1) A1 A2 0 0 0 1 < 0 → lowN A0 A1 A2 = (0, 0, 0, 1) := fun z => by unfold lowN; rw [if_pos z]
      have lF : ¬ ro A0 (-1) A1 A2 0 0 0 1 < 0 → lowN A0 A1 A2 = (A0, -1, A1, A2) := fun z => by unfold lowN; rw [if_neg z]
      have hT : ro A0 1 A1 A2 1 0 0 1 > 0 → highN A0 A1 A2 = (1, 0, 0, 1) := fun z => by unfold highN; rw [if_pos z]
      have hF : ¬ ro A0 1 A1 A2 1 0 0 1 > 0 → highN A0 A1 A2 = (A0, 1, A1, A2) := fun z => by unfold highN; rw [if_neg z]
      have tl : ∀ H1, Same Hh H1 → SqT K H1 pl [.int A0, .int (-1), .int A1, .int A2] := fun H1 s => SqT.of (s _ _ (sh _ _ el))
      have th : ∀ H1, Same Hh H1 → SqT K H1 ph [.int A0, .int 1, .int A1, .int A2] := fun H1 s => SqT.of (s _ _ eh)
      refine ⟨_, rfl, _, _, _, _, _, _, _, _, _, _, rfl, RL, RB _, _, _, rfl, rfl, _, rfl, ite3 (fun h5 => ?_) (fun h5 => ?_)⟩
      · refine ⟨_, rfl, _, _, _, _, _, _, _, _, _, _, rfl, RH, RE _, _, _, rfl, rfl, _, rfl, ite3 (fun h6 => ?_) (fun h6 => ?_)⟩
        · exact fin pB pE (0, 0, 0, 1) (1, 0, 0, 1) (fun H1 _ => hB H1) (fun H1 _ => hE H1) (lT (dec_t h5)).symm (hT (dec_t h6)).symm
        · exact fin pB ph (0, 0, 0, 1) (A0, 1, A1, A2) (fun H1 _ => hB H1) th (lT (dec_t h5)).symm (hF (dec_f h6)).symm
      · refine ⟨_, rfl, _, _, _, _, _, _, _, _, _, _, rfl, RH, RE _, _, _, rfl, rfl, _, rfl, ite3 (fun h6 => ?_) (fun h6 => ?_)⟩
        · exact fin pl pE (A0, -1, A1, A2) (1, 0, 0, 1) tl (fun H1 _ => hE H1) (lF (dec_f h5)).symm (hT (dec_t h6)).symm
        · exact fin pl ph (A0, -1, A1, A2) (A0, 1, A1, A2) tl th (lF (dec_f h5)).symm (hF (dec_f h6)).symm
theorem S_gate : FnScope ["corner", "begin", "end", "square"] ["corner", "begin", "end", "square"] (defScope (top 20)) := ⟨rfl, rfl, rfl, by decide +kernel, rfl, by decide +kernel, by decide +kernel⟩
theorem fn_gate {C_NoSquare : Addr} (D_gate : Df K mg "gate" (top 20)) (F_look_at_square : Fx P w K mg base "look_at_square" ["square"] 3 [] (spLookS C_NoSquare)) (F_part_within : Fn P w K mg base "part_within" ["corner", "begin", "end", "square", "room"] 5 (spPwE K)) : Fx P w K mg base "gate" ["corner", "begin", "end", "square"] 6 [] (spGateE K 0) := by
  refine D_gate.fx S_gate (fun _ _ _ _ _ _ us hl => match us, hl with | [_, _, _, _], _ => rfl) (fun vs H Q E h => ?_) (fun f cdv A outer s H vs Q E hr h => ?_)
  · obtain ⟨pc, pb, pe, ps, cx, cy, bx, by_, ex, ey, a, b, rfl, _⟩ := h
    rfl
  · obtain ⟨pc, pb, pe, ps, cx, cy, bx, by_, ex, ey, a, b, rfl, c1, c2, c3, sq, lw, h0, k⟩ := h
    refine ⟨_, (pss_cons (ps_expr (pe_fx F_look_at_square (hr.mono (by decide)) (by rfl) (pa_cons (pv 3) pa_nil))) (pss_one (ps_ret (pe_fn F_part_within (hr.mono (by decide)) (by rfl) (pa_cons (pv 0) (pa_cons (pv 1) (pa_cons (pv 2) (pa_cons (pv 3) (pa_cons pe_int pa_nil))))))))), ?_⟩
    have ht : sqV H (.ref ps) = true := by
      rw [sqV_two sq.at_, low_B lw, Bool.true_and, decide_eq_false (show ¬ a < 0 by omega)]; rfl
    have th : Thing H (.ref ps) := th_tup sq.at_ fun v hv => by
      simp only [List.mem_cons, List.not_mem_nil, or_false] at hv
      rcases hv with rfl | rfl <;> exact ⟨_, .int _⟩
    refine ⟨_, rfl, _, rfl, th, (fun z => by rw [ht] at z; cases z), fun _ => ?_⟩
    exact ⟨_, rfl, _, rfl, _, rfl, _, rfl, _, _, _, _, _, _, _, _, _, _, _, _, _, rfl, c1, c2, c3, sq, k⟩
theorem S_open_gate : FnScope ["corner", "begin", "end", "square"] ["corner", "begin", "end", "square"] (defScope (top 21)) := ⟨rfl, rfl, rfl, by decide +kernel, rfl, by decide +kernel, by decide +kernel⟩
theorem fn_open_gate {C_NoSquare : Addr} (D_open_gate : Df K mg "open_gate" (top 21)) (F_look_at_square : Fx P w K mg base "look_at_square" ["square"] 3 [] (spLookS C_NoSquare)) (F_part_within : Fn P w K mg base "part_within" ["corner", "begin", "end", "square", "room"] 5 (spPwE K)) : Fx P w K mg base "open_gate" ["corner", "begin", "end", "square"] 6 [] (spGateE K 1) := by
  refine D_open_gate.fx S_open_gate (fun _ _ _ _ _ _ us hl => match us, hl with | [_, _, _, _], _ => rfl) (fun vs H Q E h => ?_) (fun f cdv A outer s H vs Q E hr h => ?_)
  · obtain ⟨pc, pb, pe, ps, cx, cy, bx, by_, ex, ey, a, b, rfl, _⟩ := h
    rfl
  · obtain ⟨pc, pb, pe, ps, cx, cy, bx, by_, ex, ey, a, b, rfl, c1, c2, c3, sq, lw, h0, k⟩ := h
    refine ⟨_, (pss_cons (ps_expr (pe_fx F_look_at_square (hr.mono (by decide)) (by rfl) (pa_cons (pv 3) pa_nil))) (pss_one (ps_ret (pe_fn F_part_within (hr.mono (by decide)) (by rfl) (pa_cons (pv 0) (pa_cons (pv 1) (pa_cons (pv 2) (pa_cons (pv 3) (pa_cons pe_int pa_nil))))))))), ?_⟩
    have ht : sqV H (.ref ps) = true := by
      rw [sqV_two sq.at_, low_B lw, Bool.true_and, decide_eq_false (show ¬ a < 0 by omega)]; rfl
    have th : Thing H (.ref ps) := th_tup sq.at_ fun v hv => by
      simp only [List.mem_cons, List.not_mem_nil, or_false] at hv
      rcases hv with rfl | rfl <;> exact ⟨_, .int _⟩
    refine ⟨_, rfl, _, rfl, th, (fun z => by rw [ht] at z; cases z), fun _ => ?_⟩
    exact ⟨_, rfl, _, rfl, _, rfl, _, rfl, _, _, _, _, _, _, _, _, _, _, _, _, _, rfl, c1, c2, c3, sq, k⟩

theorem newton {n f : Int} (hn : 0 ≤ n) (hf : 0 < f) : n < ((f + n / f) / 2 + 1) * ((f + n / f) / 2 + 1) ∧ (n < f * f → (f + n / f) / 2 < f) ∧ 0 ≤ (f + n / f) / 2 := by
  have q0 : 0 ≤ n / f := Int.ediv_nonneg hn (by omega)
  have q1 : n < (n / f + 1) * f := Int.lt_ediv_add_one_mul_self n hf
  refine ⟨?_, fun h => ?_, by omega⟩
  · generalize eg : (f + n / f) / 2 = g
    have h2 : f + (n / f + 1) ≤ 2 * (g + 1) := by omega
    have s1 := sq_mono (x := f + (n / f + 1)) (y := 2 * (g + 1)) (by omega) h2
    have e1 : 2 * (g + 1) * (2 * (g + 1)) = 4 * ((g + 1) * (g + 1)) := by grind
    have e2 : (f + (n / f + 1)) * (f + (n / f + 1)) = 4 * ((n / f + 1) * f) + (f - (n / f + 1)) * (f - (n / f + 1)) := by grind
    have e3 : 0 ≤ (f - (n / f + 1)) * (f - (n / f + 1)) := by
      rcases Int.le_total 0 (f - (n / f + 1)) with g0 | g0
      · exact Int.mul_nonneg g0 g0
      · exact Int.mul_nonneg_of_nonpos_of_nonpos g0 g0
    omega
  · have : n / f < f := Int.ediv_lt_of_lt_mul hf h
    omega
theorem start_root {n : Int} (hn : 0 ≤ n) : n < ((1 : Int) * 2 ^ ((((bits n : Nat) : Int) + 1) / 2).toNat + 1) * ((1 : Int) * 2 ^ ((((bits n : Nat) : Int) + 1) / 2).toNat + 1) ∧ 0 < (1 : Int) * 2 ^ ((((bits n : Nat) : Int) + 1) / 2).toNat := by
  generalize ek : ((((bits n : Nat) : Int) + 1) / 2).toNat = k
  have hk : bits n ≤ k + k := by omega
  have h1 := bits_lt hk
  have hp : (0 : Int) < 2 ^ k := Int.pow_pos (by decide)
  have e1 : ((2 : Int) ^ k) * 2 ^ k = ((2 ^ (k + k) : Nat) : Int) := by rw [← Int.pow_add]; norm_cast
  rw [Int.one_mul]
  refine ⟨?_, hp⟩
  have e2 : ((2 : Int) ^ k + 1) * (2 ^ k + 1) = 2 ^ k * 2 ^ k + 2 * 2 ^ k + 1 := by grind
  have h2 : n < ((2 ^ (k + k) : Nat) : Int) := by omega
  omega
theorem root_bits {n : Int} {m : Nat} (hn : 0 ≤ n) (h : bits n ≤ m) : bits ((1 : Int) * 2 ^ ((((bits n : Nat) : Int) + 1) / 2).toNat) ≤ (m + 1) / 2 + 1 := by
  refine bits_of ?_
  generalize ek : ((((bits n : Nat) : Int) + 1) / 2).toNat = k
  have hk : k ≤ (m + 1) / 2 := by omega
  rw [Int.one_mul, Int.natAbs_pow]
  show 2 ^ k < 2 ^ ((m + 1) / 2 + 1)
  exact Nat.pow_lt_pow_right (by decide) (by omega)
/-- the whole root -/
def spRoot : Sp := fun vs H Q _ => ∃ n : Int, vs = [.int n] ∧ 0 ≤ n ∧ bits n ≤ 12000 ∧ ∀ r : Int, Rtf 1 n r → Q (.int r) H
def spSide : Sp := fun vs H Q _ => ∃ n : Int, vs = [.int n] ∧ Q (.int (sg n)) H
def spLSign : Sp := fun vs H Q _ => ∃ w m u n l : Int, vs = [.int w, .int m, .int u, .int n, .int l] ∧ (0 ≤ u ∧ 0 ≤ l) ∧ (bits w ≤ 720 ∧ bits m ≤ 600 ∧ bits u ≤ 470 ∧ bits n ≤ 600 ∧ bits l ≤ 470) ∧ Q (.int (swrs w m u (-n) l)) H
theorem S_law_root : FnScope ["number", "found"] ["number"] (defScope (top 26)) := ⟨rfl, rfl, rfl, by decide +kernel, rfl, by decide +kernel, by decide +kernel⟩
theorem fn_law_root (D_law_root : Df K mg "_law_root" (top 26)) : Fn P w K mg base "_law_root" ["number"] 1 spRoot := by
  refine D_law_root.fn S_law_root (fun _ _ _ _ _ _ us hl => match us, hl with | [_], _ => rfl) (fun vs H Q E h => ?_) (fun f cdv A outer s H vs Q E hr h => ?_)
  · obtain ⟨n, rfl, _⟩ := h
    rfl
  · obtain ⟨n, rfl, hn, bn, q⟩ := h
    refine ⟨_, (pss_cons (ps_set (i := 1) S_law_root.nd rfl (Or.inl rfl) (pe_op op_shl pe_int (pe_op op_fdivP (pe_op op_add (pe_bm0 PySem.F.plainAttrs_int PySem.F.slot_int_bit_length PySem.F.type_int_bit_length mt_bitlen (pv 0)) pe_int) pe_int))) (pss_cons (ps_while PassesOwn.never (pt_cmpR op_gt (pe_op op_mulX (pv 1) (pv 1)) (pv 0) (nomark _)) (pss_one (ps_set (i := 1) S_law_root.nd rfl (Or.inl rfl) (pe_op op_fdivP (pe_op op_add (pv 1) (pe_op op_fdivP (pv 0) (pv 1))) pe_int)))) (pss_one (ps_ret (pv 1))))), ?_⟩
    have st := start_root hn
    have sb := bits_le (root_bits hn bn) (by decide : (12000 + 1) / 2 + 1 ≤ 6003)
    refine ⟨_, rfl, rfl, n, rfl, rfl, _, _, rfl, rfl, _, _, rfl, rfl, ⟨by decide, by decide⟩, _, _, rfl, rfl, ⟨Int.ediv_nonneg (by omega) (by decide), ?_, by decide⟩, ?_⟩
    · show (((bits n : Nat) : Int) + 1) / 2 ≤ 1000000
      omega
    refine while_by (fun σ H' => ∃ f : Int, σ = [some (.int n), some (.int f)] ∧ H' = H ∧ 0 ≤ f ∧ n < (f + 1) * (f + 1) ∧ bits f ≤ 6003)
      (fun σ _ => match σ with | [_, some (.int f)] => f.toNat | _ => 0) ⟨_, rfl, rfl, by omega, st.1, sb⟩ ?_ ?_
    · rintro σ H' ⟨f, rfl, rfl, hf, hlt, bf⟩
      refine ⟨_, rfl, _, rfl, _, _, rfl, rfl, CM.b bf bf (by decide) (by decide), _, rfl, _, _, rfl, rfl, _, rfl, ite3 (fun hc => ?_) (fun hc => ?_)⟩
      · have hc : n < f * f := dec_t hc
        have hf0 : 0 < f := by
          rcases Int.lt_or_eq_of_le hf with h | h
          · exact h
          · rw [← h] at hc; simp at hc; omega
        obtain ⟨k1, k2, k3⟩ := newton hn hf0
        refine ⟨_, rfl, _, rfl, _, rfl, _, _, rfl, rfl, ⟨hf0, bits_le bf (by decide)⟩, _, _, rfl, rfl, _, _, rfl, rfl, ⟨by decide, by decide⟩, ⟨(f + n / f) / 2, rfl, rfl, k3, k1, bits_range k3 (Int.le_of_lt (k2 hc)) bf⟩, ?_⟩
        have := k2 hc
        show ((f + n / f) / 2).toNat < f.toNat
        omega
      · have hc : ¬ n < f * f := dec_f hc
        refine ⟨_, rfl, q f ⟨hf, by omega, by omega⟩⟩
    · rintro σ H' Q1 Q2 hq ⟨v, e, v2, e2, i, j, e3, e4, cm, v3, e5, i2, j2, e6, e7, k, ek, r⟩
      exact ⟨v, e, v2, e2, i, j, e3, e4, cm, v3, e5, i2, j2, e6, e7, k, ek, hq _ _ r⟩
theorem S_law_side : FnScope ["number"] ["number"] (defScope (top 27)) := ⟨rfl, rfl, rfl, by decide +kernel, rfl, by decide +kernel, by decide +kernel⟩
theorem fn_law_side (D_law_side : Df K mg "_law_side" (top 27)) (T : Txt mg) : Fn P w K mg base "_law_side" ["number"] 1 spSide := by
  refine D_law_side.fn S_law_side (fun _ _ _ _ _ _ us hl => match us, hl with | [_], _ => rfl) (fun vs H Q E h => ?_) (fun f cdv A outer s H vs Q E hr h => ?_)
  · obtain ⟨n, rfl, _⟩ := h
    rfl
  · obtain ⟨n, rfl, q⟩ := h
    refine ⟨_, (pss_one (ps_ret (pe_op op_sub (pe_callTy call_int1 (by rfl) T.z_int bt_int (pa_cons (pe_cmpR op_gt (pv 0) pe_int (nomark _)) pa_nil)) (pe_callTy call_int1 (by rfl) T.z_int bt_int (pa_cons (pe_cmpR op_lt (pv 0) pe_int (nomark _)) pa_nil))))), ?_⟩
    refine ⟨_, rfl, _, _, rfl, rfl, .inr ⟨_, rfl, _, rfl, _, _, rfl, rfl, .inr ⟨_, rfl, _, _, rfl, rfl, ?_⟩⟩⟩
    have e : (if decide (n > 0) = true then (1 : Int) else 0) - (if decide (n < 0) = true then 1 else 0) = sg n := by
      rcases Int.lt_trichotomy n 0 with h | h | h
      · rw [sg_n h, decide_eq_false (show ¬ n > 0 by omega), decide_eq_true h]; rfl
      · subst h; rfl
      · rw [sg_p h, decide_eq_true (show n > 0 from h), decide_eq_false (show ¬ n < 0 by omega)]; rfl
    rw [← e] at q
    exact q

theorem pow3 (x : Int) : x ^ (3 : Int).toNat = x * x * x := by
  show x ^ 3 = _
  grind
theorem pow2 (x : Int) : x ^ (2 : Int).toNat = x * x := by
  show x ^ 2 = _
  grind
theorem rtf_le {n r : Int} (h : Rtf 1 n r) : r ≤ n := by
  have h1 := h.nn
  have h2 := h.lo
  rcases Int.lt_or_eq_of_le h1 with g | g
  · have : r * 1 ≤ r * r := Int.mul_le_mul_of_nonneg_left (by omega) h1
    omega
  · rw [← g] at h2 ⊢
    simp at h2
    omega
theorem abs_nn (x : Int) : 0 ≤ (if x < 0 then -x else x) := by split <;> omega
theorem abs_sq (x : Int) : (if x < 0 then -x else x) * (if x < 0 then -x else x) = x * x := by
  split
  · grind
  · rfl
theorem sign_fin {w m u n l ru rl A C M S : Int} (hu : 0 ≤ u) (hl : 0 ≤ l) (Ru : Rtf 1 u ru) (Rl : Rtf 1 l rl) (hM : M = 1 + (if w < 0 then -w else w) + (if m < 0 then -m else m) * (1 + ru) + (if n < 0 then -n else n) * (1 + rl)) (hS : S = 8 * (3 * M) ^ (3 : Int).toNat) (RA : Rtf 1 ((m * S) ^ (2 : Int).toNat * u) A) (RC : Rtf 1 ((n * S) ^ (2 : Int).toNat * l) C) :
    told (w * S + A * sg m - C * sg n) = swrs w m u (-n) l := by
  have am := abs_nn m
  have an := abs_nn n
  have aw := abs_nn w
  have r0 := Ru.nn
  have l0 := Rl.nn
  have k1 : 0 ≤ (if m < 0 then -m else m) * (1 + ru) := Int.mul_nonneg am (by omega)
  have k2 : 0 ≤ (if n < 0 then -n else n) * (1 + rl) := Int.mul_nonneg an (by omega)
  have aux : ∀ {x v r : Int}, Rtf 1 v r → 0 ≤ (if x < 0 then -x else x) * (1 + r) → (if x < 0 then -x else x) * (1 + r) ≤ M → x * x * v ≤ M * M := fun {x v r} R h0 h1 => by
    have s1 := sq_mono h0 h1
    have e1 : (if x < 0 then -x else x) * (1 + r) * ((if x < 0 then -x else x) * (1 + r)) = x * x * ((r + 1) * (r + 1)) := by
      rw [← abs_sq x]; grind
    have xx : 0 ≤ x * x := by rw [← abs_sq x]; exact Int.mul_nonneg (abs_nn x) (abs_nn x)
    have h2 : x * x * v ≤ x * x * ((r + 1) * (r + 1)) := Int.mul_le_mul_of_nonneg_left (by have := R.hi; omega) xx
    omega
  have scl : Scl S M := ⟨by omega, by rw [hS, pow3]; exact Int.le_of_eq (by grind)⟩
  have cv : ∀ {x v a : Int}, Rtf 1 ((x * S) ^ (2 : Int).toNat * v) a → Rtf (S * S) (x * x * v) a := fun {x v a} R => by
    have e : S * S * (x * x * v) = 1 * ((x * S) ^ (2 : Int).toNat * v) := by rw [pow2]; grind
    exact ⟨R.nn, by rw [e]; exact R.lo, by rw [e]; exact R.hi⟩
  have w1 : -M ≤ w ∧ w ≤ M := by
    have : w ≤ (if w < 0 then -w else w) ∧ -(if w < 0 then -w else w) ≤ w := by split <;> omega
    omega
  exact told_eq scl hu hl (aux Ru k1 (by omega)) (aux Rl k2 (by omega)) (cv RA) (cv RC) w1.1 w1.2
theorem bits_one {x : Int} {n : Nat} (h : bits x ≤ n) (hn : 1 ≤ n) : bits (1 + x) ≤ n + 1 := bits_add (bits_le (show bits 1 ≤ 1 by decide) hn) h
theorem S_law_sign : FnScope ["whole", "many", "under", "more", "lower", "most", "scale", "left", "right", "middle"] ["whole", "many", "under", "more", "lower"] (defScope (top 28)) := ⟨rfl, rfl, rfl, by decide +kernel, rfl, by decide +kernel, by decide +kernel⟩
theorem fn_law_sign (D_law_sign : Df K mg "_law_sign" (top 28)) (F_law_root : Fn P w K mg base "_law_root" ["number"] 1 spRoot) (F_law_side : Fn P w K mg base "_law_side" ["number"] 1 spSide) (T : Txt mg) : Fn P w K mg base "_law_sign" ["whole", "many", "under", "more", "lower"] 2 spLSign := by
  refine D_law_sign.fn S_law_sign (fun _ _ _ _ _ _ us hl => match us, hl with | [_, _, _, _, _], _ => rfl) (fun vs H Q E h => ?_) (fun f cdv A outer s H vs Q E hr h => ?_)
  · obtain ⟨a, m, u, n, l, rfl, _⟩ := h
    rfl
  · obtain ⟨a, m, u, n, l, rfl, ⟨hu, hl⟩, ⟨ba, bm, bu, bn, bl⟩, q⟩ := h
    refine ⟨_, (pss_cons (ps_set (i := 5) S_law_sign.nd rfl (Or.inl rfl) (pe_op op_add (pe_op op_add pe_int (pe_callB call_abs (by rfl) T.z_abs bt_abs (pa_cons (pv 0) pa_nil))) (pe_op op_mulX (pe_callB call_abs (by rfl) T.z_abs bt_abs (pa_cons (pv 1) pa_nil)) (pe_op op_add pe_int (pe_fn F_law_root (hr.mono (by decide)) (by rfl) (pa_cons (pv 2) pa_nil)))))) (pss_cons (ps_set (i := 5) S_law_sign.nd rfl (Or.inl rfl) (pe_op op_add (pv 5) (pe_op op_mulX (pe_callB call_abs (by rfl) T.z_abs bt_abs (pa_cons (pv 3) pa_nil)) (pe_op op_add pe_int (pe_fn F_law_root (hr.mono (by decide)) (by rfl) (pa_cons (pv 4) pa_nil)))))) (pss_cons (ps_set (i := 6) S_law_sign.nd rfl (Or.inl rfl) (pe_op op_mulX pe_int (pe_op op_powX (pe_op op_mulX pe_int (pv 5)) pe_int))) (pss_cons (ps_set (i := 7) S_law_sign.nd rfl (Or.inl rfl) (pe_op op_mulX (pe_fn F_law_root (hr.mono (by decide)) (by rfl) (pa_cons (pe_op op_mulX (pe_op op_powX (pe_op op_mulX (pv 1) (pv 6)) pe_int) (pv 2)) pa_nil)) (pe_fn F_law_side (hr.mono (by decide)) (by rfl) (pa_cons (pv 1) pa_nil)))) (pss_cons (ps_set (i := 8) S_law_sign.nd rfl (Or.inl rfl) (pe_op op_mulX (pe_fn F_law_root (hr.mono (by decide)) (by rfl) (pa_cons (pe_op op_mulX (pe_op op_powX (pe_op op_mulX (pv 3) (pv 6)) pe_int) (pv 4)) pa_nil)) (pe_fn F_law_side (hr.mono (by decide)) (by rfl) (pa_cons (pv 3) pa_nil)))) (pss_cons (ps_set (i := 9) S_law_sign.nd rfl (Or.inl rfl) (pe_op op_sub (pe_op op_add (pe_op op_mulX (pv 0) (pv 6)) (pv 7)) (pv 8))) (pss_one (ps_ret (pe_op op_sub (pe_callTy call_int1 (by rfl) T.z_int bt_int (pa_cons (pe_cmpR op_gt (pv 9) pe_int (nomark _)) pa_nil)) (pe_callTy call_int1 (by rfl) T.z_int bt_int (pa_cons (pe_cmpR op_lt (pv 9) (pe_un un_neg pe_int) (nomark _)) pa_nil))))))))))), ?_⟩
    refine ⟨_, rfl, _, rfl, _, _, rfl, rfl, _, rfl, _, rfl, _, rfl, u, rfl, hu, bits_le bu (by decide), fun ru Ru => ?_⟩
    have bru : bits (1 + ru) ≤ 471 := bits_one (bits_range Ru.nn (rtf_le Ru) bu) (by decide)
    refine ⟨_, _, rfl, rfl, _, _, rfl, rfl, CM.b (bits_abs bm) bru (by decide) (by decide), _, _, rfl, rfl, ?_⟩
    have b1 : bits (1 + (if a < 0 then -a else a) + (if m < 0 then -m else m) * (1 + ru)) ≤ 1072 := bits_add (bits_le (bits_one (bits_abs ba) (by decide)) (by decide)) (bits_mul (bits_abs bm) bru)
    refine ⟨_, rfl, _, rfl, _, rfl, _, rfl, l, rfl, hl, bits_le bl (by decide), fun rl Rl => ?_⟩
    have brl : bits (1 + rl) ≤ 471 := bits_one (bits_range Rl.nn (rtf_le Rl) bl) (by decide)
    refine ⟨_, _, rfl, rfl, _, _, rfl, rfl, CM.b (bits_abs bn) brl (by decide) (by decide), _, _, rfl, rfl, ?_⟩
    have b2 : bits (1 + (if a < 0 then -a else a) + (if m < 0 then -m else m) * (1 + ru) + (if n < 0 then -n else n) * (1 + rl)) ≤ 1073 := bits_add b1 (bits_le (bits_mul (bits_abs bn) brl) (by decide))
    have b3 : bits (3 * (1 + (if a < 0 then -a else a) + (if m < 0 then -m else m) * (1 + ru) + (if n < 0 then -n else n) * (1 + rl))) ≤ 1083 := bits_mul (m := 10) (bits_small (by decide) (by decide)) b2
    have b4 : bits ((3 * (1 + (if a < 0 then -a else a) + (if m < 0 then -m else m) * (1 + ru) + (if n < 0 then -n else n) * (1 + rl))) ^ (3 : Int).toNat) ≤ 3249 := by rw [pow3]; exact bits_mul (bits_mul b3 b3) b3
    have b5 : bits (8 * (3 * (1 + (if a < 0 then -a else a) + (if m < 0 then -m else m) * (1 + ru) + (if n < 0 then -n else n) * (1 + rl))) ^ (3 : Int).toNat) ≤ 3259 := bits_mul (m := 10) (bits_small (by decide) (by decide)) b4
    have p3 : CPX (3 * (1 + (if a < 0 then -a else a) + (if m < 0 then -m else m) * (1 + ru) + (if n < 0 then -n else n) * (1 + rl))) 3 := ⟨by decide, by
      have e : (2 : Int) ^ 27 = 134217728 := by decide
      have h' : Builtin.Int.intBits (3 * (1 + (if a < 0 then -a else a) + (if m < 0 then -m else m) * (1 + ru) + (if n < 0 then -n else n) * (1 + rl))) ≤ 1083 := b3
      rw [e]
      omega⟩
    refine ⟨_, rfl, _, _, rfl, rfl, CM.l (lt64s (by decide) (by decide)), _, _, rfl, rfl, p3, _, _, rfl, rfl, CM.l (lt64s (by decide) (by decide)), ?_⟩
    obtain ⟨S, eS⟩ : ∃ S : Int, S = 8 * (3 * (1 + (if a < 0 then -a else a) + (if m < 0 then -m else m) * (1 + ru) + (if n < 0 then -n else n) * (1 + rl))) ^ (3 : Int).toNat := ⟨_, rfl⟩
    rw [← eS] at b5
    have fin := fun (A C : Int) => sign_fin (w := a) (m := m) (u := u) (n := n) (l := l) (ru := ru) (rl := rl) (A := A) (C := C) hu hl Ru Rl rfl eS
    have sqn : ∀ x : Int, 0 ≤ x * x := fun x => by rw [← abs_sq x]; exact Int.mul_nonneg (abs_nn x) (abs_nn x)
    have side : ∀ {x y : Int}, CM x (sg y) := fun {x y} => CM.r (by have := sg_small y; exact lt64s (by omega) (by omega))
    have rt : ∀ {x v : Int}, bits x ≤ 600 → bits v ≤ 470 → 0 ≤ v → CM x S ∧ CPX (x * S) 2 ∧ CM ((x * S) ^ (2 : Int).toNat) v ∧ 0 ≤ (x * S) ^ (2 : Int).toNat * v ∧ bits ((x * S) ^ (2 : Int).toNat * v) ≤ 12000 := fun {x v} hx hv h0 => by
      have c1 : bits (x * S) ≤ 3859 := bits_mul hx b5
      have c2 : bits ((x * S) ^ (2 : Int).toNat) ≤ 7718 := by rw [pow2]; exact bits_mul c1 c1
      exact ⟨CM.b hx b5 (by decide) (by decide), cpx2 c1 (by decide), CM.b c2 hv (by decide) (by decide), Int.mul_nonneg (by rw [pow2]; exact sqn _) h0, bits_le (bits_mul c2 hv) (by decide)⟩
    obtain ⟨r1, r2, r3, r4, r5⟩ := rt bm bu hu
    obtain ⟨t1, t2, t3, t4, t5⟩ := rt bn bl hl
    have cw : CM a S := CM.b ba b5 (by decide) (by decide)
    subst eS
    refine ⟨_, rfl, _, rfl, _, _, rfl, rfl, r1, _, _, rfl, rfl, r2, _, rfl, _, _, rfl, rfl, r3, _, rfl, r4, r5, fun A1 RA => ⟨_, rfl, m, rfl, _, _, rfl, rfl, side, ?_⟩⟩
    refine ⟨_, rfl, _, rfl, _, _, rfl, rfl, t1, _, _, rfl, rfl, t2, _, rfl, _, _, rfl, rfl, t3, _, rfl, t4, t5, fun C1 RC => ⟨_, rfl, n, rfl, _, _, rfl, rfl, side, ?_⟩⟩
    refine ⟨_, rfl, _, rfl, _, _, rfl, rfl, cw, _, rfl, _, _, rfl, rfl, _, rfl, _, _, rfl, rfl, ?_⟩
    refine ⟨_, rfl, _, _, rfl, rfl, .inr ⟨_, rfl, _, rfl, _, rfl, _, _, rfl, rfl, .inr ⟨_, rfl, _, _, rfl, rfl, ?_⟩⟩⟩
    rw [← fin A1 C1 RA RC] at q
    exact q

theorem cut_ij {ns : List Int} (i j : Nat) (hi : i ≤ j) (h : j ≤ ns.length) : cutV (ns.map V.int) (some (i : Int)) (some (j : Int)) = ((ns.drop i).take (j - i)).map V.int := by
  unfold cutV
  rw [HT.sIx_nat, HT.sIx_nat, List.length_map, Nat.min_eq_left (show i ≤ ns.length by omega), Nat.min_eq_left h, ← List.map_drop, ← List.map_take]
theorem cut_0j {ns : List Int} (j : Nat) (h : j ≤ ns.length) : cutV (ns.map V.int) none (some (j : Int)) = (ns.take j).map V.int := by
  unfold cutV
  rw [HT.sIx_nat, HT.sIx_none, List.drop_zero, Nat.sub_zero, List.length_map, Nat.min_eq_left h, List.map_take]

/-- a curve as the law reckons it -/
structure Crv (A B C : Int) : Prop where
  ex : ∃ W Hh L U : Int, A = W * W + Hh * Hh ∧ B = W * L + Hh * U ∧ C = L * L + U * U
  ba : bits A ≤ 103
  bb : bits B ≤ 103
  bc : bits C ≤ 103
theorem sq0 (x : Int) : 0 ≤ x * x := by rw [← abs_sq x]; exact Int.mul_nonneg (abs_nn x) (abs_nn x)
theorem Crv.a0 {A B C : Int} (c : Crv A B C) : 0 ≤ A := by
  obtain ⟨W, Hh, L, U, rfl, _⟩ := c.ex
  exact Int.add_nonneg (sq0 _) (sq0 _)
theorem Crv.c0 {A B C : Int} (c : Crv A B C) : 0 ≤ C := by
  obtain ⟨W, Hh, L, U, _, _, rfl⟩ := c.ex
  exact Int.add_nonneg (sq0 _) (sq0 _)
theorem Crv.w0 {A B C : Int} (c : Crv A B C) (t s : Int) : 0 ≤ A * t * t - 2 * B * t * s + C * s * s := by
  obtain ⟨W, Hh, L, U, rfl, rfl, rfl⟩ := c.ex
  have e : (W * W + Hh * Hh) * t * t - 2 * (W * L + Hh * U) * t * s + (L * L + U * U) * s * s = (W * t - L * s) * (W * t - L * s) + (Hh * t - U * s) * (Hh * t - U * s) := by grind
  rw [e]
  exact Int.add_nonneg (sq0 _) (sq0 _)
theorem Crv.e0 {A B C : Int} (c : Crv A B C) : 0 ≤ A - 2 * B + C := by
  have h := c.w0 1 1
  rw [Int.mul_one, Int.mul_one, Int.mul_one, Int.mul_one, Int.mul_one, Int.mul_one] at h
  exact h
theorem Crv.d0 {A B C : Int} (c : Crv A B C) : 0 ≤ A * C - B * B := by
  obtain ⟨W, Hh, L, U, rfl, rfl, rfl⟩ := c.ex
  have e : (W * W + Hh * Hh) * (L * L + U * U) - (W * L + Hh * U) * (W * L + Hh * U) = (W * U - Hh * L) * (W * U - Hh * L) := by grind
  rw [e]
  exact sq0 _
theorem Crv.lT {A B C : Int} (c : Crv A B C) : 0 ≤ lstT A B C := by
  unfold lstT
  have h1 := c.c0
  have h2 := c.e0
  have h3 := c.d0
  split
  · exact h1
  · split
    · exact h2
    · exact h3
theorem Crv.lB {A B C : Int} (c : Crv A B C) : 0 < lstB A B := by
  unfold lstB
  have h1 := c.a0
  split
  · decide
  · split
    · decide
    · omega
theorem Crv.lTb {A B C : Int} (c : Crv A B C) : bits (lstT A B C) ≤ 207 := by
  unfold lstT
  split
  · exact bits_le c.bc (by decide)
  · split
    · exact bits_le (bits_add (n := 106) (bits_le (bits_sub (n := 105) (bits_le c.ba (by decide)) (bits_mul (m := 2) (by decide) c.bb)) (by decide)) (bits_le c.bc (by decide))) (by decide)
    · exact bits_sub (bits_mul c.ba c.bc) (bits_mul c.bb c.bb)
theorem Crv.lBb {A B C : Int} (c : Crv A B C) : bits (lstB A B) ≤ 103 := by
  unfold lstB
  split
  · decide
  · split
    · decide
    · exact c.ba
/-- a number with one root, as a gate tells it -/
structure Nm (K : PySem.W.Frag) (H : Hp) (p : Addr) (l : Int × Int × Int × Int) : Prop where
  at_ : SqT K H p [.int l.1, .int l.2.1, .int l.2.2.1, .int l.2.2.2]
  b0 : bits l.1 ≤ 240
  b1 : bits l.2.1 ≤ 2
  b2 : bits l.2.2.1 ≤ 470
  b3 : bits l.2.2.2 ≤ 240
  p2 : 0 ≤ l.2.2.1
  p3 : 1 ≤ l.2.2.2
theorem Nm.mono {K : PySem.W.Frag} {H H' : Hp} {p : Addr} {l : Int × Int × Int × Int} (h : Nm K H p l) (s : Same H H') : Nm K H' p l := ⟨sqT_same h.at_ s, h.b0, h.b1, h.b2, h.b3, h.p2, h.p3⟩
def spThr : Sp := fun vs H Q _ => ∃ (pn : Addr) (ns : List Int), vs = [.ref pn] ∧ H pn = some (.lst (ns.map V.int)) ∧ ns.length = 7 ∧ ∀ (t pc pb pe : Addr) (cx cy bx by_ ex ey : Int) (H' : Hp), Same H H' → H' t = some (.tup [.ref pc, .ref pb, .ref pe]) → Cn H' pc cx cy → Cn H' pb bx by_ → Cn H' pe ex ey → Q (.ref t) H'
def spCrv : Sp := fun vs H Q _ => ∃ (pc pb pe : Addr) (cx cy bx by_ ex ey : Int), vs = [.ref pc, .ref pb, .ref pe] ∧ Cn H pc cx cy ∧ Cn H pb bx by_ ∧ Cn H pe ex ey ∧ ∀ (r : Addr) (H' : Hp), Same H H' → H' r = some (.tup [.int (rLen bx by_ ex ey), .int (rAl cx cy bx by_ ex ey), .int ((cx - bx) * (cx - bx) + (cy - by_) * (cy - by_))]) → Crv (rLen bx by_ ex ey) (rAl cx cy bx by_ ex ey) ((cx - bx) * (cx - bx) + (cy - by_) * (cy - by_)) → Q (.ref r) H'
def spWorth : Sp := fun vs H Q _ => ∃ (r : Addr) (A B C t s : Int), vs = [.ref r, .int t, .int s] ∧ H r = some (.tup [.int A, .int B, .int C]) ∧ Crv A B C ∧ (0 ≤ t ∧ bits t ≤ 40) ∧ (0 < s ∧ bits s ≤ 40) ∧ ∀ (p : Addr) (H' : Hp), Same H H' → H' p = some (.tup [.int (A * t * t - 2 * B * t * s + C * s * s), .int (s * s)]) → 0 ≤ A * t * t - 2 * B * t * s + C * s * s → 0 < s * s → bits (A * t * t - 2 * B * t * s + C * s * s) ≤ 210 → bits (s * s) ≤ 80 → Q (.ref p) H'
def spLeast : Sp := fun vs H Q _ => ∃ (r : Addr) (A B C : Int), vs = [.ref r] ∧ H r = some (.tup [.int A, .int B, .int C]) ∧ Crv A B C ∧ ∀ (p : Addr) (H' : Hp), Same H H' → H' p = some (.tup [.int (lstT A B C), .int (lstB A B)]) → Q (.ref p) H'
def spLowr : Sp := fun vs H Q _ => ∃ (r : Addr) (a b : Int), vs = [.ref r] ∧ H r = some (.tup [.int a, .int b]) ∧ (0 ≤ a ∧ bits a ≤ 230) ∧ (0 < b ∧ bits b ≤ 130) ∧ ∀ (p : Addr) (x y : Int) (H' : Hp), Same H H' → Sq H' p x y → Low x y → 0 ≤ x → Q (.ref p) H'
def spLeash : Sp := fun vs H Q _ => ∃ (r pn : Addr) (A B C : Int) (ns : List Int), vs = [.ref r, .ref pn] ∧ H r = some (.tup [.int A, .int B, .int C]) ∧ Crv A B C ∧ H pn = some (.lst (ns.map V.int)) ∧ ns.length = 3 ∧ (∀ n ∈ ns, 0 ≤ n ∧ bits n ≤ 70) ∧ ∀ (p : Addr) (x y : Int) (H' : Hp), Same H H' → Sq H' p x y → Low x y → 0 ≤ x → Q (.ref p) H'
def spOrdE (K : PySem.W.Frag) : Sp := fun vs H Q _ => ∃ (p q : Addr) (l m : Int × Int × Int × Int), vs = [.ref p, .ref q] ∧ Nm K H p l ∧ Nm K H q m ∧ Q (.int (ro l.1 l.2.1 l.2.2.1 l.2.2.2 m.1 m.2.1 m.2.2.1 m.2.2.2)) H
theorem S_law_curve : FnScope ["corner", "begin", "end", "wide", "high", "left", "up"] ["corner", "begin", "end"] (defScope (top 31)) := ⟨rfl, rfl, rfl, by decide +kernel, rfl, by decide +kernel, by decide +kernel⟩
theorem fn_law_curve (D_law_curve : Df K mg "_law_curve" (top 31)) : Fn P w K mg base "_law_curve" ["corner", "begin", "end"] 1 spCrv := by
  refine D_law_curve.fn S_law_curve (fun _ _ _ _ _ _ us hl => match us, hl with | [_, _, _], _ => rfl) (fun vs H Q E h => ?_) (fun f cdv A outer s H vs Q E hr h => ?_)
  · obtain ⟨pc, pb, pe, cx, cy, bx, by_, ex, ey, rfl, _⟩ := h
    rfl
  · obtain ⟨pc, pb, pe, cx, cy, bx, by_, ex, ey, rfl, c1, c2, c3, k⟩ := h
    refine ⟨_, (pss_cons (ps_set (i := 3) S_law_curve.nd rfl (Or.inl rfl) (pe_op op_sub (pe_ix ix_tup (pv 2) pe_int (fun _ _ => rfl)) (pe_ix ix_tup (pv 1) pe_int (fun _ _ => rfl)))) (pss_cons (ps_set (i := 4) S_law_curve.nd rfl (Or.inl rfl) (pe_op op_sub (pe_ix ix_tup (pv 2) pe_int (fun _ _ => rfl)) (pe_ix ix_tup (pv 1) pe_int (fun _ _ => rfl)))) (pss_cons (ps_set (i := 5) S_law_curve.nd rfl (Or.inl rfl) (pe_op op_sub (pe_ix ix_tup (pv 0) pe_int (fun _ _ => rfl)) (pe_ix ix_tup (pv 1) pe_int (fun _ _ => rfl)))) (pss_cons (ps_set (i := 6) S_law_curve.nd rfl (Or.inl rfl) (pe_op op_sub (pe_ix ix_tup (pv 0) pe_int (fun _ _ => rfl)) (pe_ix ix_tup (pv 1) pe_int (fun _ _ => rfl)))) (pss_one (ps_ret (pe_tupA (pa_cons (pe_op op_add (pe_op op_mulX (pv 3) (pv 3)) (pe_op op_mulX (pv 4) (pv 4))) (pa_cons (pe_op op_add (pe_op op_mulX (pv 3) (pv 5)) (pe_op op_mulX (pv 4) (pv 6))) (pa_cons (pe_op op_add (pe_op op_mulX (pv 5) (pv 5)) (pe_op op_mulX (pv 6) (pv 6))) pa_nil)))))))))), ?_⟩
    have bd : ∀ {u v : Int}, bits u ≤ 50 → bits v ≤ 50 → bits (u - v) ≤ 51 := fun h1 h2 => bits_sub h1 h2
    have w1 := bd c3.bx c2.bx
    have w2 := bd c3.by_ c2.by_
    have w3 := bd c1.bx c2.bx
    have w4 := bd c1.by_ c2.by_
    have cm : ∀ {u v : Int}, bits u ≤ 51 → bits v ≤ 51 → CM u v := fun h1 h2 => CM.b h1 h2 (by decide) (by decide)
    refine ⟨_, rfl, pe, _, _, _, rfl, rfl, SqT.of c3.at_, rfl, _, rfl, pb, _, _, _, rfl, rfl, SqT.of c2.at_, rfl, _, _, rfl, rfl, ?_⟩
    refine ⟨_, rfl, pe, _, _, _, rfl, rfl, SqT.of c3.at_, rfl, _, rfl, pb, _, _, _, rfl, rfl, SqT.of c2.at_, rfl, _, _, rfl, rfl, ?_⟩
    refine ⟨_, rfl, pc, _, _, _, rfl, rfl, SqT.of c1.at_, rfl, _, rfl, pb, _, _, _, rfl, rfl, SqT.of c2.at_, rfl, _, _, rfl, rfl, ?_⟩
    refine ⟨_, rfl, pc, _, _, _, rfl, rfl, SqT.of c1.at_, rfl, _, rfl, pb, _, _, _, rfl, rfl, SqT.of c2.at_, rfl, _, _, rfl, rfl, ?_⟩
    refine ⟨_, rfl, _, rfl, _, _, rfl, rfl, cm w1 w1, _, rfl, _, rfl, _, _, rfl, rfl, cm w2 w2, _, _, rfl, rfl, _, rfl, _, rfl, _, _, rfl, rfl, cm w1 w3, _, rfl, _, rfl, _, _, rfl, rfl, cm w2 w4, _, _, rfl, rfl, _, rfl, _, rfl, _, _, rfl, rfl, cm w3 w3, _, rfl, _, rfl, _, _, rfl, rfl, cm w4 w4, _, _, rfl, rfl, sz (by simp), fun r H1 s1 f1 _ => ?_⟩
    have eB : (ex - bx) * (cx - bx) + (ey - by_) * (cy - by_) = rAl cx cy bx by_ ex ey := by
      unfold rAl
      rw [Int.mul_comm (ex - bx), Int.mul_comm (ey - by_)]
    refine k r H1 s1 (by rw [← eB]; exact f1) ⟨⟨ex - bx, ey - by_, cx - bx, cy - by_, rfl, eB.symm, rfl⟩, bits_add (bits_mul w1 w1) (bits_mul w2 w2), bits_add (bits_mul w3 w1) (bits_mul w4 w2), bits_add (bits_mul w3 w3) (bits_mul w4 w4)⟩
theorem S_law_worth : FnScope ["curve", "top", "bottom", "a", "b", "c"] ["curve", "top", "bottom"] (defScope (top 32)) := ⟨rfl, rfl, rfl, by decide +kernel, rfl, by decide +kernel, by decide +kernel⟩
theorem fn_law_worth (D_law_worth : Df K mg "_law_worth" (top 32)) : Fn P w K mg base "_law_worth" ["curve", "top", "bottom"] 1 spWorth := by
  refine D_law_worth.fn S_law_worth (fun _ _ _ _ _ _ us hl => match us, hl with | [_, _, _], _ => rfl) (fun vs H Q E h => ?_) (fun f cdv A outer s H vs Q E hr h => ?_)
  · obtain ⟨r, A, B, C, t, s_, rfl, _⟩ := h
    rfl
  · obtain ⟨r, A, B, C, t, s_, rfl, e, c, ⟨t0, t1⟩, ⟨s0, s1⟩, k⟩ := h
    refine ⟨_, (pss_cons (ps_asg (pv 0) (pg_tup rfl (pgs_cons (pg_name (i := 3) S_law_worth.nd rfl (Or.inl rfl)) (pgs_cons (pg_name (i := 4) S_law_worth.nd rfl (Or.inl rfl)) (pgs_cons (pg_name (i := 5) S_law_worth.nd rfl (Or.inl rfl)) pgs_nil))))) (pss_one (ps_ret (pe_tupA (pa_cons (pe_op op_add (pe_op op_sub (pe_op op_mulX (pe_op op_mulX (pv 3) (pv 1)) (pv 1)) (pe_op op_mulX (pe_op op_mulX (pe_op op_mulX pe_int (pv 4)) (pv 1)) (pv 2))) (pe_op op_mulX (pe_op op_mulX (pv 5) (pv 2)) (pv 2))) (pa_cons (pe_op op_mulX (pv 2) (pv 2)) pa_nil)))))), ?_⟩
    have bt := t1
    have bs := s1
    have cm : ∀ {u v : Int} {m n : Nat}, bits u ≤ m → bits v ≤ n → m ≤ 1000 → n ≤ 1000 → CM u v := fun h1 h2 a b => CM.b h1 h2 (by omega) (by omega)
    have b1 : bits (A * t) ≤ 143 := bits_mul c.ba bt
    have b2 : bits (A * t * t) ≤ 183 := bits_mul b1 bt
    have b3 : bits (2 * B) ≤ 105 := bits_mul (m := 2) (by decide) c.bb
    have b4 : bits (2 * B * t) ≤ 145 := bits_mul b3 bt
    have b5 : bits (2 * B * t * s_) ≤ 185 := bits_mul b4 bs
    have b6 : bits (C * s_) ≤ 143 := bits_mul c.bc bs
    have b7 : bits (C * s_ * s_) ≤ 183 := bits_mul b6 bs
    refine ⟨_, rfl, r, _, rfl, SqT.of (e), rfl, _, _, rfl, _, _, rfl, _, _, rfl, rfl, ?_⟩
    refine ⟨_, rfl, _, rfl, _, _, rfl, rfl, cm c.ba bt (by decide) (by decide), _, rfl, _, _, rfl, rfl, cm b1 bt (by decide) (by decide), _, rfl, _, _, rfl, rfl, CM.l (lt64s (by decide) (by decide)), _, rfl, _, _, rfl, rfl, cm b3 bt (by decide) (by decide), _, rfl, _, _, rfl, rfl, cm b4 bs (by decide) (by decide), _, _, rfl, rfl, _, rfl, _, rfl, _, _, rfl, rfl, cm c.bc bs (by decide) (by decide), _, rfl, _, _, rfl, rfl, cm b6 bs (by decide) (by decide), _, _, rfl, rfl, _, rfl, _, rfl, _, _, rfl, rfl, cm bs bs (by decide) (by decide), sz (by simp), fun p H1 s2 f1 _ => ?_⟩
    exact k p H1 s2 f1 (c.w0 t s_) (Int.mul_pos s0 s0) (bits_le (bits_add (n := 186) (bits_le (bits_sub (n := 185) (bits_le b2 (by decide)) b5) (by decide)) (bits_le b7 (by decide))) (by decide)) (bits_mul bs bs)
theorem S_law_least : FnScope ["curve", "a", "b", "c"] ["curve"] (defScope (top 33)) := ⟨rfl, rfl, rfl, by decide +kernel, rfl, by decide +kernel, by decide +kernel⟩
theorem fn_law_least (D_law_least : Df K mg "_law_least" (top 33)) : Fn P w K mg base "_law_least" ["curve"] 1 spLeast := by
  refine D_law_least.fn S_law_least (fun _ _ _ _ _ _ us hl => match us, hl with | [_], _ => rfl) (fun vs H Q E h => ?_) (fun f cdv A outer s H vs Q E hr h => ?_)
  · obtain ⟨r, A, B, C, rfl, _⟩ := h
    rfl
  · obtain ⟨r, A, B, C, rfl, e, c, k⟩ := h
    refine ⟨_, (pss_cons (ps_asg (pv 0) (pg_tup rfl (pgs_cons (pg_name (i := 1) S_law_least.nd rfl (Or.inl rfl)) (pgs_cons (pg_name (i := 2) S_law_least.nd rfl (Or.inl rfl)) (pgs_cons (pg_name (i := 3) S_law_least.nd rfl (Or.inl rfl)) pgs_nil))))) (pss_cons (ps_if (pw_or (pt_cmpR op_eq (pv 1) pe_int (nomark _)) (pw_or1 (pt_cmpR op_le (pv 2) pe_int (nomark _)))).pt (pss_one (ps_ret (pe_tupA (pa_cons (pv 3) (pa_cons pe_int pa_nil))))) pss_nil) (pss_cons (ps_if (pt_cmpR op_ge (pv 2) (pv 1) (nomark _)) (pss_one (ps_ret (pe_tupA (pa_cons (pe_op op_add (pe_op op_sub (pv 1) (pe_op op_mulX pe_int (pv 2))) (pv 3)) (pa_cons pe_int pa_nil))))) pss_nil) (pss_one (ps_ret (pe_tupA (pa_cons (pe_op op_sub (pe_op op_mulX (pv 1) (pv 3)) (pe_op op_mulX (pv 2) (pv 2))) (pa_cons (pv 1) pa_nil)))))))), ?_⟩
    have two : ∀ x : Int, CM 2 x := fun x => CM.l (lt64s (by decide) (by decide))
    refine ⟨_, rfl, r, _, rfl, SqT.of (e), rfl, _, _, rfl, _, _, rfl, _, _, rfl, rfl, ?_⟩
    unfold lstT lstB at k
    refine ⟨_, rfl, rfl, _, rfl, ite3 (fun h1 => ?_) (fun h1 => ?_)⟩
    · have h1 : A = 0 := by
        have := dec_t h1
        injection this
      rw [if_pos (.inl h1), if_pos (.inl h1)] at k
      exact ⟨_, rfl, sz (by simp), fun p H1 s1 f1 _ => k p H1 s1 f1⟩
    have h1 : ¬ A = 0 := fun z => by
      subst z
      exact absurd h1 (by decide)
    refine ⟨_, rfl, _, _, rfl, rfl, _, rfl, ite3 (fun h2 => ?_) (fun h2 => ?_)⟩
    · have h2 : B ≤ 0 := dec_t h2
      rw [if_pos (.inr h2), if_pos (.inr h2)] at k
      exact ⟨_, rfl, sz (by simp), fun p H1 s1 f1 _ => k p H1 s1 f1⟩
    have h2 : ¬ B ≤ 0 := dec_f h2
    rw [if_neg (show ¬ (A = 0 ∨ B ≤ 0) by omega), if_neg (show ¬ (A = 0 ∨ B ≤ 0) by omega)] at k
    refine ⟨_, rfl, _, rfl, _, _, rfl, rfl, _, rfl, ite3 (fun h3 => ?_) (fun h3 => ?_)⟩
    · have h3 : B ≥ A := dec_t h3
      rw [if_pos h3, if_pos h3] at k
      exact ⟨_, rfl, _, rfl, _, _, rfl, rfl, two _, _, _, rfl, rfl, _, rfl, _, _, rfl, rfl, sz (by simp), fun p H1 s1 f1 _ => k p H1 s1 f1⟩
    · have h3 : ¬ B ≥ A := dec_f h3
      rw [if_neg h3, if_neg h3] at k
      exact ⟨_, rfl, _, rfl, _, _, rfl, rfl, CM.b c.ba c.bc (by decide) (by decide), _, rfl, _, rfl, _, _, rfl, rfl, CM.b c.bb c.bb (by decide) (by decide), _, _, rfl, rfl, _, rfl, sz (by simp), fun p H1 s1 f1 _ => k p H1 s1 f1⟩
theorem S_law_lower : FnScope ["pair", "by"] ["pair"] (defScope (top 34)) := ⟨rfl, rfl, rfl, by decide +kernel, rfl, by decide +kernel, by decide +kernel⟩
theorem fn_law_lower (D_law_lower : Df K mg "_law_lower" (top 34)) (F_law_common : Fn P w K mg base "_law_common" ["one", "other"] 1 spCommon) : Fn P w K mg base "_law_lower" ["pair"] 2 spLowr := by
  refine D_law_lower.fn S_law_lower (fun _ _ _ _ _ _ us hl => match us, hl with | [_], _ => rfl) (fun vs H Q E h => ?_) (fun f cdv A outer s H vs Q E hr h => ?_)
  · obtain ⟨r, a, b, rfl, _⟩ := h
    rfl
  · obtain ⟨r, a, b, rfl, e, ⟨ha, ba⟩, ⟨hb, bb⟩, k⟩ := h
    refine ⟨_, (pss_cons (ps_set (i := 1) S_law_lower.nd rfl (Or.inl rfl) (pe_fn F_law_common (hr.mono (by decide)) (by rfl) (pa_cons (pe_ix ix_tup (pv 0) pe_int (fun _ _ => rfl)) (pa_cons (pe_ix ix_tup (pv 0) pe_int (fun _ _ => rfl)) pa_nil)))) (pss_one (ps_ret (pe_tupA (pa_cons (pe_op op_fdivP (pe_ix ix_tup (pv 0) pe_int (fun _ _ => rfl)) (pv 1)) (pa_cons (pe_op op_fdivP (pe_ix ix_tup (pv 0) pe_int (fun _ _ => rfl)) (pv 1)) pa_nil)))))), ?_⟩
    have hg := gcd_pos (a := a) (b := b) (by omega)
    have bg : bits (Int.gcd a b : Int) ≤ 8000 := bits_le (gcd_bits2 (by omega) bb) (by decide)
    refine ⟨_, rfl, r, _, _, _, rfl, rfl, SqT.of e, rfl, _, rfl, r, _, _, _, rfl, rfl, SqT.of e, rfl, a, b, rfl, ha, by omega, ?_⟩
    refine ⟨_, rfl, r, _, _, _, rfl, rfl, SqT.of e, rfl, _, rfl, _, _, rfl, rfl, ⟨hg, bg⟩, _, rfl, r, _, _, _, rfl, rfl, SqT.of e, rfl, _, rfl, _, _, rfl, rfl, ⟨hg, bg⟩, sz (by simp), fun p H1 s1 f1 _ => ?_⟩
    exact k p _ _ H1 s1 ⟨f1, bits_ediv hg ba, bits_ediv hg bb⟩ (frac_pos hb).low (Int.ediv_nonneg ha (by omega))
theorem S_law_order : FnScope ["one", "other", "p", "q", "r", "s", "t", "u", "v", "w"] ["one", "other"] (defScope (top 29)) := ⟨rfl, rfl, rfl, by decide +kernel, rfl, by decide +kernel, by decide +kernel⟩
theorem fn_law_order (D_law_order : Df K mg "_law_order" (top 29)) (F_law_sign : Fn P w K mg base "_law_sign" ["whole", "many", "under", "more", "lower"] 2 spLSign) : Fn P w K mg base "_law_order" ["one", "other"] 3 (spOrdE K) := by
  refine D_law_order.fn S_law_order (fun _ _ _ _ _ _ us hl => match us, hl with | [_, _], _ => rfl) (fun vs H Q E h => ?_) (fun f cdv A outer s H vs Q E hr h => ?_)
  · obtain ⟨p, q, l, m, rfl, _⟩ := h
    rfl
  · obtain ⟨p, q, l, m, rfl, n, o, k⟩ := h
    refine ⟨_, (pss_cons (ps_asg (pv 0) (pg_tup rfl (pgs_cons (pg_name (i := 2) S_law_order.nd rfl (Or.inl rfl)) (pgs_cons (pg_name (i := 3) S_law_order.nd rfl (Or.inl rfl)) (pgs_cons (pg_name (i := 4) S_law_order.nd rfl (Or.inl rfl)) (pgs_cons (pg_name (i := 5) S_law_order.nd rfl (Or.inl rfl)) pgs_nil)))))) (pss_cons (ps_asg (pv 1) (pg_tup rfl (pgs_cons (pg_name (i := 6) S_law_order.nd rfl (Or.inl rfl)) (pgs_cons (pg_name (i := 7) S_law_order.nd rfl (Or.inl rfl)) (pgs_cons (pg_name (i := 8) S_law_order.nd rfl (Or.inl rfl)) (pgs_cons (pg_name (i := 9) S_law_order.nd rfl (Or.inl rfl)) pgs_nil)))))) (pss_one (ps_ret (pe_fn F_law_sign (hr.mono (by decide)) (by rfl) (pa_cons (pe_op op_sub (pe_op op_mulX (pv 2) (pv 9)) (pe_op op_mulX (pv 6) (pv 5))) (pa_cons (pe_op op_mulX (pv 3) (pv 9)) (pa_cons (pv 4) (pa_cons (pe_op op_mulX (pv 7) (pv 5)) (pa_cons (pv 8) pa_nil)))))))))), ?_⟩
    have un4 : ∀ {z : Addr} {y : Int × Int × Int × Int}, Nm K H z y → SqT K H z [.int y.1, .int y.2.1, .int y.2.2.1, .int y.2.2.2] := fun h => h.at_
    have cm : ∀ {u v : Int} {m n : Nat}, bits u ≤ m → bits v ≤ n → m ≤ 1000 → n ≤ 1000 → CM u v := fun h1 h2 a b => CM.b h1 h2 (by omega) (by omega)
    refine ⟨_, rfl, p, _, rfl, n.at_, rfl, _, _, rfl, _, _, rfl, _, _, rfl, _, _, rfl, rfl, ?_⟩
    refine ⟨_, rfl, q, _, rfl, o.at_, rfl, _, _, rfl, _, _, rfl, _, _, rfl, _, _, rfl, rfl, ?_⟩
    refine ⟨_, rfl, _, rfl, _, _, rfl, rfl, cm n.b0 o.b3 (by decide) (by decide), _, rfl, _, rfl, _, _, rfl, rfl, cm o.b0 n.b3 (by decide) (by decide), _, _, rfl, rfl, _, rfl, _, rfl, _, _, rfl, rfl, cm n.b1 o.b3 (by decide) (by decide), _, rfl, _, rfl, _, rfl, _, _, rfl, rfl, cm o.b1 n.b3 (by decide) (by decide), _, rfl, ?_⟩
    refine ⟨_, _, _, _, _, rfl, ⟨n.p2, o.p2⟩, ⟨bits_le (bits_sub (bits_mul n.b0 o.b3) (bits_mul o.b0 n.b3)) (by decide), bits_le (bits_mul n.b1 o.b3) (by decide), n.b2, bits_le (bits_mul o.b1 n.b3) (by decide), o.b2⟩, ?_⟩
    unfold ro at k
    rw [Int.neg_mul] at k
    exact k
theorem S_law_three : FnScope ["numbers", "most", "wide", "some", "corner", "begin", "end"] ["numbers"] (defScope (top 30)) := ⟨rfl, rfl, rfl, by decide +kernel, rfl, by decide +kernel, by decide +kernel⟩
theorem fn_law_three (D_law_three : Df K mg "_law_three" (top 30)) (T : Txt mg) : Fn P w K mg base "_law_three" ["numbers"] 1 spThr := by
  refine D_law_three.fn S_law_three (fun _ _ _ _ _ _ us hl => match us, hl with | [_], _ => rfl) (fun vs H Q E h => ?_) (fun f cdv A outer s H vs Q E hr h => ?_)
  · obtain ⟨pn, ns, rfl, _⟩ := h
    rfl
  · obtain ⟨pn, ns, rfl, e, h7, k⟩ := h
    have CN : CompN (cxOf CX0 P w K mg base ["numbers", "most", "wide", "some", "corner", "begin", "end"] "_law_three" (defScope (top 30)) f cdv A outer s H E).nox (setScope ((defBody (top 30)).getD 2 (.Pass ⟨0, 0, 0, 0⟩))) [("wide", s.heap.objs.size + 2), ("numbers", s.heap.objs.size + 1)] "k" [("numbers", 0), ("wide", 2)] :=
      ⟨by rfl, rfl, by decide +kernel, by decide +kernel, rfl, (fun p hp => by simp only [List.mem_cons, List.not_mem_nil, or_false] at hp; rcases hp with rfl | rfl <;> rfl), by rfl, by decide +kernel, (fun p hp => by simp only [List.mem_cons, List.not_mem_nil, or_false] at hp; rcases hp with rfl | rfl <;> exact ⟨rfl, rfl, .inr (.inl rfl), rfl, rfl⟩), ⟨rfl, rfl⟩, rfl⟩
    have dv : ∀ k : Int, 0 < k → k ≤ 100 → 0 < k ∧ bits k ≤ 8000 := fun k h0 h1 => ⟨h0, bits_le (bits_small (by omega) (by omega)) (by decide)⟩
    have dv4 := dv 4 (by decide) (by decide)
    have dv32 := dv 32 (by decide) (by decide)
    have t0 : ∀ {H' : Hp}, Same H H' → SqL K H' pn (ns.map V.int) := fun s' => SqL.of (s' _ _ e)
    have a0 : atI (ns.map V.int) 0 = some (.int ns[0]) := at_int 0 rfl (by omega)
    have R3 : ∃ u, PSs (cxOf CX0 P w K mg base ["numbers", "most", "wide", "some", "corner", "begin", "end"] "_law_three" (defScope (top 30)) f cdv A outer s H E).nox ((defBody (top 30)).drop 6) u ∧ ∀ (most wide : Int) (so pc pb pe : Addr) (cx cy bx by_ ex ey : Int) (H1 : Hp), Same H H1 → Cn H1 pc cx cy → Cn H1 pb bx by_ → Cn H1 pe ex ey → u { nx := fun _ H' => Q .non H', rt := Q } [some (.ref pn), some (.int most), some (.int wide), some (.ref so), some (.ref pc), some (.ref pb), some (.ref pe)] H1 := by
      refine ⟨_, (pss_cons (ps_if (pt_cmpR op_eq (pe_op op_mod (pe_op op_fdivP (pe_ix ix_list (pv 0) pe_int (fun _ _ => rfl)) pe_int) pe_int) pe_int (nomark _)) (pss_cons (ps_set (i := 4) S_law_three.nd rfl (Or.inl rfl) (pe_tupA (pa_cons (pe_ix ix_tup (pv 5) pe_int (fun _ _ => rfl)) (pa_cons (pe_ix ix_tup (pv 4) pe_int (fun _ _ => rfl)) pa_nil)))) (pss_one (ps_set (i := 6) S_law_three.nd rfl (Or.inl rfl) (pe_tupA (pa_cons (pe_ix ix_tup (pv 6) pe_int (fun _ _ => rfl)) (pa_cons (pe_ix ix_tup (pv 5) pe_int (fun _ _ => rfl)) pa_nil)))))) pss_nil) (pss_one (ps_ret (pe_tupA (pa_cons (pv 4) (pa_cons (pv 5) (pa_cons (pv 6) pa_nil))))))), fun most wide so pc pb pe cx cy bx by_ ex ey H1 s1 c1 c2 c3 => ?_⟩
      refine ⟨_, rfl, pn, _, _, _, rfl, rfl, t0 s1, a0, _, _, rfl, rfl, dv4, _, _, rfl, rfl, (by show (0 : Int) < 8; decide), rfl, _, rfl, ite3 (fun h1 => ?_) (fun h1 => ?_)⟩
      · refine ⟨_, rfl, pb, _, _, _, rfl, rfl, SqT.of c2.at_, rfl, _, rfl, pc, _, _, _, rfl, rfl, SqT.of c1.at_, rfl, sz (by simp), fun q1 H3 s3 f3 _ => ?_⟩
        have d2 := c2.mono s3
        have d3 := c3.mono s3
        refine ⟨_, rfl, pe, _, _, _, rfl, rfl, SqT.of d3.at_, rfl, _, rfl, pb, _, _, _, rfl, rfl, SqT.of d2.at_, rfl, sz (by simp), fun q2 H4 s4 f4 _ => ?_⟩
        exact ⟨_, rfl, _, rfl, _, rfl, sz (by simp), fun t H5 s5 f5 _ => k t q1 pb q2 _ _ _ _ _ _ H5 (s1.trans (s3.trans (s4.trans s5))) f5 ⟨s5 _ _ (s4 _ _ f3), c2.bx, c1.by_⟩ ((d2.mono s4).mono s5) ⟨s5 _ _ f4, c3.bx, c2.by_⟩⟩
      · exact ⟨_, rfl, _, rfl, _, rfl, sz (by simp), fun t H5 s5 f5 _ => k t pc pb pe _ _ _ _ _ _ H5 (s1.trans s5) f5 (c1.mono s5) (c2.mono s5) (c3.mono s5)⟩
    obtain ⟨u3, hu3, third⟩ := R3
    have R2 : ∃ u, PSs (cxOf CX0 P w K mg base ["numbers", "most", "wide", "some", "corner", "begin", "end"] "_law_three" (defScope (top 30)) f cdv A outer s H E).nox ((defBody (top 30)).drop 5) u ∧ ∀ (most wide : Int) (so pc pb pe : Addr) (cx cy bx by_ ex ey : Int) (H1 : Hp), Same H H1 → Cn H1 pc cx cy → Cn H1 pb bx by_ → Cn H1 pe ex ey → u { nx := fun _ H' => Q .non H', rt := Q } [some (.ref pn), some (.int most), some (.int wide), some (.ref so), some (.ref pc), some (.ref pb), some (.ref pe)] H1 := by
      refine ⟨_, pss_cons (ps_if (pt_cmpR op_eq (pe_op op_mod (pe_op op_fdivP (pe_ix ix_list (pv 0) pe_int (fun _ _ => rfl)) pe_int) pe_int) pe_int (nomark _)) (pss_one (ps_set (i := 4) S_law_three.nd rfl (Or.inl rfl) (pe_ix ix_list (pe_lstA (pa_cons (pv 5) (pa_cons (pv 6) pa_nil))) (pe_op op_mod (pe_op op_fdivP (pe_ix ix_list (pv 0) pe_int (fun _ _ => rfl)) pe_int) pe_int) (fun _ _ => rfl)))) pss_nil) hu3, fun most wide so pc pb pe cx cy bx by_ ex ey H1 s1 c1 c2 c3 => ?_⟩
      refine ⟨_, rfl, pn, _, _, _, rfl, rfl, t0 s1, a0, _, _, rfl, rfl, dv4, _, _, rfl, rfl, (by show (0 : Int) < 8; decide), rfl, _, rfl, ite3 (fun h1 => ?_) (fun h1 => ?_)⟩
      · refine ⟨_, rfl, _, rfl, sz (by simp), fun m H2 s2 f2 _ => ?_⟩
        refine ⟨_, rfl, pn, _, _, _, rfl, rfl, t0 (s1.trans s2), a0, _, _, rfl, rfl, dv32, _, _, rfl, rfl, (by show (0 : Int) < 2; decide), ?_⟩
        refine menu_mod f2 (by decide) (by simp) fun v hv => ?_
        simp only [List.mem_cons, List.not_mem_nil, or_false] at hv
        rcases hv with rfl | rfl
        · exact third most wide so pb pb pe _ _ _ _ _ _ H2 (s1.trans s2) (c2.mono s2) (c2.mono s2) (c3.mono s2)
        · exact third most wide so pe pb pe _ _ _ _ _ _ H2 (s1.trans s2) (c3.mono s2) (c2.mono s2) (c3.mono s2)
      · exact third most wide so pc pb pe _ _ _ _ _ _ H1 s1 c1 c2 c3
    obtain ⟨u2, hu2, second⟩ := R2
    have R : ∃ u, PSs (cxOf CX0 P w K mg base ["numbers", "most", "wide", "some", "corner", "begin", "end"] "_law_three" (defScope (top 30)) f cdv A outer s H E).nox ((defBody (top 30)).drop 4) u ∧ ∀ (most wide : Int) (so pc pb pe : Addr) (cx cy bx by_ ex ey : Int) (H1 : Hp), Same H H1 → Cn H1 pc cx cy → Cn H1 pb bx by_ → Cn H1 pe ex ey → u { nx := fun _ H' => Q .non H', rt := Q } [some (.ref pn), some (.int most), some (.int wide), some (.ref so), some (.ref pc), some (.ref pb), some (.ref pe)] H1 := by
      refine ⟨_, pss_cons (ps_if (pt_cmpR op_eq (pe_op op_mod (pe_op op_fdivP (pe_ix ix_list (pv 0) pe_int (fun _ _ => rfl)) pe_int) pe_int) pe_int (nomark _)) (pss_one (ps_set (i := 6) S_law_three.nd rfl (Or.inl rfl) (pv 5))) pss_nil) hu2, fun most wide so pc pb pe cx cy bx by_ ex ey H1 s1 c1 c2 c3 => ?_⟩
      refine ⟨_, rfl, pn, _, _, _, rfl, rfl, t0 s1, a0, _, _, rfl, rfl, dv4, _, _, rfl, rfl, (by show (0 : Int) < 8; decide), rfl, _, rfl, ite3 (fun h1 => ?_) (fun h1 => ?_)⟩
      · exact ⟨_, rfl, second most wide so pc pb pb _ _ _ _ _ _ H1 s1 c1 c2 c2⟩
      · exact second most wide so pc pb pe _ _ _ _ _ _ H1 s1 c1 c2 c3
    obtain ⟨u, hu, ru⟩ := R
    refine ⟨_, (pss_cons (ps_set (i := 1) S_law_three.nd rfl (Or.inl rfl) (pe_op op_sub (pe_op op_pow pe_int pe_int) pe_int)) (pss_cons (ps_set (i := 2) S_law_three.nd rfl (Or.inr rfl) (pe_ix ix_list (pe_lstA (pa_cons pe_int (pa_cons pe_int (pa_cons pe_int (pa_cons (pv 1) pa_nil))))) (pe_op op_mod (pe_ix ix_list (pv 0) pe_int (fun _ _ => rfl)) pe_int) (fun _ _ => rfl))) (pss_cons (ps_setCompA (j := 3) rfl CN S_law_three.nd rfl rfl (pi_range1 rfl T.z_range (pa_cons pe_int pa_nil)) (fun fp s₀ H₀ => (pe_op op_sub (pe_op op_mod (pe_ix (ix_listK (K := K) rfl) (pv 1) (pe_op op_add pe_int (pv 0)) (fun _ _ => rfl)) (pe_op op_add (pe_op op_mulX pe_int (pv 2)) pe_int)) (pv 2)))) (pss_cons (ps_par3 (i := 4) (j := 5) (l := 6) rfl S_law_three.nd rfl rfl rfl (by decide) rfl rfl rfl (pa_cons (pe_tupA (pa_cons (pe_ix ix_list (pv 3) pe_int (fun _ _ => rfl)) (pa_cons (pe_ix ix_list (pv 3) pe_int (fun _ _ => rfl)) pa_nil))) (pa_cons (pe_tupA (pa_cons (pe_ix ix_list (pv 3) pe_int (fun _ _ => rfl)) (pa_cons (pe_ix ix_list (pv 3) pe_int (fun _ _ => rfl)) pa_nil))) (pa_cons (pe_tupA (pa_cons (pe_ix ix_list (pv 3) pe_int (fun _ _ => rfl)) (pa_cons (pe_ix ix_list (pv 3) pe_int (fun _ _ => rfl)) pa_nil))) pa_nil))) (by rfl)) hu)))), ?_⟩
    have e12 : ((10 : Int) ^ (12 : Int).toNat - 1) = 999999999999 := by decide +kernel
    refine ⟨_, _, rfl, rfl, ⟨by decide, by decide, by decide⟩, _, _, rfl, rfl, ?_⟩
    refine ⟨_, rfl, sz (by simp), fun m H1 s1 f1 _ => ?_⟩
    refine ⟨_, rfl, pn, _, _, _, rfl, rfl, SqL.of (s1 _ _ e), at_int 0 rfl (by omega), _, _, rfl, rfl, (by show (0 : Int) < 4; decide), ?_⟩
    refine menu_mod f1 (by decide) (by simp) fun v hv => ?_
    have hv' : ∃ wd : Int, v = .int wd ∧ 0 < wd ∧ wd ≤ 999999999999 := by
      simp only [List.mem_cons, List.not_mem_nil, or_false] at hv
      rcases hv with rfl | rfl | rfl | rfl
      · exact ⟨_, rfl, by decide, by decide⟩
      · exact ⟨_, rfl, by decide, by decide⟩
      · exact ⟨_, rfl, by decide, by decide⟩
      · exact ⟨_, rfl, by rw [e12]; decide, by rw [e12]; decide⟩
    obtain ⟨wd, rfl, w0, w1⟩ := hv'
    refine ⟨6, rfl, by decide, by decide, comp_rR (by decide) (fun i v _ => ∃ z : Int, v = .int z ∧ bits z ≤ 50) (fun _ _ _ _ _ h => h) ?_ ?_⟩
    · intro i H2 Kc hi s2 kk
      have e2 := s2 _ _ (s1 _ _ e)
      refine ⟨_, rfl, _, rfl, _, _, rfl, rfl, pn, _, _, _, rfl, rfl, SqL.of e2, at_int (1 + i) (by omega) (by omega), _, rfl, _, _, rfl, rfl, CM.l (lt64s (by decide) (by decide)), _, _, rfl, rfl, _, _, rfl, rfl, (by show (0 : Int) < 2 * wd + 1; omega), _, rfl, _, _, rfl, rfl, kk _ _ (Same.refl _) ⟨_, rfl, bits_of (n := 50) ?_⟩⟩
      have m0 := Int.emod_nonneg (ns[1 + i]'(by omega)) (show 2 * wd + 1 ≠ 0 by omega)
      have m1 := Int.emod_lt_of_pos (ns[1 + i]'(by omega)) (show 0 < 2 * wd + 1 by omega)
      show _ < 1125899906842624
      omega
    · intro so ys H2 nl s2 f2 hl hr
      have hy : ∃ z0 z1 z2 z3 z4 z5 : Int, ys = [.int z0, .int z1, .int z2, .int z3, .int z4, .int z5] ∧ bits z0 ≤ 50 ∧ bits z1 ≤ 50 ∧ bits z2 ≤ 50 ∧ bits z3 ≤ 50 ∧ bits z4 ≤ 50 ∧ bits z5 ≤ 50 := by
        obtain ⟨y0, y1, y2, y3, y4, y5, rfl⟩ := len6 hl
        obtain ⟨z0, rfl, b0⟩ := hr 0 _ rfl
        obtain ⟨z1, rfl, b1⟩ := hr 1 _ rfl
        obtain ⟨z2, rfl, b2⟩ := hr 2 _ rfl
        obtain ⟨z3, rfl, b3⟩ := hr 3 _ rfl
        obtain ⟨z4, rfl, b4⟩ := hr 4 _ rfl
        obtain ⟨z5, rfl, b5⟩ := hr 5 _ rfl
        exact ⟨z0, z1, z2, z3, z4, z5, rfl, b0, b1, b2, b3, b4, b5⟩
      obtain ⟨z0, z1, z2, z3, z4, z5, rfl, b0, b1, b2, b3, b4, b5⟩ := hy
      have S2 := s1.trans s2
      have at2 : ∀ {H' : Hp}, Same H2 H' → SqL K H' so [.int z0, .int z1, .int z2, .int z3, .int z4, .int z5] := fun s' => SqL.of (s' _ _ f2)
      refine ⟨_, rfl, so, _, _, _, rfl, rfl, at2 (Same.refl _), rfl, _, rfl, so, _, _, _, rfl, rfl, at2 (Same.refl _), rfl, sz (by simp), fun pc H3 s3 f3 _ => ?_⟩
      refine ⟨_, rfl, so, _, _, _, rfl, rfl, at2 s3, rfl, _, rfl, so, _, _, _, rfl, rfl, at2 s3, rfl, sz (by simp), fun pb H4 s4 f4 _ => ?_⟩
      refine ⟨_, rfl, so, _, _, _, rfl, rfl, at2 (s3.trans s4), rfl, _, rfl, so, _, _, _, rfl, rfl, at2 (s3.trans s4), rfl, sz (by simp), fun pe H5 s5 f5 _ => ?_⟩
      refine ⟨_, _, _, rfl, ?_⟩
      exact ru _ wd so pc pb pe _ _ _ _ _ _ H5 (S2.trans (s3.trans (s4.trans s5))) ⟨s5 _ _ (s4 _ _ f3), b0, b1⟩ ⟨s5 _ _ f4, b2, b3⟩ ⟨f5, b4, b5⟩

/-- a fraction to be lowered -/
def Tb (H : Hp) (v : V) : Prop := ∃ (p : Addr) (a b : Int), v = .ref p ∧ H p = some (.tup [.int a, .int b]) ∧ 0 ≤ a ∧ bits a ≤ 210 ∧ 0 < b ∧ bits b ≤ 110
theorem Tb.mono {H H' : Hp} {v : V} (h : Tb H v) (s : Same H H') : Tb H' v := by
  obtain ⟨p, a, b, e, c, r⟩ := h
  exact ⟨p, a, b, e, s _ _ c, r⟩
theorem S_law_leash : FnScope ["curve", "numbers", "a", "b", "c", "by", "some", "top", "bottom"] ["curve", "numbers"] (defScope (top 35)) := ⟨rfl, rfl, rfl, by decide +kernel, rfl, by decide +kernel, by decide +kernel⟩
theorem fn_law_leash (D_law_leash : Df K mg "_law_leash" (top 35)) (F_law_worth : Fn P w K mg base "_law_worth" ["curve", "top", "bottom"] 1 spWorth) (F_law_least : Fn P w K mg base "_law_least" ["curve"] 1 spLeast) (F_law_lower : Fn P w K mg base "_law_lower" ["pair"] 2 spLowr) : Fn P w K mg base "_law_leash" ["curve", "numbers"] 3 spLeash := by
  refine D_law_leash.fn S_law_leash (fun _ _ _ _ _ _ us hl => match us, hl with | [_, _], _ => rfl) (fun vs H Q E h => ?_) (fun f cdv A outer s H vs Q E hr h => ?_)
  · obtain ⟨r, pn, a_, b_, c_, ns, rfl, _⟩ := h
    rfl
  · obtain ⟨r, pn, a_, b_, c_, ns, rfl, e, c, en, h3, nn, k⟩ := h
    have N0 := nn ns[0] (List.getElem_mem (by omega))
    have N1 := nn ns[1] (List.getElem_mem (by omega))
    have N2 := nn ns[2] (List.getElem_mem (by omega))
    have dv7 : (0 : Int) < 7 ∧ bits (7 : Int) ≤ 8000 := ⟨by decide, by decide⟩
    have a0 : atI (ns.map V.int) 0 = some (.int ns[0]) := at_int 0 rfl (by omega)
    have a1 : atI (ns.map V.int) 1 = some (.int ns[1]) := at_int 1 rfl (by omega)
    have a2 : atI (ns.map V.int) 2 = some (.int ns[2]) := at_int 2 rfl (by omega)
    have R7 : ∃ u, PSs (cxOf CX0 P w K mg base ["curve", "numbers", "a", "b", "c", "by", "some", "top", "bottom"] "_law_leash" (defScope (top 35)) f cdv A outer s H E).nox ((defBody (top 35)).drop 7) u ∧ ∀ (by_ top bot : Int) (so : Addr) (H1 : Hp), Same H H1 → 0 ≤ top → bits top ≤ 230 → 0 < bot → bits bot ≤ 130 → u { nx := fun _ H' => Q .non H', rt := Q } [some (.ref r), some (.ref pn), some (.int a_), some (.int b_), some (.int c_), some (.int by_), some (.ref so), some (.int top), some (.int bot)] H1 := by
      refine ⟨_, (pss_one (ps_ret (pe_fn F_law_lower (hr.mono (by decide)) (by rfl) (pa_cons (pe_tupA (pa_cons (pv 7) (pa_cons (pv 8) pa_nil))) pa_nil)))), fun by_ top bot so H1 s1 t0 bt b0 bb => ?_⟩
      refine ⟨_, rfl, _, rfl, sz (by simp), fun q H2 s2 f2 _ => ?_⟩
      exact ⟨q, top, bot, rfl, f2, ⟨t0, bt⟩, ⟨b0, bb⟩, fun p x y H3 s3 sq lw h0 => k p x y H3 (s1.trans (s2.trans s3)) sq lw h0⟩
    obtain ⟨u7, hu7, fin⟩ := R7
    have R : ∃ u, PSs (cxOf CX0 P w K mg base ["curve", "numbers", "a", "b", "c", "by", "some", "top", "bottom"] "_law_leash" (defScope (top 35)) f cdv A outer s H E).nox ((defBody (top 35)).drop 5) u ∧ ∀ (by_ top bot : Int) (so : Addr) (H1 : Hp), Same H H1 → 0 ≤ top → bits top ≤ 210 → 0 < bot → bits bot ≤ 110 → u { nx := fun _ H' => Q .non H', rt := Q } [some (.ref r), some (.ref pn), some (.int a_), some (.int b_), some (.int c_), some (.int by_), some (.ref so), some (.int top), some (.int bot)] H1 := by
      refine ⟨_, pss_cons (ps_if (pt_cmpR op_eq (pe_op op_mod (pe_op op_fdivP (pe_ix ix_list (pv 1) pe_int (fun _ _ => rfl)) pe_int) pe_int) pe_int (nomark _)) (pss_one (ps_par (i := 7) (j := 8) rfl S_law_leash.nd rfl rfl (by decide) rfl rfl (pa_cons (pe_op op_add (pe_op op_mulX (pv 7) pe_int) (pv 8)) (pa_cons (pe_op op_mulX (pv 8) pe_int) pa_nil)) (by rfl))) pss_nil) (pss_cons (ps_if (pw_and (pt_cmpR op_eq (pe_op op_mod (pe_op op_fdivP (pe_ix ix_list (pv 1) pe_int (fun _ _ => rfl)) pe_int) pe_int) pe_int (nomark _)) (pw_and1 (pt_cmpR op_gt (pv 7) pe_int (nomark _)))).pt (pss_one (ps_par (i := 7) (j := 8) rfl S_law_leash.nd rfl rfl (by decide) rfl rfl (pa_cons (pe_op op_sub (pe_op op_mulX (pv 7) pe_int) pe_int) (pa_cons (pe_op op_mulX (pv 8) pe_int) pa_nil)) (by rfl))) pss_nil) hu7), fun by_ top bot so H1 s1 t0 bt b0 bb => ?_⟩
      have bt9 : bits (top * 1009) ≤ 220 := bits_mul (n := 10) bt (by decide)
      have bb9 : bits (bot * 1009) ≤ 120 := bits_mul (n := 10) bb (by decide)
      have lit : CM top 1009 ∧ CM bot 1009 := ⟨CM.r ⟨by decide, by decide⟩, CM.r ⟨by decide, by decide⟩⟩
      have n1 := s1 _ _ en
      refine ⟨_, rfl, pn, _, _, _, rfl, rfl, SqL.of n1, a0, _, _, rfl, rfl, dv7, _, _, rfl, rfl, (by show (0 : Int) < 4; decide), rfl, _, rfl, ite3 (fun g1 => ?_) (fun g1 => ?_)⟩
      · have g1' : ns[0] / 7 % 4 = 1 := by
          have := dec_t g1
          injection this
        refine ⟨_, rfl, _, _, rfl, rfl, lit.1, _, rfl, _, _, rfl, rfl, _, rfl, _, _, rfl, rfl, lit.2, _, _, rfl, ?_⟩
        refine ⟨_, rfl, pn, _, _, _, rfl, rfl, SqL.of n1, a0, _, _, rfl, rfl, dv7, _, _, rfl, rfl, (by show (0 : Int) < 4; decide), rfl, _, rfl, iteFalse ?_ ?_⟩
        · show decide (V.int (ns[0] / 7 % 4) = V.int 2) = false
          rw [g1']
          decide
        exact fin _ _ _ _ H1 s1 (by omega) (bits_le (bits_add bt9 (bits_le bb (by decide))) (by decide)) (by omega) (bits_le bb9 (by decide))
      refine ⟨_, rfl, pn, _, _, _, rfl, rfl, SqL.of n1, a0, _, _, rfl, rfl, dv7, _, _, rfl, rfl, (by show (0 : Int) < 4; decide), rfl, _, rfl, ite3 (fun g2 => ?_) (fun g2 => ?_)⟩
      · refine ⟨_, rfl, _, _, rfl, rfl, _, rfl, ite3 (fun g3 => ?_) (fun g3 => ?_)⟩
        · have g3 : top > 0 := dec_t g3
          refine ⟨_, rfl, _, _, rfl, rfl, lit.1, _, _, rfl, rfl, _, rfl, _, _, rfl, rfl, lit.2, _, _, rfl, ?_⟩
          exact fin _ _ _ _ H1 s1 (by omega) (bits_le (bits_sub bt9 (bits_le (show bits 1 ≤ 1 by decide) (by decide))) (by decide)) (by omega) (bits_le bb9 (by decide))
        · exact fin by_ top bot so H1 s1 t0 (bits_le bt (by decide)) b0 (bits_le bb (by decide))
      · exact fin by_ top bot so H1 s1 t0 (bits_le bt (by decide)) b0 (bits_le bb (by decide))
    obtain ⟨u, hu, ru⟩ := R
    refine ⟨_, (pss_cons (ps_asg (pv 0) (pg_tup rfl (pgs_cons (pg_name (i := 2) S_law_leash.nd rfl (Or.inl rfl)) (pgs_cons (pg_name (i := 3) S_law_leash.nd rfl (Or.inl rfl)) (pgs_cons (pg_name (i := 4) S_law_leash.nd rfl (Or.inl rfl)) pgs_nil))))) (pss_cons (ps_set (i := 5) S_law_leash.nd rfl (Or.inl rfl) (pe_op op_add pe_int (pe_op op_mod (pe_ix ix_list (pv 1) pe_int (fun _ _ => rfl)) pe_int))) (pss_cons (ps_set (i := 6) S_law_leash.nd rfl (Or.inl rfl) (pe_lstA (pa_cons (pe_tupA (pa_cons pe_int (pa_cons pe_int pa_nil))) (pa_cons (pe_fn F_law_worth (hr.mono (by decide)) (by rfl) (pa_cons (pv 0) (pa_cons (pe_op op_mod (pe_ix ix_list (pv 1) pe_int (fun _ _ => rfl)) (pe_op op_add (pv 5) pe_int)) (pa_cons (pv 5) pa_nil)))) (pa_cons (pe_fn F_law_least (hr.mono (by decide)) (by rfl) (pa_cons (pv 0) pa_nil)) (pa_cons (pe_tupA (pa_cons (pv 4) (pa_cons pe_int pa_nil))) (pa_cons (pe_tupA (pa_cons (pe_op op_add (pe_op op_sub (pv 2) (pe_op op_mulX pe_int (pv 3))) (pv 4)) (pa_cons pe_int pa_nil))) pa_nil))))))) (pss_cons (ps_set (i := 6) S_law_leash.nd rfl (Or.inl rfl) (pe_op op_catA (pv 6) (pe_lstA (pa_cons (pe_tupA (pa_cons (pe_op op_mod (pe_ix ix_list (pv 1) pe_int (fun _ _ => rfl)) pe_int) (pa_cons (pv 5) pa_nil))) (pa_cons (pe_tupA (pa_cons (pe_ix ix_list (pv 1) pe_int (fun _ _ => rfl)) (pa_cons (pe_op op_add pe_int (pe_ix ix_list (pv 1) pe_int (fun _ _ => rfl))) pa_nil))) pa_nil))))) (pss_cons (ps_asg (pe_ix ix_list (pv 6) (pe_op op_mod (pe_ix ix_list (pv 1) pe_int (fun _ _ => rfl)) pe_int) (fun _ _ => rfl)) (pg_tup rfl (pgs_cons (pg_name (i := 7) S_law_leash.nd rfl (Or.inl rfl)) (pgs_cons (pg_name (i := 8) S_law_leash.nd rfl (Or.inl rfl)) pgs_nil)))) hu))))), ?_⟩
    have cb := c.bc
    refine ⟨_, rfl, r, _, rfl, SqT.of (e), rfl, _, _, rfl, _, _, rfl, _, _, rfl, rfl, ?_⟩
    have m0 := Int.emod_nonneg ns[1] (show (12 : Int) ≠ 0 by decide)
    have m1 := Int.emod_lt_of_pos ns[1] (show (0 : Int) < 12 by decide)
    refine ⟨_, rfl, pn, _, _, _, rfl, rfl, SqL.of en, a1, _, _, rfl, rfl, (by show (0 : Int) < 12; decide), _, _, rfl, rfl, ?_⟩
    obtain ⟨by_, eby⟩ : ∃ z, z = 1 + ns[1] % 12 := ⟨_, rfl⟩
    show (tSeq _ _) _ [some (.ref r), some (.ref pn), some (.int a_), some (.int b_), some (.int c_), some (.int (1 + ns[1] % 12)), none, none, none] H
    rw [← eby]
    have hb0 : 0 < by_ ∧ by_ ≤ 12 := by omega
    have q0 := Int.emod_nonneg ns[2] (show by_ + 1 ≠ 0 by omega)
    have q1 := Int.emod_lt_of_pos ns[2] (show 0 < by_ + 1 by omega)
    refine ⟨sz (by simp), fun p1 H1 s1 f1 _ => ?_⟩
    refine ⟨_, rfl, _, rfl, pn, _, _, _, rfl, rfl, SqL.of (s1 _ _ en), a2, _, rfl, _, _, rfl, rfl, _, _, rfl, rfl, (by show (0 : Int) < by_ + 1; omega), _, rfl, r, a_, b_, c_, _, _, rfl, s1 _ _ e, c, ⟨q0, bits_le (bits_small (by omega) (by omega)) (by decide)⟩, ⟨hb0.1, bits_le (bits_small (by omega) (by omega)) (by decide)⟩, fun p2 H2 s2 f2 x20 y20 bx2 by2 => ?_⟩
    have S2 := s1.trans s2
    refine ⟨_, rfl, r, a_, b_, c_, rfl, S2 _ _ e, c, fun p3 H3 s3 f3 => ?_⟩
    have S3 := S2.trans s3
    refine ⟨_, rfl, sz (by simp), fun p4 H4 s4 f4 _ => ?_⟩
    refine ⟨_, rfl, _, rfl, _, _, rfl, rfl, CM.l (lt64s (by decide) (by decide)), _, _, rfl, rfl, _, rfl, _, _, rfl, rfl, sz (by simp), fun p5 H5 s5 f5 _ => ?_⟩
    refine ⟨sz (by simp), fun so H6 s6 f6 _ => ?_⟩
    have S6 := S3.trans (s4.trans (s5.trans s6))
    have n6 := S6 _ _ en
    have r0 := Int.emod_nonneg ns[2] (show (60 : Int) ≠ 0 by decide)
    have r1 := Int.emod_lt_of_pos ns[2] (show (0 : Int) < 60 by decide)
    refine ⟨_, rfl, _, rfl, pn, _, _, _, rfl, rfl, SqL.of n6, a2, _, _, rfl, rfl, (by show (0 : Int) < 60; decide), _, rfl, sz (by simp), fun p6 H7 s7 f7 _ => ?_⟩
    have n7 := s7 _ _ n6
    refine ⟨_, rfl, pn, _, _, _, rfl, rfl, SqL.of n7, a2, _, rfl, pn, _, _, _, rfl, rfl, SqL.of n7, a1, _, _, rfl, rfl, sz (by simp), fun p7 H8 s8 f8 _ => ?_⟩
    refine ⟨sz (by simp), fun so2 H9 s9 f9 _ => ?_⟩
    refine ⟨so, so2, _, _, rfl, rfl, s9 _ _ (s8 _ _ (s7 _ _ f6)), f9, sz (by simp), fun so3 H10 s10 f10 _ => ?_⟩
    have S10 := S6.trans (s7.trans (s8.trans (s9.trans s10)))
    have n10 := S10 _ _ en
    refine ⟨_, rfl, _, rfl, pn, _, _, _, rfl, rfl, SqL.of n10, a0, _, _, rfl, rfl, (by show (0 : Int) < 7; decide), ?_⟩
    have hC := c.c0
    have hE := c.e0
    have tb1 : Tb H1 (.ref p1) := ⟨p1, _, _, rfl, f1, by decide, by decide, by decide, by decide⟩
    have tb2 : Tb H2 (.ref p2) := ⟨p2, _, _, rfl, f2, x20, bx2, y20, bits_le by2 (by decide)⟩
    have tb3 : Tb H3 (.ref p3) := ⟨p3, _, _, rfl, f3, c.lT, bits_le c.lTb (by decide), c.lB, bits_le c.lBb (by decide)⟩
    have tb4 : Tb H4 (.ref p4) := ⟨p4, _, _, rfl, f4, hC, bits_le c.bc (by decide), by decide, by decide⟩
    have tb5 : Tb H5 (.ref p5) := ⟨p5, _, _, rfl, f5, hE, bits_le (bits_add (n := 106) (bits_le (bits_sub (n := 105) (bits_le c.ba (by decide)) (bits_mul (m := 2) (by decide) c.bb)) (by decide)) (bits_le c.bc (by decide))) (by decide), by decide, by decide⟩
    have tb6 : Tb H7 (.ref p6) := ⟨p6, _, _, rfl, f7, r0, bits_le (bits_small (by omega) (by omega)) (by decide), hb0.1, bits_le (bits_small (by omega) (by omega)) (by decide)⟩
    have tb7 : Tb H8 (.ref p7) := ⟨p7, _, _, rfl, f8, N2.1, bits_le N2.2 (by decide), by omega, bits_le (bits_one N1.2 (by decide)) (by decide)⟩
    have z910 := s9.trans s10
    have z8 := s8.trans z910
    have z7 := s7.trans z8
    have z6 := s6.trans z7
    have z5 := s5.trans z6
    have z4 := s4.trans z5
    refine menu_mod f10 (by decide) (by simp) fun v hv => ?_
    have hv' : Tb H10 v := by
      simp only [List.cons_append, List.nil_append, List.mem_cons, List.not_mem_nil, or_false] at hv
      rcases hv with rfl | rfl | rfl | rfl | rfl | rfl | rfl
      · exact tb1.mono (s2.trans (s3.trans z4))
      · exact tb2.mono (s3.trans z4)
      · exact tb3.mono z4
      · exact tb4.mono z5
      · exact tb5.mono z6
      · exact tb6.mono z8
      · exact tb7.mono z910
    obtain ⟨p, a, b, rfl, ep, ha, ba, hb, bb⟩ := hv'
    refine ⟨p, _, rfl, SqT.of ep, rfl, _, _, rfl, _, _, rfl, rfl, ?_⟩
    exact ru by_ a b so3 H10 S10 ha ba hb bb

theorem gv_of {cx cy bx by_ ex ey x y : Int} (hne : ¬ [bx, by_] = [ex, ey]) (hy : 0 < y) : Gv (rLen bx by_ ex ey) (rAl cx cy bx by_ ex ey) ((cx - bx) * (cx - bx) + (cy - by_) * (cy - by_)) (rBe cx cy bx by_ ex ey) x y (rAl cx cy bx by_ ex ey * y) (rLen bx by_ ex ey * y) (rUn cx cy bx by_ ex ey x y) := by
  refine ⟨?_, hy, ?_, rfl, rfl, rfl⟩
  · unfold rLen
    have h1 := sq0 (ex - bx)
    have h2 := sq0 (ey - by_)
    have key : ∀ z : Int, z ≠ 0 → 0 < z * z := fun z hz => by
      rcases Int.lt_trichotomy z 0 with h | h | h
      · exact Int.mul_pos_of_neg_of_neg h h
      · exact absurd h hz
      · exact Int.mul_pos h h
    by_cases h : ex - bx = 0
    · have h3 : ey - by_ ≠ 0 := fun z => hne (by rw [show bx = ex by omega, show by_ = ey by omega])
      have := key _ h3
      omega
    · have := key _ h
      omega
  · unfold rBe rLen rAl
    grind
theorem lo_eq {cx cy bx by_ x y : Int} : lo cx cy bx by_ x y = sg (x - ((cx - bx) * (cx - bx) + (cy - by_) * (cy - by_)) * y) := by
  unfold lo
  rw [show (bx - cx) * (bx - cx) = (cx - bx) * (cx - bx) by grind, show (by_ - cy) * (by_ - cy) = (cy - by_) * (cy - by_) by grind]
theorem flat {cx cy bx by_ ex ey : Int} (h : [bx, by_] = [ex, ey]) : rLen bx by_ ex ey = 0 ∧ rAl cx cy bx by_ ex ey = 0 := by
  simp only [List.cons.injEq, and_true] at h
  obtain ⟨rfl, rfl⟩ := h
  unfold rLen rAl
  rw [show bx - bx = 0 by omega, show by_ - by_ = 0 by omega]
  simp
theorem sg_lt {x : Int} : (sg x < 0 ↔ x < 0) ∧ (sg x < 1 ↔ x ≤ 0) := by
  rcases Int.lt_trichotomy x 0 with h | h | h
  · rw [sg_n h]; omega
  · rw [sg_z h]; omega
  · rw [sg_p h]; omega
/-- open: strictly -/
structure Opn1 (P L U : Int) : Prop where
  u : 0 < U
  e : P - L < 0 ∨ (P - L) * (P - L) < U
  b : 0 < P ∨ P * P < U
section
variable {A B C be x y P L U : Int}
theorem _root_.Sp5.Gv.open1 (g : Gv A B C be x y P L U) : ¬ (sg U < 1 ∨ ro 1 0 0 1 P (-1) U L < 1 ∨ ro P 1 U L 0 0 0 1 < 1) ↔ Opn1 P L U := by
  constructor
  · intro n
    have u : 0 < U := by
      by_cases h : U ≤ 0
      · exact absurd (.inl (sg_lt.2.mpr h)) n
      · omega
    refine ⟨u, ?_, ?_⟩
    · by_cases z : ro 1 0 0 1 P (-1) U L < 1
      · exact absurd (.inr (.inl z)) n
      · rw [ro_swap P (-1) U L 1 0 0 1, g.lowE] at z
        exact (on_n (by omega)).2.2.mp (by omega)
    · by_cases z : ro P 1 U L 0 0 0 1 < 1
      · exact absurd (.inr (.inr z)) n
      · rw [g.highB] at z
        exact (on_p (by omega)).2.2.mp (by omega)
  · rintro ⟨u, e, b⟩ n
    rcases n with n | n | n
    · have := sg_lt.2.mp n
      omega
    · rw [ro_swap P (-1) U L 1 0 0 1, g.lowE] at n
      have := (on_n (W := P - L) (U := U) (by omega)).2.2.mpr e
      omega
    · rw [g.highB] at n
      have := (on_p (W := P) (U := U) (by omega)).2.2.mpr b
      omega
end
theorem end_bits {A B y U : Int} (ba : bits A ≤ 103) (bb : bits B ≤ 103) (by_ : bits y ≤ 130) (bu : bits U ≤ 470) (u0 : 0 ≤ U) (l0 : 1 ≤ A * y) :
    (bits (lowN (B * y) U (A * y)).1 ≤ 240 ∧ bits (lowN (B * y) U (A * y)).2.1 ≤ 2 ∧ bits (lowN (B * y) U (A * y)).2.2.1 ≤ 470 ∧ bits (lowN (B * y) U (A * y)).2.2.2 ≤ 240 ∧ 0 ≤ (lowN (B * y) U (A * y)).2.2.1 ∧ 1 ≤ (lowN (B * y) U (A * y)).2.2.2) ∧
    (bits (highN (B * y) U (A * y)).1 ≤ 240 ∧ bits (highN (B * y) U (A * y)).2.1 ≤ 2 ∧ bits (highN (B * y) U (A * y)).2.2.1 ≤ 470 ∧ bits (highN (B * y) U (A * y)).2.2.2 ≤ 240 ∧ 0 ≤ (highN (B * y) U (A * y)).2.2.1 ∧ 1 ≤ (highN (B * y) U (A * y)).2.2.2) := by
  have b1 : bits (B * y) ≤ 240 := bits_le (bits_mul bb by_) (by decide)
  have b2 : bits (A * y) ≤ 240 := bits_le (bits_mul ba by_) (by decide)
  constructor
  · unfold lowN
    split
    · decide
    · exact ⟨b1, (by show bits (-1) ≤ 2; decide), bu, b2, u0, l0⟩
  · unfold highN
    split
    · decide
    · exact ⟨b1, (by show bits 1 ≤ 2; decide), bu, b2, u0, l0⟩
theorem un_bits {cx cy bx by_ ex ey x y : Int} (w1 : bits (ex - bx) ≤ 51) (w2 : bits (ey - by_) ≤ 51) (w3 : bits (cx - bx) ≤ 51) (w4 : bits (cy - by_) ≤ 51) (hx : bits x ≤ 230) (hy : bits y ≤ 130) : bits (rUn cx cy bx by_ ex ey x y) ≤ 470 := by
  unfold rUn
  have bl : bits (rLen bx by_ ex ey) ≤ 103 := bits_add (bits_mul w1 w1) (bits_mul w2 w2)
  have bb : bits (rBe cx cy bx by_ ex ey) ≤ 103 := bits_sub (bits_mul w3 w2) (bits_mul w4 w1)
  exact bits_le (bits_mul hy (bits_sub (n := 336) (bits_le (bits_mul hx bl) (by decide)) (bits_mul (bits_mul hy bb) bb))) (by decide)

def addComp (s : Stmt) : Scope := match s with
  | .Assign _ (.BinOp _ _ (.ListComp _ _ sc _) _) _ => sc
  | _ => { kind := .function, names := [], isGenerator := false, isCoroutine := false }
def gateO (cx cy bx by_ ex ey x y room : Int) : Option (N4 × N4) := if pwN cx cy bx by_ ex ey x y room = true then none else
  some (if decide ([bx, by_] = [ex, ey]) = true then (0, 0, 0, 1) else lowN (rAl cx cy bx by_ ex ey * y) (rUn cx cy bx by_ ex ey x y) (rLen bx by_ ex ey * y), if decide ([bx, by_] = [ex, ey]) = true then (1, 0, 0, 1) else highN (rAl cx cy bx by_ ex ey * y) (rUn cx cy bx by_ ex ey x y) (rLen bx by_ ex ey * y))
def wth (cx cy bx by_ ex ey a b : Int) : Int := rLen bx by_ ex ey * a * a - 2 * rAl cx cy bx by_ ex ey * a * b + ((cx - bx) * (cx - bx) + (cy - by_) * (cy - by_)) * b * b
theorem flat01 {a b : Int} (ha : 0 ≤ a) (hab : a ≤ b) : withinB (some ((0, 0, 0, 1), (1, 0, 0, 1))) a b = true := by
  unfold withinB
  dsimp only
  rw [gt_lt, lt_01.1, lt_01.2, Bool.and_eq_true, decide_eq_true_eq, decide_eq_true_eq]
  refine ⟨sgn_lt1.mpr (by omega), ?_⟩
  have : 0 ≤ sg (b - a) := by
    rcases Int.lt_or_eq_of_le (show 0 ≤ b - a by omega) with z | z
    · rw [sg_p z]; decide
    · rw [← z]; decide
  omega
theorem sgn_ge {x : Int} : (0 ≤ sg x ↔ 0 ≤ x) ∧ (1 ≤ sg x ↔ 0 < x) := by
  have := sg_lt (x := x)
  omega
theorem gate_walk {cx cy bx by_ ex ey x y a b : Int} (hy : 0 < y) (ha : 0 ≤ a) (hab : a ≤ b) (hb : 0 < b) :
    withinB (gateO cx cy bx by_ ex ey x y 0) a b = decide (wth cx cy bx by_ ex ey a b * y ≤ x * (b * b)) ∧ (wth cx cy bx by_ ex ey a b * y < x * (b * b) → withinB (gateO cx cy bx by_ ex ey x y 1) a b = true) ∧ (amidB (gateO cx cy bx by_ ex ey x y 1) a b = true → wth cx cy bx by_ ex ey a b * y < x * (b * b)) := by
  have bb : 0 < b * b := Int.mul_pos hb hb
  unfold gateO wth
  by_cases hs : [bx, by_] = [ex, ey]
  · obtain ⟨e1, e2⟩ := flat (cx := cx) (cy := cy) hs
    rw [e1, e2, decide_eq_true hs, if_pos rfl, if_pos rfl]
    unfold pwN
    rw [if_pos hs, if_pos hs, lo_eq]
    generalize (cx - bx) * (cx - bx) + (cy - by_) * (cy - by_) = C
    have k := sgn_ge (x := x - C * y)
    have p := pos_iff (k := b * b) (z := x - C * y) bb
    have e : b * b * (x - C * y) = x * (b * b) - (0 * a * a - 2 * 0 * a * b + C * b * b) * y := by grind
    rw [e] at p
    have f := flat01 ha hab
    refine ⟨?_, fun h => ?_, fun h => ?_⟩
    · by_cases z : sg (x - C * y) ≥ 0
      · rw [decide_eq_true z, if_neg (by decide), f, eq_comm, decide_eq_true_eq]
        omega
      · rw [decide_eq_false z, if_pos (by decide), eq_comm]
        exact decide_eq_false (by omega)
    · rw [decide_eq_true (show sg (x - C * y) ≥ 1 by omega), if_neg (by decide)]
      exact f
    · by_cases z : sg (x - C * y) ≥ 1
      · omega
      · rw [decide_eq_false z, if_pos (by decide)] at h
        cases h
  · have gv := gv_of (cx := cx) (cy := cy) (x := x) hs hy
    rw [decide_eq_false hs, if_neg (show ¬ (false = true) by decide), if_neg (show ¬ (false = true) by decide)]
    have ct := gv.ct a b
    have w0 := sqx (rAl cx cy bx by_ ex ey * y * b - a * (rLen bx by_ ex ey * y))
    unfold pwN
    rw [if_neg hs, if_neg hs]
    refine ⟨?_, fun h => ?_, fun h => ?_⟩
    · by_cases z : sg (rUn cx cy bx by_ ex ey x y) < 0 ∨ ro 1 0 0 1 (rAl cx cy bx by_ ex ey * y) (-1) (rUn cx cy bx by_ ex ey x y) (rLen bx by_ ex ey * y) < 0 ∨ ro (rAl cx cy bx by_ ex ey * y) 1 (rUn cx cy bx by_ ex ey x y) (rLen bx by_ ex ey * y) 0 0 0 1 < 0
      · rw [if_pos (by simp only [Bool.or_eq_true, decide_eq_true_eq]; exact z), eq_comm]
        have fr := gv.far (gv.shut' z) ha hab hb
        exact decide_eq_false (by omega)
      · rw [if_neg (by simp only [Bool.or_eq_true, decide_eq_true_eq]; exact z)]
        have o := gv.shut z
        have bu : 0 ≤ b * b * rUn cx cy bx by_ ex ey x y := Int.mul_nonneg (by omega) o.u
        have l1 := (gv.low_le o.u ha hb).1
        have h1 := (gv.high_ge o.u hab hb).1
        unfold withinB
        dsimp only
        rw [Bool.eq_iff_iff, Bool.and_eq_true, decide_eq_true_eq, decide_eq_true_eq, decide_eq_true_eq, l1, h1, ← ct.1]
        generalize rAl cx cy bx by_ ex ey * y * b - a * (rLen bx by_ ex ey * y) = W at *
        generalize b * b * rUn cx cy bx by_ ex ey x y = V at *
        constructor
        · rintro ⟨q1, q2⟩
          rcases Int.lt_trichotomy W 0 with w | w | w
          · omega
          · rw [w]; omega
          · omega
        · intro q
          exact ⟨fun ⟨_, q2⟩ => by omega, fun ⟨_, q2⟩ => by omega⟩
    · have hw := ct.2.mpr h
      have u0 : 0 < rUn cx cy bx by_ ex ey x y := by
        have := pos_iff (k := b * b) (z := rUn cx cy bx by_ ex ey x y) bb
        omega
      have wge := gv.wge (a := a) hab
      have wle := gv.wle (b := b) ha
      have o : Opn1 (rAl cx cy bx by_ ex ey * y) (rLen bx by_ ex ey * y) (rUn cx cy bx by_ ex ey x y) := by
        refine ⟨u0, ?_, ?_⟩
        · by_cases z : rAl cx cy bx by_ ex ey * y - rLen bx by_ ex ey * y < 0
          · exact .inl z
          · have s1 := sq_up (u := b * (rAl cx cy bx by_ ex ey * y - rLen bx by_ ex ey * y)) (Int.mul_nonneg (by omega) (by omega)) wge
            rw [mulsq] at s1
            exact .inr (Int.lt_of_mul_lt_mul_left (a := b * b) (by omega) (by omega))
        · by_cases z : 0 < rAl cx cy bx by_ ex ey * y
          · exact .inl z
          · have s1 := sq_up (u := b * -(rAl cx cy bx by_ ex ey * y)) (v := -(rAl cx cy bx by_ ex ey * y * b - a * (rLen bx by_ ex ey * y))) (Int.mul_nonneg (by omega) (by omega)) (by rw [Int.mul_neg]; omega)
            rw [mulsq, Int.neg_mul_neg, Int.neg_mul_neg] at s1
            exact .inr (Int.lt_of_mul_lt_mul_left (a := b * b) (by omega) (by omega))
      have n := gv.open1.mpr o
      rw [if_neg (by simp only [Bool.or_eq_true, decide_eq_true_eq]; exact n)]
      unfold withinB
      dsimp only
      rw [Bool.and_eq_true, decide_eq_true_eq, decide_eq_true_eq, (gv.low_le (Int.le_of_lt u0) ha hb).1, (gv.high_ge (Int.le_of_lt u0) hab hb).1]
      exact ⟨fun ⟨_, q2⟩ => by omega, fun ⟨_, q2⟩ => by omega⟩
    · by_cases z : sg (rUn cx cy bx by_ ex ey x y) < 1 ∨ ro 1 0 0 1 (rAl cx cy bx by_ ex ey * y) (-1) (rUn cx cy bx by_ ex ey x y) (rLen bx by_ ex ey * y) < 1 ∨ ro (rAl cx cy bx by_ ex ey * y) 1 (rUn cx cy bx by_ ex ey x y) (rLen bx by_ ex ey * y) 0 0 0 1 < 1
      · rw [if_pos (by simp only [Bool.or_eq_true, decide_eq_true_eq]; exact z)] at h
        cases h
      · rw [if_neg (by simp only [Bool.or_eq_true, decide_eq_true_eq]; exact z)] at h
        have o := gv.open1.mp z
        have ou := o.u
        unfold amidB at h
        dsimp only at h
        rw [Bool.and_eq_true, decide_eq_true_eq, decide_eq_true_eq] at h
        have l2 := (gv.low_le (Int.le_of_lt ou) ha hb).2 h.1
        have h2 := (gv.high_ge (Int.le_of_lt ou) hab hb).2 h.2
        exact ct.2.mp (by omega)
theorem rev_is {cx cy bx by_ ex ey x y : Int} : rLen ex ey bx by_ = rLen bx by_ ex ey ∧ rAl cx cy ex ey bx by_ = rLen bx by_ ex ey - rAl cx cy bx by_ ex ey ∧ rUn cx cy ex ey bx by_ x y = rUn cx cy bx by_ ex ey x y := by
  have h1 : rLen ex ey bx by_ = rLen bx by_ ex ey := by unfold rLen; grind
  have h2 : rBe cx cy ex ey bx by_ * rBe cx cy ex ey bx by_ = rBe cx cy bx by_ ex ey * rBe cx cy bx by_ ex ey := by unfold rBe; grind
  refine ⟨h1, by unfold rAl rLen; grind, ?_⟩
  unfold rUn
  rw [h1, Int.mul_assoc y, Int.mul_assoc y, h2]
def trn (l : N4) : N4 := (l.2.2.2 - l.1, 0 - l.2.1, l.2.2.1, l.2.2.2)
theorem gate_turn {cx cy bx by_ ex ey x y : Int} (hy : 0 < y) : ((gateO cx cy bx by_ ex ey x y 0).isNone = (gateO cx cy ex ey bx by_ x y 0).isNone) ∧ (¬ [bx, by_] = [ex, ey] → ∀ l m l' m', gateO cx cy bx by_ ex ey x y 0 = some (l, m) → gateO cx cy ex ey bx by_ x y 0 = some (l', m') → trn l = m' ∧ trn m = l') := by
  by_cases hs : [bx, by_] = [ex, ey]
  · simp only [List.cons.injEq, and_true] at hs
    obtain ⟨rfl, rfl⟩ := hs
    exact ⟨rfl, fun h => absurd rfl h⟩
  · have hs' : ¬ [ex, ey] = [bx, by_] := fun z => hs z.symm
    obtain ⟨r1, r2, r3⟩ := rev_is (cx := cx) (cy := cy) (bx := bx) (by_ := by_) (ex := ex) (ey := ey) (x := x) (y := y)
    have gv := gv_of (cx := cx) (cy := cy) (x := x) hs hy
    have gw := gv_of (cx := cx) (cy := cy) (x := x) hs' hy
    rw [r1, r2, r3] at gw
    have gL := gv.lpos
    unfold gateO pwN
    rw [if_neg hs, if_neg hs', decide_eq_false hs, decide_eq_false hs', if_neg (show ¬ (false = true) by decide), if_neg (show ¬ (false = true) by decide), if_neg (show ¬ (false = true) by decide), if_neg (show ¬ (false = true) by decide), r1, r2, r3, Int.sub_mul (rLen bx by_ ex ey) (rAl cx cy bx by_ ex ey) y]
    rw [Int.sub_mul (rLen bx by_ ex ey) (rAl cx cy bx by_ ex ey) y] at gw
    generalize rAl cx cy bx by_ ex ey * y = P at *
    generalize rLen bx by_ ex ey * y = L at *
    generalize rUn cx cy bx by_ ex ey x y = U at *
    have e1 : L - P - L = -P := by omega
    have sym : (sg U < 0 ∨ ro 1 0 0 1 P (-1) U L < 0 ∨ ro P 1 U L 0 0 0 1 < 0) ↔ (sg U < 0 ∨ ro 1 0 0 1 (L - P) (-1) U L < 0 ∨ ro (L - P) 1 U L 0 0 0 1 < 0) := by
      by_cases u : U < 0
      · exact ⟨fun _ => .inl (sg_lt.1.mpr u), fun _ => .inl (sg_lt.1.mpr u)⟩
      · have u : 0 ≤ U := by omega
        have s0 : ¬ sg U < 0 := fun z => by have := sg_lt.1.mp z; omega
        rw [ro_swap P (-1) U L 1 0 0 1, gv.lowE, gv.highB, ro_swap (L - P) (-1) U L 1 0 0 1, gw.lowE, gw.highB, e1]
        have a1 := on_n (W := P - L) u
        have a2 := on_p (W := P) u
        have a3 := on_n (W := -P) u
        have a4 := on_p (W := L - P) u
        rw [Int.neg_mul_neg] at a3
        rw [show (L - P) * (L - P) = (P - L) * (P - L) by grind] at a4
        omega
    refine ⟨?_, fun _ l m l' m' q1 q2 => ?_⟩
    · by_cases z : sg U < 0 ∨ ro 1 0 0 1 P (-1) U L < 0 ∨ ro P 1 U L 0 0 0 1 < 0
      · rw [if_pos (by simp only [Bool.or_eq_true, decide_eq_true_eq]; exact z), if_pos (by simp only [Bool.or_eq_true, decide_eq_true_eq]; exact sym.mp z)]
      · rw [if_neg (by simp only [Bool.or_eq_true, decide_eq_true_eq]; exact z), if_neg (by simp only [Bool.or_eq_true, decide_eq_true_eq]; exact fun w => z (sym.mpr w))]
        rfl
    · by_cases z : sg U < 0 ∨ ro 1 0 0 1 P (-1) U L < 0 ∨ ro P 1 U L 0 0 0 1 < 0
      · rw [if_pos (by simp only [Bool.or_eq_true, decide_eq_true_eq]; exact z)] at q1
        cases q1
      · rw [if_neg (by simp only [Bool.or_eq_true, decide_eq_true_eq]; exact z)] at q1
        rw [if_neg (by simp only [Bool.or_eq_true, decide_eq_true_eq]; exact fun w => z (sym.mpr w))] at q2
        have u := (gv.shut z).u
        simp only [Option.some.injEq, Prod.mk.injEq] at q1 q2
        obtain ⟨rfl, rfl⟩ := q1
        obtain ⟨rfl, rfl⟩ := q2
        have a1 := on_n (W := P) u
        have a2 := on_p (W := -P) u
        rw [Int.neg_mul_neg] at a2
        have a3 := on_p (W := P - L) u
        have a4 := on_n (W := L - P) u
        rw [show (L - P) * (L - P) = (P - L) * (P - L) by grind] at a4
        have c1 : ro P (-1) U L 0 0 0 1 < 0 ↔ ro (L - P) 1 U L 1 0 0 1 > 0 := by
          rw [gv.lowB, gw.highE, e1]
          omega
        have c2 : ro P 1 U L 1 0 0 1 > 0 ↔ ro (L - P) (-1) U L 0 0 0 1 < 0 := by
          rw [gv.highE, gw.lowB]
          omega
        unfold lowN highN
        constructor
        · by_cases w : ro P (-1) U L 0 0 0 1 < 0
          · rw [if_pos w, if_pos (c1.mp w)]; rfl
          · rw [if_neg w, if_neg (fun v => w (c1.mpr v))]; rfl
        · by_cases w : ro P 1 U L 1 0 0 1 > 0
          · rw [if_pos w, if_pos (c2.mp w)]; rfl
          · rw [if_neg w, if_neg (fun v => w (c2.mpr v))]; rfl
/-! what the defs keep -/
def GateV (K : PySem.W.Frag) (H : Hp) (v : V) (o : Option (N4 × N4)) : Prop := match o with
  | none => v = .non
  | some (l, m) => ∃ t p q : Addr, v = .ref t ∧ H t = some (.tup [.ref p, .ref q]) ∧ Nm K H p l ∧ Nm K H q m
theorem GateV.mono {K : PySem.W.Frag} {H H' : Hp} {v : V} {o : Option (N4 × N4)} (h : GateV K H v o) (s : Same H H') : GateV K H' v o := by
  cases o with
  | none => exact h
  | some lm =>
    obtain ⟨t, p, q, e, f, n1, n2⟩ := h
    exact ⟨t, p, q, e, s _ _ f, n1.mono s, n2.mono s⟩
theorem gateV_of {K : PySem.W.Frag} {H : Hp} {v : V} {cx cy bx by_ ex ey x y room : Int} (hr : room = 0 ∨ room = 1) (hy : 0 < y) (bx' : bits x ≤ 230) (byy : bits y ≤ 130) (w1 : bits (ex - bx) ≤ 51) (w2 : bits (ey - by_) ≤ 51) (w3 : bits (cx - bx) ≤ 51) (w4 : bits (cy - by_) ≤ 51)
    (h : Pw K H v (pwN cx cy bx by_ ex ey x y room) (decide ([bx, by_] = [ex, ey])) (rAl cx cy bx by_ ex ey * y) (rUn cx cy bx by_ ex ey x y) (rLen bx by_ ex ey * y)) : GateV K H v (gateO cx cy bx by_ ex ey x y room) := by
  unfold gateO
  rcases h with ⟨rfl, hN⟩ | ⟨hN, t, p, q, ln, hn, rfl, et, al, ah, e1, e2⟩
  · rw [if_pos hN]
    rfl
  · rw [if_neg (by rw [hN]; decide)]
    have key : (bits ln.1 ≤ 240 ∧ bits ln.2.1 ≤ 2 ∧ bits ln.2.2.1 ≤ 470 ∧ bits ln.2.2.2 ≤ 240 ∧ 0 ≤ ln.2.2.1 ∧ 1 ≤ ln.2.2.2) ∧ (bits hn.1 ≤ 240 ∧ bits hn.2.1 ≤ 2 ∧ bits hn.2.2.1 ≤ 470 ∧ bits hn.2.2.2 ≤ 240 ∧ 0 ≤ hn.2.2.1 ∧ 1 ≤ hn.2.2.2) := by
      by_cases hs : [bx, by_] = [ex, ey]
      · rw [decide_eq_true hs, if_pos rfl] at e1 e2
        subst e1 e2
        decide
      · rw [decide_eq_false hs, if_neg (by decide)] at e1 e2
        subst e1 e2
        have gv := gv_of (cx := cx) (cy := cy) (x := x) hs hy
        have u0 : 0 ≤ rUn cx cy bx by_ ex ey x y := by
          unfold pwN at hN
          rw [if_neg hs, Bool.or_eq_false_iff, decide_eq_false_iff_not] at hN
          have := sg_lt (x := rUn cx cy bx by_ ex ey x y)
          rcases hr with rfl | rfl <;> omega
        exact end_bits (bits_add (bits_mul w1 w1) (bits_mul w2 w2)) (bits_add (bits_mul w3 w1) (bits_mul w4 w2)) byy (un_bits w1 w2 w3 w4 bx' byy) u0 (Int.mul_pos gv.pa hy)
    rw [← e1, ← e2]
    exact ⟨t, p, q, rfl, et, ⟨al, key.1.1, key.1.2.1, key.1.2.2.1, key.1.2.2.2.1, key.1.2.2.2.2.1, key.1.2.2.2.2.2⟩, ⟨ah, key.2.1, key.2.2.1, key.2.2.2.1, key.2.2.2.2.1, key.2.2.2.2.2.1, key.2.2.2.2.2.2⟩⟩
/-- a part of a stretch -/
def PtOk (H : Hp) (v : V) : Prop := ∃ (p : Addr) (a b : Int), v = .ref p ∧ H p = some (.tup [.int a, .int b]) ∧ 0 ≤ a ∧ a ≤ b ∧ 0 < b ∧ bits b ≤ 40
theorem PtOk.t {H H' : Hp} {v : V} (h : PtOk H v) (s : SameT H H') : PtOk H' v := by
  obtain ⟨p, a, b, e, c, r⟩ := h
  exact ⟨p, a, b, e, s _ _ c, r⟩
structure Pts (H : Hp) (l : Addr) (vs : List V) : Prop where
  lst : H l = some (.lst vs)
  ok : ∀ v ∈ vs, PtOk H v
theorem Pts.mono {H H' : Hp} {l : Addr} {vs : List V} (h : Pts H l vs) (s : Same H H') : Pts H' l vs := ⟨s _ _ h.lst, fun v hv => (h.ok v hv).t s.t⟩
def spBeside (K : PySem.W.Frag) : Sp := fun vs H Q _ => ∃ (v : V) (l m : N4), vs = [v] ∧ GateV K H v (some (l, m)) ∧ ∀ (r : Addr) (ws : List V) (H' : Hp), Pts H' r ws → ws.length ≤ 8 → Same H H' → Q (.ref r) H'
def spWithin (K : PySem.W.Frag) : Sp := fun vs H Q _ => ∃ (v : V) (o : Option (N4 × N4)) (p : Addr) (a b : Int), vs = [v, .ref p] ∧ GateV K H v o ∧ H p = some (.tup [.int a, .int b]) ∧ 0 ≤ a ∧ a ≤ b ∧ 0 < b ∧ bits b ≤ 40 ∧ ∀ H', Same H H' → Q (.bl (withinB o a b)) H'
def spAmid (K : PySem.W.Frag) : Sp := fun vs H Q _ => ∃ (v : V) (o : Option (N4 × N4)) (p : Addr) (a b : Int), vs = [v, .ref p] ∧ GateV K H v o ∧ H p = some (.tup [.int a, .int b]) ∧ 0 ≤ a ∧ a ≤ b ∧ 0 < b ∧ bits b ≤ 40 ∧ ∀ H', Same H H' → Q (.bl (amidB o a b)) H'
def spPartsR (K : PySem.W.Frag) : Sp := fun vs H Q _ => ∃ (r ps l : Addr) (v w : V) (o1 o2 : Option (N4 × N4)) (A B C x y : Int) (ws : List V), vs = [.ref r, .ref ps, v, w, .ref l] ∧ H r = some (.tup [.int A, .int B, .int C]) ∧ Crv A B C ∧ Sq H ps x y ∧ GateV K H v o1 ∧ GateV K H w o2 ∧ Pts H l ws ∧ ws.length < 900 ∧
  (∀ a b : Int, 0 ≤ a → a ≤ b → 0 < b → withinB o1 a b = decide ((A * a * a - 2 * B * a * b + C * b * b) * y ≤ x * (b * b)) ∧ ((A * a * a - 2 * B * a * b + C * b * b) * y < x * (b * b) → withinB o2 a b = true) ∧ (amidB o2 a b = true → (A * a * a - 2 * B * a * b + C * b * b) * y < x * (b * b))) ∧ ∀ H', Same H H' → Q (.bl true) H'
def spTurned (K : PySem.W.Frag) : Sp := fun vs H Q _ => ∃ (p : Addr) (l : N4), vs = [.ref p] ∧ Nm K H p l ∧ ∀ (r : Addr) (H' : Hp), Same H H' → SqT K H' r [.int (trn l).1, .int (trn l).2.1, .int (trn l).2.2.1, .int (trn l).2.2.2] → Q (.ref r) H'
theorem S_law_within : FnScope ["found", "part", "number"] ["found", "part"] (defScope (top 37)) := ⟨rfl, rfl, rfl, by decide +kernel, rfl, by decide +kernel, by decide +kernel⟩
theorem fn_law_within (D_law_within : Df K mg "_law_within" (top 37)) (F_law_order : Fn P w K mg base "_law_order" ["one", "other"] 3 (spOrdE K)) : Fn P w K mg base "_law_within" ["found", "part"] 4 (spWithin K) := by
  refine D_law_within.fn S_law_within (fun _ _ _ _ _ _ us hl => match us, hl with | [_, _], _ => rfl) (fun vs H Q E h => ?_) (fun f cdv A outer s H vs Q E hr h => ?_)
  · obtain ⟨v, o, p, a, b, rfl, _⟩ := h
    rfl
  · obtain ⟨v, o, p, a, b, rfl, gv, ep, ha, hab, hb, bb, k⟩ := h
    refine ⟨_, (pss_cons (ps_if (pt_cmpR op_isN (pv 0) pe_non (nomark _)) (pss_one (ps_ret pe_bl)) pss_nil) (pss_cons (ps_set (i := 2) S_law_within.nd rfl (Or.inl rfl) (pe_tupA (pa_cons (pe_ix ix_tup (pv 1) pe_int (fun _ _ => rfl)) (pa_cons pe_int (pa_cons pe_int (pa_cons (pe_ix ix_tup (pv 1) pe_int (fun _ _ => rfl)) pa_nil)))))) (pss_one (ps_ret (pe_and (pe_cmpR op_lt (pe_fn F_law_order (hr.mono (by decide)) (by rfl) (pa_cons (pe_ix ix_tup (pv 0) pe_int (fun _ _ => rfl)) (pa_cons (pv 2) pa_nil))) pe_int (nomark _)) (pe_one (pe_cmpR op_lt (pe_fn F_law_order (hr.mono (by decide)) (by rfl) (pa_cons (pv 2) (pa_cons (pe_ix ix_tup (pv 0) pe_int (fun _ _ => rfl)) pa_nil))) pe_int (nomark _)))))))), ?_⟩
    have nmz : ∀ {H' : Hp} {z : Addr} {u v : Int}, H' z = some (.tup [.int u, .int 0, .int 0, .int v]) → bits u ≤ 240 → bits v ≤ 240 → 1 ≤ v → Nm K H' z (u, 0, 0, v) := fun h b1 b2 b3 => ⟨SqT.of h, b1, (show bits 0 ≤ 2 by decide), (show bits 0 ≤ 470 by decide), b2, (show (0 : Int) ≤ 0 by decide), b3⟩
    have ei : ∀ z w : Int, decide (V.int z = V.int w) = decide (z = w) := fun z w => by
      rw [Bool.eq_iff_iff]
      simp
    have ba : bits a ≤ 40 := bits_range ha hab bb
    cases o with
    | none =>
      have gv : v = .non := gv
      subst gv
      refine ⟨_, rfl, rfl, _, rfl, iteTrue (by decide) ?_⟩
      exact k H (Same.refl _)
    | some lm =>
      obtain ⟨l, m⟩ := lm
      obtain ⟨t, q1, q2, rfl, et, n1, n2⟩ := gv
      refine ⟨_, rfl, rfl, _, rfl, iteFalse (decide_eq_false (by intro z; cases z)) ?_⟩
      refine ⟨_, rfl, p, _, _, _, rfl, rfl, SqT.of ep, rfl, _, rfl, p, _, _, _, rfl, rfl, SqT.of ep, rfl, sz (by simp), fun z H1 s1 f1 _ => ?_⟩
      have nz := nmz f1 (bits_le ba (by decide)) (bits_le bb (by decide)) hb
      have e1 := s1 _ _ et
      have y := k H1 s1
      unfold withinB at y
      dsimp only at y
      refine ⟨_, rfl, t, _, _, _, rfl, rfl, SqT.of e1, rfl, _, rfl, q1, z, l, (a, 0, 0, b), rfl, n1.mono s1, nz, _, _, rfl, rfl, _, rfl, ?_⟩
      refine ite3 (fun h1 => ?_) (fun h1 => ?_)
      · rw [show decide (ltB l a b < 1) = true from h1, Bool.true_and] at y
        refine ⟨_, rfl, _, rfl, t, _, _, _, rfl, rfl, SqT.of e1, rfl, z, q2, (a, 0, 0, b), m, rfl, nz, n2.mono s1, _, _, rfl, rfl, ?_⟩
        exact y
      · rw [show decide (ltB l a b < 1) = false from h1, Bool.false_and] at y
        exact y
theorem S_law_amid : FnScope ["found", "part", "number"] ["found", "part"] (defScope (top 38)) := ⟨rfl, rfl, rfl, by decide +kernel, rfl, by decide +kernel, by decide +kernel⟩
theorem fn_law_amid (D_law_amid : Df K mg "_law_amid" (top 38)) (F_law_order : Fn P w K mg base "_law_order" ["one", "other"] 3 (spOrdE K)) : Fn P w K mg base "_law_amid" ["found", "part"] 4 (spAmid K) := by
  refine D_law_amid.fn S_law_amid (fun _ _ _ _ _ _ us hl => match us, hl with | [_, _], _ => rfl) (fun vs H Q E h => ?_) (fun f cdv A outer s H vs Q E hr h => ?_)
  · obtain ⟨v, o, p, a, b, rfl, _⟩ := h
    rfl
  · obtain ⟨v, o, p, a, b, rfl, gv, ep, ha, hab, hb, bb, k⟩ := h
    refine ⟨_, (pss_cons (ps_if (pt_cmpR op_isN (pv 0) pe_non (nomark _)) (pss_one (ps_ret pe_bl)) pss_nil) (pss_cons (ps_set (i := 2) S_law_amid.nd rfl (Or.inl rfl) (pe_tupA (pa_cons (pe_ix ix_tup (pv 1) pe_int (fun _ _ => rfl)) (pa_cons pe_int (pa_cons pe_int (pa_cons (pe_ix ix_tup (pv 1) pe_int (fun _ _ => rfl)) pa_nil)))))) (pss_one (ps_ret (pe_and (pe_cmpR op_eq (pe_fn F_law_order (hr.mono (by decide)) (by rfl) (pa_cons (pe_ix ix_tup (pv 0) pe_int (fun _ _ => rfl)) (pa_cons (pv 2) pa_nil))) (pe_un un_neg pe_int) (nomark _)) (pe_one (pe_cmpR op_eq (pe_fn F_law_order (hr.mono (by decide)) (by rfl) (pa_cons (pv 2) (pa_cons (pe_ix ix_tup (pv 0) pe_int (fun _ _ => rfl)) pa_nil))) (pe_un un_neg pe_int) (nomark _)))))))), ?_⟩
    have nmz : ∀ {H' : Hp} {z : Addr} {u v : Int}, H' z = some (.tup [.int u, .int 0, .int 0, .int v]) → bits u ≤ 240 → bits v ≤ 240 → 1 ≤ v → Nm K H' z (u, 0, 0, v) := fun h b1 b2 b3 => ⟨SqT.of h, b1, (show bits 0 ≤ 2 by decide), (show bits 0 ≤ 470 by decide), b2, (show (0 : Int) ≤ 0 by decide), b3⟩
    have ei : ∀ z w : Int, decide (V.int z = V.int w) = decide (z = w) := fun z w => by
      rw [Bool.eq_iff_iff]
      simp
    have ba : bits a ≤ 40 := bits_range ha hab bb
    cases o with
    | none =>
      have gv : v = .non := gv
      subst gv
      refine ⟨_, rfl, rfl, _, rfl, iteTrue (by decide) ?_⟩
      exact k H (Same.refl _)
    | some lm =>
      obtain ⟨l, m⟩ := lm
      obtain ⟨t, q1, q2, rfl, et, n1, n2⟩ := gv
      refine ⟨_, rfl, rfl, _, rfl, iteFalse (decide_eq_false (by intro z; cases z)) ?_⟩
      refine ⟨_, rfl, p, _, _, _, rfl, rfl, SqT.of ep, rfl, _, rfl, p, _, _, _, rfl, rfl, SqT.of ep, rfl, sz (by simp), fun z H1 s1 f1 _ => ?_⟩
      have nz := nmz f1 (bits_le ba (by decide)) (bits_le bb (by decide)) hb
      have e1 := s1 _ _ et
      have y := k H1 s1
      unfold amidB at y
      dsimp only at y
      refine ⟨_, rfl, t, _, _, _, rfl, rfl, SqT.of e1, rfl, _, rfl, q1, z, l, (a, 0, 0, b), rfl, n1.mono s1, nz, _, rfl, rfl, _, rfl, ?_⟩
      rw [ei]
      refine ite3 (fun h1 => ?_) (fun h1 => ?_)
      · rw [show decide (ltB l a b = -1) = true from h1, Bool.true_and] at y
        refine ⟨_, rfl, _, rfl, t, _, _, _, rfl, rfl, SqT.of e1, rfl, z, q2, (a, 0, 0, b), m, rfl, nz, n2.mono s1, _, rfl, rfl, ?_⟩
        rw [ei]
        exact y
      · rw [show decide (ltB l a b = -1) = false from h1, Bool.false_and] at y
        exact y
theorem S_law_turned : FnScope ["found"] ["found"] (defScope (top 40)) := ⟨rfl, rfl, rfl, by decide +kernel, rfl, by decide +kernel, by decide +kernel⟩
theorem fn_law_turned (D_law_turned : Df K mg "_law_turned" (top 40)) : Fn P w K mg base "_law_turned" ["found"] 1 (spTurned K) := by
  refine D_law_turned.fn S_law_turned (fun _ _ _ _ _ _ us hl => match us, hl with | [_], _ => rfl) (fun vs H Q E h => ?_) (fun f cdv A outer s H vs Q E hr h => ?_)
  · obtain ⟨p, l, rfl, _⟩ := h
    rfl
  · obtain ⟨p, l, rfl, n, k⟩ := h
    refine ⟨_, (pss_one (ps_ret (pe_tupA (pa_cons (pe_op op_sub (pe_ix ix_tup (pv 0) pe_int (fun _ _ => rfl)) (pe_ix ix_tup (pv 0) pe_int (fun _ _ => rfl))) (pa_cons (pe_op op_sub pe_int (pe_ix ix_tup (pv 0) pe_int (fun _ _ => rfl))) (pa_cons (pe_ix ix_tup (pv 0) pe_int (fun _ _ => rfl)) (pa_cons (pe_ix ix_tup (pv 0) pe_int (fun _ _ => rfl)) pa_nil))))))), ?_⟩
    exact ⟨_, rfl, p, _, _, _, rfl, rfl, n.at_, rfl, _, rfl, p, _, _, _, rfl, rfl, n.at_, rfl, _, _, rfl, rfl, _, rfl, p, _, _, _, rfl, rfl, n.at_, rfl, _, _, rfl, rfl, _, rfl, p, _, _, _, rfl, rfl, n.at_, rfl, _, rfl, p, _, _, _, rfl, rfl, n.at_, rfl, sz (by simp), fun r H1 s1 f1 _ => k r H1 s1 (SqT.of f1)⟩
theorem S_law_parts_right : FnScope ["curve", "square", "shut", "wide", "parts", "part", "top", "bottom", "below"] ["curve", "square", "shut", "wide", "parts"] (defScope (top 39)) := ⟨rfl, rfl, rfl, by decide +kernel, rfl, by decide +kernel, by decide +kernel⟩
theorem fn_law_parts_right (D_law_parts_right : Df K mg "_law_parts_right" (top 39)) (F_law_worth : Fn P w K mg base "_law_worth" ["curve", "top", "bottom"] 1 spWorth) (F_law_within : Fn P w K mg base "_law_within" ["found", "part"] 4 (spWithin K)) (F_law_amid : Fn P w K mg base "_law_amid" ["found", "part"] 4 (spAmid K)) : Fn P w K mg base "_law_parts_right" ["curve", "square", "shut", "wide", "parts"] 5 (spPartsR K) := by
  refine D_law_parts_right.fn S_law_parts_right (fun _ _ _ _ _ _ us hl => match us, hl with | [_, _, _, _, _], _ => rfl) (fun vs H Q E h => ?_) (fun f cdv A outer s H vs Q E hr h => ?_)
  · obtain ⟨r, ps, l, v, w_, o1, o2, a_, b_, c_, x, y, ws, rfl, _⟩ := h
    rfl
  · obtain ⟨r, ps, l, v, w_, o1, o2, a_, b_, c_, x, y, ws, rfl, e, c, sq, g1, g2, pt, hl, hw, q⟩ := h
    refine ⟨_, (pss_cons (ps_for PassesOwn.never rfl (pi_list (pv 4)) (pg_name (i := 5) S_law_parts_right.nd rfl (Or.inl rfl)) (pss_cons (ps_asg (pe_fn F_law_worth (hr.mono (by decide)) (by rfl) (pa_cons (pv 0) (pa_cons (pe_ix ix_tup (pv 5) pe_int (fun _ _ => rfl)) (pa_cons (pe_ix ix_tup (pv 5) pe_int (fun _ _ => rfl)) pa_nil)))) (pg_tup rfl (pgs_cons (pg_name (i := 6) S_law_parts_right.nd rfl (Or.inl rfl)) (pgs_cons (pg_name (i := 7) S_law_parts_right.nd rfl (Or.inl rfl)) pgs_nil)))) (pss_cons (ps_if (pt_cmpR op_ne (pe_fn F_law_within (hr.mono (by decide)) (by rfl) (pa_cons (pv 2) (pa_cons (pv 5) pa_nil))) (pe_cmpR op_le (pe_op op_mulX (pv 6) (pe_ix ix_tup (pv 1) pe_int (fun _ _ => rfl))) (pe_op op_mulX (pe_ix ix_tup (pv 1) pe_int (fun _ _ => rfl)) (pv 7)) (nomark _)) (nomark _)) (pss_one (ps_ret pe_bl)) pss_nil) (pss_cons (ps_set (i := 8) S_law_parts_right.nd rfl (Or.inl rfl) (pe_cmpR op_lt (pe_op op_mulX (pv 6) (pe_ix ix_tup (pv 1) pe_int (fun _ _ => rfl))) (pe_op op_mulX (pe_ix ix_tup (pv 1) pe_int (fun _ _ => rfl)) (pv 7)) (nomark _))) (pss_one (ps_if (pw_or (pw_and (pt_val (pv 8)) (pw_and1 (pt_not (pt_val (pe_fn F_law_within (hr.mono (by decide)) (by rfl) (pa_cons (pv 3) (pa_cons (pv 5) pa_nil))))))).pt (pw_or1 (pw_and (pt_val (pe_fn F_law_amid (hr.mono (by decide)) (by rfl) (pa_cons (pv 3) (pa_cons (pv 5) pa_nil)))) (pw_and1 (pt_not (pt_val (pv 8))))).pt)).pt (pss_one (ps_ret pe_bl)) pss_nil)))))) (pss_one (ps_ret pe_bl))), ?_⟩
    refine ⟨_, rfl, l, rfl, ⟨_, SqL.of pt.lst⟩, for_list (K := K) (a := l) (xs := ws) (fun i σ H2 => ∃ z1 z2 z3 z4, σ = [some (.ref r), some (.ref ps), some v, some w_, some (.ref l), z1, z2, z3, z4] ∧ Same H H2)
      ⟨_, _, _, _, rfl, Same.refl _⟩ (fun i σ H2 _ ⟨_, _, _, _, _, s2⟩ => SqL.of (s2 _ _ pt.lst)) ?_ ?_⟩
    · rintro i u σ H2 hu ⟨z1, z2, z3, z4, rfl, s2⟩
      obtain ⟨p, a, b, rfl, ep, ha, hab, hb, bb⟩ := (pt.ok u (List.mem_of_getElem? hu)).t s2.t
      have ba : bits a ≤ 40 := bits_range ha hab bb
      obtain ⟨m1, m2, m3⟩ := hw a b ha hab hb
      refine ⟨_, rfl, _, rfl, p, _, _, _, rfl, rfl, SqT.of ep, rfl, _, rfl, p, _, _, _, rfl, rfl, SqT.of ep, rfl, r, a_, b_, c_, a, b, rfl, s2 _ _ e, c, ⟨ha, ba⟩, ⟨hb, bb⟩, fun t H3 s3 f3 t0 b0 bt bbt => ?_⟩
      refine ⟨t, _, rfl, SqT.of f3, rfl, _, _, rfl, _, _, rfl, rfl, ?_⟩
      have S3 := s2.trans s3
      generalize a_ * a * a - 2 * b_ * a * b + c_ * b * b = W at *
      have cm1 : CM W y := CM.b bt sq.bb (by decide) (by decide)
      have cm2 : CM x (b * b) := CM.b sq.ba bbt (by decide) (by decide)
      refine ⟨_, rfl, _, rfl, v, o1, p, a, b, rfl, g1.mono S3, s3 _ _ ep, ha, hab, hb, bb, fun H4 s4 => ?_⟩
      have S4 := S3.trans s4
      have q4 := sq.mono S4
      refine ⟨_, rfl, _, rfl, ps, _, _, _, rfl, rfl, SqT.of q4.at_, rfl, _, _, rfl, rfl, cm1, _, rfl, ps, _, _, _, rfl, rfl, SqT.of q4.at_, rfl, _, rfl, _, _, rfl, rfl, cm2, _, _, rfl, rfl, rfl, _, rfl, iteFalse ?_ ?_⟩
      · rw [m1]
        simp
      refine ⟨_, rfl, _, rfl, ps, _, _, _, rfl, rfl, SqT.of q4.at_, rfl, _, _, rfl, rfl, cm1, _, rfl, ps, _, _, _, rfl, rfl, SqT.of q4.at_, rfl, _, rfl, _, _, rfl, rfl, cm2, _, _, rfl, rfl, ?_⟩
      have ep4 := s4 _ _ (s3 _ _ ep)
      have amid : ∀ (bl : Bool), bl = decide (W * y < x * (b * b)) → ∀ H5, Same H4 H5 → amidB o2 a b = true → bl = true := fun bl eb H5 _ z => by
        rw [eb]
        exact decide_eq_true (m3 z)
      refine ⟨_, rfl, _, rfl, ite3 (fun h1 => ?_) (fun h1 => ?_)⟩
      · have h1' : W * y < x * (b * b) := dec_t h1
        refine ⟨_, rfl, _, rfl, w_, o2, p, a, b, rfl, g2.mono S4, ep4, ha, hab, hb, bb, fun H5 s5 => ⟨_, rfl, ?_⟩⟩
        rw [m2 h1']
        refine iteFalse (by decide) ?_
        refine ⟨_, rfl, _, rfl, w_, o2, p, a, b, rfl, (g2.mono S4).mono s5, s5 _ _ ep4, ha, hab, hb, bb, fun H6 s6 => ⟨_, rfl, ite3 (fun h2 => ?_) (fun h2 => ?_)⟩⟩
        · refine ⟨_, rfl, _, rfl, ?_⟩
          rw [show decide (W * y < x * (b * b)) = true from h1]
          exact iteFalse (by decide) ⟨_, _, _, _, rfl, S4.trans (s5.trans s6)⟩
        · exact ⟨_, _, _, _, rfl, S4.trans (s5.trans s6)⟩
      · refine ⟨_, rfl, _, rfl, w_, o2, p, a, b, rfl, g2.mono S4, ep4, ha, hab, hb, bb, fun H6 s6 => ⟨_, rfl, ite3 (fun h2 => ?_) (fun h2 => ?_)⟩⟩
        · exact absurd (m3 h2) (dec_f h1)
        · exact ⟨_, _, _, _, rfl, S4.trans s6⟩
    · rintro σ H2 ⟨z1, z2, z3, z4, rfl, s2⟩
      exact q H2 s2
theorem S_law_beside : FnScope ["found", "parts", "number", "p", "q", "r", "s", "scale", "root", "near"] ["found"] (defScope (top 36)) := ⟨rfl, rfl, rfl, by decide +kernel, rfl, by decide +kernel, by decide +kernel⟩
theorem fn_law_beside (D_law_beside : Df K mg "_law_beside" (top 36)) (F_law_root : Fn P w K mg base "_law_root" ["number"] 1 spRoot) (F_law_side : Fn P w K mg base "_law_side" ["number"] 1 spSide) (T : Txt mg) : Fn P w K mg base "_law_beside" ["found"] 3 (spBeside K) := by
  refine D_law_beside.fn S_law_beside (fun _ _ _ _ _ _ us hl => match us, hl with | [_], _ => rfl) (fun vs H Q E h => ?_) (fun f cdv A outer s H vs Q E hr h => ?_)
  · obtain ⟨v, l, m, rfl, _⟩ := h
    rfl
  · obtain ⟨v, l, m, rfl, gv, q⟩ := h
    obtain ⟨t, q1, q2, rfl, et, n1, n2⟩ := gv
    have CN : CompM (cxOf CX0 P w K mg base ["found", "parts", "number", "p", "q", "r", "s", "scale", "root", "near"] "_law_beside" (defScope (top 36)) f cdv A outer s H E).nox (addComp ((forBody ((defBody (top 36)).getD 1 (.Pass ⟨0, 0, 0, 0⟩))).getD 4 (.Pass ⟨0, 0, 0, 0⟩))) [("scale", s.heap.objs.size + 1), ("near", s.heap.objs.size + 2)] ["k"] [("scale", 7), ("near", 9)] :=
      ⟨by rfl, rfl, by decide +kernel, by decide +kernel, (fun x hx => by simp only [List.mem_cons, List.not_mem_nil, or_false] at hx; subst hx; rfl), (fun p hp => by simp only [List.mem_cons, List.not_mem_nil, or_false] at hp; rcases hp with rfl | rfl <;> rfl), by rfl, by decide +kernel, (fun p hp => by simp only [List.mem_cons, List.not_mem_nil, or_false] at hp; rcases hp with rfl | rfl <;> exact ⟨rfl, rfl, .inr (.inl rfl), rfl, rfl⟩), ⟨rfl, rfl⟩, rfl⟩
    refine ⟨_, (pss_cons (ps_set (i := 1) S_law_beside.nd rfl (Or.inl rfl) (pe_lstA pa_nil)) (pss_cons (ps_for PassesOwn.never rfl (pi_tup (pv 0)) (pg_name (i := 2) S_law_beside.nd rfl (Or.inl rfl)) (pss_cons (ps_asg (pv 2) (pg_tup rfl (pgs_cons (pg_name (i := 3) S_law_beside.nd rfl (Or.inl rfl)) (pgs_cons (pg_name (i := 4) S_law_beside.nd rfl (Or.inl rfl)) (pgs_cons (pg_name (i := 5) S_law_beside.nd rfl (Or.inl rfl)) (pgs_cons (pg_name (i := 6) S_law_beside.nd rfl (Or.inl rfl)) pgs_nil)))))) (pss_cons (ps_set (i := 7) S_law_beside.nd rfl (Or.inr rfl) (pe_op op_pow pe_int pe_int)) (pss_cons (ps_set (i := 8) S_law_beside.nd rfl (Or.inl rfl) (pe_op op_mulX (pe_fn F_law_root (hr.mono (by decide)) (by rfl) (pa_cons (pe_op op_mulX (pe_op op_mulX (pe_op op_mulX (pe_op op_mulX (pv 4) (pv 4)) (pv 5)) (pv 7)) (pv 7)) pa_nil)) (pe_fn F_law_side (hr.mono (by decide)) (by rfl) (pa_cons (pv 4) pa_nil)))) (pss_cons (ps_set (i := 9) S_law_beside.nd rfl (Or.inr rfl) (pe_op op_fdivP (pe_op op_add (pe_op op_mulX (pv 3) (pv 7)) (pv 8)) (pv 6))) (pss_one (ps_set (i := 1) S_law_beside.nd rfl (Or.inl rfl) (pe_op op_catA (pv 1) (pe_compG rfl CN (pi_range2 rfl T.z_range (pa_cons (pe_un un_neg pe_int) (pa_cons pe_int pa_nil))) (fun fp s₀ H₀ => (pg_name (i := 0) CN.nd rfl (Or.inl rfl) (Or.inr rfl))) (fun fp s₀ H₀ => (pts_one (pt_chain op_le op_le pe_int (pe_op op_add (pv 2) (pv 0)) (pv 1)))) (fun fp s₀ H₀ => (pe_tupA (pa_cons (pe_op op_add (pv 2) (pv 0)) (pa_cons (pv 1) pa_nil))))))))))))) (pss_one (ps_ret (pv 1))))), ?_⟩
    have e9 : ((10 : Int) ^ (9 : Int).toNat) = 1000000000 := by decide +kernel
    refine ⟨sz (by simp), fun r0 H1 s1 f1 _ => ?_⟩
    refine ⟨_, rfl, t, rfl, ⟨_, SqT.of (s1 _ _ et)⟩, for_tup (K := K) (a := t) (xs := [.ref q1, .ref q2]) (fun i σ H2 => ∃ (z2 z3 z4 z5 z6 z7 z8 z9 : Option V) (r : Addr) (ws : List V), σ = [some (.ref t), some (.ref r), z2, z3, z4, z5, z6, z7, z8, z9] ∧ Pts H2 r ws ∧ ws.length ≤ 4 * i ∧ Same H1 H2)
      ⟨_, _, _, _, _, _, _, _, r0, [], rfl, ⟨f1, fun v h => nomatch h⟩, Nat.le_refl _, Same.refl _⟩ (fun i σ H2 _ ⟨_, _, _, _, _, _, _, _, _, _, _, _, _, s2⟩ => SqT.of (s2 _ _ (s1 _ _ et))) ?_ ?_⟩
    · rintro i x σ H2 hx ⟨z2, z3, z4, z5, z6, z7, z8, z9, r, ws, rfl, pt, hl, s2⟩
      have S2 := s1.trans s2
      have hi : i < 2 := (List.getElem?_eq_some_iff.mp hx).1
      have hn : ∃ (z : Addr) (n : N4), x = .ref z ∧ Nm K H2 z n := by
        match i, hx with
        | 0, hx => cases hx; exact ⟨q1, l, rfl, n1.mono S2⟩
        | 1, hx => cases hx; exact ⟨q2, m, rfl, n2.mono S2⟩
        | i + 2, hx => simp at hx
      obtain ⟨z, n, rfl, nz⟩ := hn
      obtain ⟨P0, q0, R0, S0⟩ := n
      obtain ⟨nat, b0, b1, b2, b3, p2, p3⟩ := nz
      dsimp only at nat b0 b1 b2 b3 p2 p3
      have bs : bits ((10 : Int) ^ (9 : Int).toNat) ≤ 30 := by rw [e9]; decide
      have c1 : bits (q0 * q0) ≤ 4 := bits_mul b1 b1
      have c2 : bits (q0 * q0 * R0) ≤ 474 := bits_mul c1 b2
      have c3 : bits (q0 * q0 * R0 * (10 : Int) ^ (9 : Int).toNat) ≤ 504 := bits_mul c2 bs
      have c4 : bits (q0 * q0 * R0 * (10 : Int) ^ (9 : Int).toNat * (10 : Int) ^ (9 : Int).toNat) ≤ 534 := bits_mul c3 bs
      have qq : 0 ≤ q0 * q0 * R0 := Int.mul_nonneg (sq0 _) p2
      have s9p : 0 ≤ (10 : Int) ^ (9 : Int).toNat := by rw [e9]; decide
      have cm : ∀ {u v : Int} {m n : Nat}, bits u ≤ m → bits v ≤ n → m ≤ 1000 → n ≤ 1000 → CM u v := fun h1 h2 a b => CM.b h1 h2 (by omega) (by omega)
      refine ⟨_, rfl, z, _, rfl, nat, rfl, _, _, rfl, _, _, rfl, _, _, rfl, _, _, rfl, rfl, ?_⟩
      refine ⟨_, _, rfl, rfl, ⟨by decide, by decide, by decide⟩, ?_⟩
      refine ⟨_, rfl, _, rfl, _, _, rfl, rfl, cm b1 b1 (by decide) (by decide), _, rfl, _, _, rfl, rfl, cm c1 b2 (by decide) (by decide), _, rfl, _, _, rfl, rfl, cm c2 bs (by decide) (by decide), _, rfl, _, _, rfl, rfl, cm c3 bs (by decide) (by decide), _, rfl, Int.mul_nonneg (Int.mul_nonneg qq s9p) s9p, bits_le c4 (by decide), fun rt Rt_ => ?_⟩
      refine ⟨_, rfl, q0, rfl, _, _, rfl, rfl, CM.r (by have := sg_small q0; exact lt64s (by omega) (by omega)), ?_⟩
      refine ⟨_, rfl, _, rfl, _, _, rfl, rfl, cm b0 bs (by decide) (by decide), _, rfl, _, _, rfl, rfl, _, rfl, _, _, rfl, rfl, ⟨by show (0 : Int) < S0; omega, bits_le b3 (by decide)⟩, ?_⟩
      refine ⟨_, rfl, _, rfl, _, _, rfl, ⟨by decide, by decide, by decide, by decide⟩, comp_rF (k := 1) (by decide) (fun v H => PtOk H v) (fun v H H' st h => PtOk.t h st) ?_ ?_⟩
      · intro j H3 τ Kc Kn hj s3 hτ kk kn
        obtain ⟨τ0, rfl⟩ : ∃ τ0, τ = [τ0] := by
          match τ, hτ with
          | [a], _ => exact ⟨a, rfl⟩
        refine ⟨⟨[some (.int (-1 + (j : Int)))], rfl, rfl⟩, ?_⟩
        refine ⟨_, rfl, _, rfl, _, _, rfl, rfl, _, _, rfl, rfl, _, rfl, ite3 (fun h1 => ?_) (fun h1 => ?_)⟩
        · refine ⟨_, rfl, _, _, rfl, rfl, _, rfl, ite3 (fun h2 => ?_) (fun h2 => ?_)⟩
          · have h1 := dec_t h1
            have h2 := dec_t h2
            have h3 : (0 : Int) < (10 : Int) ^ (9 : Int).toNat := by rw [e9]; decide
            refine ⟨_, rfl, _, rfl, _, _, rfl, rfl, _, rfl, sz (by simp), fun pp H4 s4 f4 _ => kk _ _ s4 ⟨pp, _, _, rfl, f4, h1, h2, h3, Nat.le_trans bs (by decide)⟩⟩
          · exact kn _ (Same.refl _)
        · exact ⟨_, rfl, iteF (kn _ (Same.refl _))⟩
      · intro l2 ys H3 nl s3 f3 hys hr
        have hys : ys.length ≤ 4 := hys
        refine ⟨r, l2, _, _, rfl, rfl, s3 _ _ pt.lst, f3, sz (by omega), fun r3 H4 s4 f4 _ => ?_⟩
        refine ⟨_, _, _, _, _, _, _, _, r3, ws ++ ys, rfl, ⟨f4, fun v hv => ?_⟩, by rw [List.length_append]; omega, s2.trans (s3.trans s4)⟩
        rcases List.mem_append.mp hv with hv | hv
        · exact (pt.ok v hv).t (s3.trans s4).t
        · exact (hr v hv).t s4.t
    · rintro σ H2 ⟨z2, z3, z4, z5, z6, z7, z8, z9, r, ws, rfl, pt, hl, s2⟩
      exact ⟨_, rfl, q r ws H2 pt hl (s1.trans s2)⟩
theorem S_law : FnScope ["script", "cell", "numbers", "corner", "begin", "end", "curve", "square", "shut", "wide", "parts", "found", "other"] ["script"] (defScope (top 41)) := ⟨rfl, rfl, rfl, by decide +kernel, rfl, by decide +kernel, by decide +kernel⟩
theorem fn_law (D_law : Df K mg "law" (top 41)) (F_law_numbers : Fn P w K mg base "_law_numbers" ["cell", "many", "base"] 2 spNumbers) (F_law_three : Fn P w K mg base "_law_three" ["numbers"] 1 spThr) (F_law_curve : Fn P w K mg base "_law_curve" ["corner", "begin", "end"] 1 spCrv) (F_law_leash : Fn P w K mg base "_law_leash" ["curve", "numbers"] 3 spLeash) (F_gate : Fx P w K mg base "gate" ["corner", "begin", "end", "square"] 6 [] (spGateE K 0)) (F_open_gate : Fx P w K mg base "open_gate" ["corner", "begin", "end", "square"] 6 [] (spGateE K 1)) (F_law_beside : Fn P w K mg base "_law_beside" ["found"] 3 (spBeside K)) (F_law_parts_right : Fn P w K mg base "_law_parts_right" ["curve", "square", "shut", "wide", "parts"] 5 (spPartsR K)) (F_law_turned : Fn P w K mg base "_law_turned" ["found"] 1 (spTurned K)) (F_law_order : Fn P w K mg base "_law_order" ["one", "other"] 3 (spOrdE K)) (T : Txt mg) : Fn P w K mg base "law" ["script"] 8 (spLaw K) := by
  refine D_law.fn S_law (fun _ _ _ _ _ _ us hl => match us, hl with | [_], _ => rfl) (fun vs H Q E h => ?_) (fun f cdv A outer s H vs Q E hr h => ?_)
  · obtain ⟨sa, ss, rfl, _⟩ := h
    rfl
  · obtain ⟨sa, ss, rfl, hS, hlen, fin⟩ := h
    have CN : CompN (cxOf CX0 P w K mg base ["script", "cell", "numbers", "corner", "begin", "end", "curve", "square", "shut", "wide", "parts", "found", "other"] "law" (defScope (top 41)) f cdv A outer s H E).nox (addComp ((forBody ((defBody (top 41)).getD 0 (.Pass ⟨0, 0, 0, 0⟩))).getD 6 (.Pass ⟨0, 0, 0, 0⟩))) [] "number" [] :=
      ⟨by rfl, rfl, by decide +kernel, by decide +kernel, rfl, (fun p hp => nomatch hp), by rfl, by decide +kernel, (fun p hp => nomatch hp), ⟨rfl, rfl⟩, rfl⟩
    refine ⟨_, (pss_cons (ps_for PassesOwn.never rfl (pi_list (pe_op op_catA (pe_slice sl_listA (pv 0) po_none (po_some pe_int)) (pe_lstA (pa_cons (pe_callB call_len_seq (by rfl) T.z_len bt_len (pa_cons (pv 0) pa_nil)) pa_nil)))) (pg_name (i := 1) S_law.nd rfl (Or.inl rfl)) (pss_cons (ps_set (i := 2) S_law.nd rfl (Or.inl rfl) (pe_fn F_law_numbers (hr.mono (by decide)) (by rfl) (pa_cons (pv 1) (pa_cons pe_int (pa_cons (pe_op op_pow pe_int pe_int) pa_nil))))) (pss_cons (ps_asg (pe_fn F_law_three (hr.mono (by decide)) (by rfl) (pa_cons (pe_slice sl_listA (pv 2) po_none (po_some pe_int)) pa_nil)) (pg_tup rfl (pgs_cons (pg_name (i := 3) S_law.nd rfl (Or.inl rfl)) (pgs_cons (pg_name (i := 4) S_law.nd rfl (Or.inl rfl)) (pgs_cons (pg_name (i := 5) S_law.nd rfl (Or.inl rfl)) pgs_nil))))) (pss_cons (ps_set (i := 6) S_law.nd rfl (Or.inl rfl) (pe_fn F_law_curve (hr.mono (by decide)) (by rfl) (pa_cons (pv 3) (pa_cons (pv 4) (pa_cons (pv 5) pa_nil))))) (pss_cons (ps_set (i := 7) S_law.nd rfl (Or.inl rfl) (pe_fn F_law_leash (hr.mono (by decide)) (by rfl) (pa_cons (pv 6) (pa_cons (pe_slice sl_listA (pv 2) (po_some pe_int) (po_some pe_int)) pa_nil)))) (pss_cons (ps_set (i := 8) S_law.nd rfl (Or.inl rfl) (pe_fx0 F_gate (hr.mono (by decide)) (by rfl) (pa_cons (pv 3) (pa_cons (pv 4) (pa_cons (pv 5) (pa_cons (pv 7) pa_nil)))))) (pss_cons (ps_set (i := 9) S_law.nd rfl (Or.inl rfl) (pe_fx0 F_open_gate (hr.mono (by decide)) (by rfl) (pa_cons (pv 3) (pa_cons (pv 4) (pa_cons (pv 5) (pa_cons (pv 7) pa_nil)))))) (pss_cons (ps_set (i := 10) S_law.nd rfl (Or.inl rfl) (pe_op op_catA (pe_lstA (pa_cons (pe_tupA (pa_cons pe_int (pa_cons pe_int pa_nil))) (pa_cons (pe_tupA (pa_cons pe_int (pa_cons pe_int pa_nil))) (pa_cons (pe_tupA (pa_cons pe_int (pa_cons pe_int pa_nil))) pa_nil)))) (pe_compA rfl CN (pi_list (pe_slice sl_listA (pv 2) (po_some pe_int) po_none)) (fun fp s₀ H₀ => (pe_tupA (pa_cons (pe_op op_mod (pv 0) (pe_op op_pow pe_int pe_int)) (pa_cons (pe_op op_pow pe_int pe_int) pa_nil))))))) (pss_cons (ps_for PassesOwn.never rfl (pi_list (pe_lstA (pa_cons (pv 8) (pa_cons (pv 9) pa_nil)))) (pg_name (i := 11) S_law.nd rfl (Or.inl rfl)) (pss_one (ps_if (pt_cmpR op_notN (pv 11) pe_non (nomark _)) (pss_one (ps_set (i := 10) S_law.nd rfl (Or.inl rfl) (pe_op op_catA (pv 10) (pe_fn F_law_beside (hr.mono (by decide)) (by rfl) (pa_cons (pv 11) pa_nil))))) pss_nil))) (pss_cons (ps_if (pt_not (pt_val (pe_fn F_law_parts_right (hr.mono (by decide)) (by rfl) (pa_cons (pv 6) (pa_cons (pv 7) (pa_cons (pv 8) (pa_cons (pv 9) (pa_cons (pv 10) pa_nil)))))))) (pss_one (ps_ret pe_bl)) pss_nil) (pss_cons (ps_set (i := 12) S_law.nd rfl (Or.inl rfl) (pe_fx0 F_gate (hr.mono (by decide)) (by rfl) (pa_cons (pv 3) (pa_cons (pv 5) (pa_cons (pv 4) (pa_cons (pv 7) pa_nil)))))) (pss_cons (ps_if (pt_cmpR op_ne (pe_cmpR op_isN (pv 8) pe_non (nomark _)) (pe_cmpR op_isN (pv 12) pe_non (nomark _)) (nomark _)) (pss_one (ps_ret pe_bl)) pss_nil) (pss_one (ps_if (pw_and (pt_cmpR op_notN (pv 8) pe_non (nomark _)) (pw_and1 (pt_cmpR (op_neI hr.units0) (pv 4) (pv 5) (nomark _)))).pt (pss_cons (ps_if (pt_cmpR op_ne (pe_fn F_law_order (hr.mono (by decide)) (by rfl) (pa_cons (pe_fn F_law_turned (hr.mono (by decide)) (by rfl) (pa_cons (pe_ix ix_tup (pv 8) pe_int (fun _ _ => rfl)) pa_nil)) (pa_cons (pe_ix ix_tup (pv 12) pe_int (fun _ _ => rfl)) pa_nil))) pe_int (nomark _)) (pss_one (ps_ret pe_bl)) pss_nil) (pss_one (ps_if (pt_cmpR op_ne (pe_fn F_law_order (hr.mono (by decide)) (by rfl) (pa_cons (pe_fn F_law_turned (hr.mono (by decide)) (by rfl) (pa_cons (pe_ix ix_tup (pv 8) pe_int (fun _ _ => rfl)) pa_nil)) (pa_cons (pe_ix ix_tup (pv 12) pe_int (fun _ _ => rfl)) pa_nil))) pe_int (nomark _)) (pss_one (ps_ret pe_bl)) pss_nil))) pss_nil)))))))))))))) (pss_one (ps_ret pe_bl))), ?_⟩
    refine ⟨_, rfl, _, rfl, sa, _, rfl, hS, fun p0 H0 s0 f0 n0 => ?_⟩
    refine ⟨_, rfl, sa, _, rfl, .inl (s0.seq hS), sz (by simp), fun p1 H1 s1 f1 n1 => ?_⟩
    refine ⟨p0, p1, _, _, rfl, rfl, s1 _ _ f0, f1, cells_len hlen, fun p2 H2 s2 f2 n2 => ?_⟩
    refine ⟨p2, rfl, ⟨_, SqL.of f2⟩, for_list (K := K) (a := p2) (xs := cutV (ss.map V.int) none (some 5) ++ [.int (((ss.map V.int).length : Nat) : Int)]) (fun _ σ H3 => ∃ z1 z2 z3 z4 z5 z6 z7 z8 z9 z10 z11 z12, σ = [some (.ref sa), z1, z2, z3, z4, z5, z6, z7, z8, z9, z10, z11, z12] ∧ Same H2 H3)
      ⟨_, _, _, _, _, _, _, _, _, _, _, _, rfl, Same.refl _⟩ (fun i σ H3 _ ⟨_, _, _, _, _, _, _, _, _, _, _, _, _, sm⟩ => SqL.of (sm _ _ f2)) ?_ ?_⟩
    · rintro i o σ H3 hi ⟨z1, z2, z3, z4, z5, z6, z7, z8, z9, z10, z11, z12, rfl, sm⟩
      obtain ⟨c, rfl⟩ := cells_int hi
      have eb : ((10 : Int) ^ (20 : Int).toNat) = 100000000000000000000 := by decide +kernel
      have e6 : ((10 : Int) ^ (6 : Int).toNat) = 1000000 := by decide +kernel
      have bb : bits ((10 : Int) ^ (20 : Int).toNat) ≤ 70 := by rw [eb]; decide +kernel
      refine ⟨_, rfl, _, _, rfl, rfl, ⟨by decide, by decide, by decide⟩, c, 13, _, rfl, by decide, ⟨by rw [eb]; decide, bits_le bb (by decide)⟩, fun pn ns H4 hn hns s4 f4 => ?_⟩
      have nn : ∀ n ∈ ns, 0 ≤ n ∧ bits n ≤ 70 := fun n h => ⟨(hns n h).1, bits_range (hns n h).1 (Int.le_of_lt (hns n h).2) bb⟩
      clear hns
      refine ⟨_, rfl, _, rfl, pn, _, rfl, SqL.of f4, fun p5 H5 s5 f5 n5 => ?_⟩
      rw [show (7 : Int) = ((7 : Nat) : Int) from rfl, cut_0j 7 (by omega)] at f5
      refine ⟨p5, ns.take 7, rfl, f5, by rw [List.length_take]; omega, fun t pc pb pe cx cy bx by_ ex ey H6 s6 et c1 c2 c3 => ?_⟩
      refine ⟨t, _, rfl, SqT.of et, rfl, _, _, rfl, _, _, rfl, _, _, rfl, rfl, ?_⟩
      refine ⟨_, rfl, _, rfl, _, rfl, pc, pb, pe, _, _, _, _, _, _, rfl, c1, c2, c3, fun r H7 s7 f7 cv => ?_⟩
      have f47 := s7 _ _ (s6 _ _ (s5 _ _ f4))
      refine ⟨_, rfl, _, rfl, _, rfl, _, rfl, pn, _, rfl, SqL.of f47, fun p8 H8 s8 f8 n8 => ?_⟩
      rw [show (7 : Int) = ((7 : Nat) : Int) from rfl, show (10 : Int) = ((10 : Nat) : Int) from rfl, cut_ij 7 10 (by decide) (by omega)] at f8
      refine ⟨r, p8, _, _, _, (ns.drop 7).take (10 - 7), rfl, s8 _ _ f7, cv, f8, by rw [List.length_take, List.length_drop]; omega, fun n h => nn n (List.mem_of_mem_drop (List.mem_of_mem_take h)), fun ps x y H9 s9 sq lw x0 => ?_⟩
      have hy : 0 < y := lw.pos
      have bd : ∀ {u v : Int}, bits u ≤ 50 → bits v ≤ 50 → bits (u - v) ≤ 51 := fun h1 h2 => bits_sub h1 h2
      have S9 := s7.trans (s8.trans s9)
      have d1 := c1.mono S9
      have d2 := c2.mono S9
      have d3 := c3.mono S9
      have mk := fun {room : Int} {H' : Hp} {v : V} (hr : room = 0 ∨ room = 1) (pw : Pw K H' v (pwN cx cy bx by_ ex ey x y room) (decide ([bx, by_] = [ex, ey])) (rAl cx cy bx by_ ex ey * y) (rUn cx cy bx by_ ex ey x y) (rLen bx by_ ex ey * y)) => gateV_of hr hy sq.ba sq.bb (bd c3.bx c2.bx) (bd c3.by_ c2.by_) (bd c1.bx c2.bx) (bd c1.by_ c2.by_) pw
      refine ⟨_, rfl, _, rfl, _, rfl, _, rfl, pc, pb, pe, ps, _, _, _, _, _, _, x, y, rfl, d1, d2, d3, sq, lw, x0, fun v1 H10 s10 pw1 => ?_⟩
      have g1 := mk (.inl rfl) pw1
      refine ⟨_, rfl, _, rfl, _, rfl, _, rfl, pc, pb, pe, ps, _, _, _, _, _, _, x, y, rfl, d1.mono s10, d2.mono s10, d3.mono s10, sq.mono s10, lw, x0, fun v2 H11 s11 pw2 => ?_⟩
      have g2 := mk (.inr rfl) pw2
      have g1 := g1.mono s11
      have S11 := s10.trans s11
      -- parts
      refine ⟨sz (by simp), fun a1 H12 s12 f12 _ => ?_⟩
      refine ⟨sz (by simp), fun a2 H13 s13 f13 _ => ?_⟩
      refine ⟨sz (by simp), fun a3 H14 s14 f14 _ => ?_⟩
      refine ⟨sz (by simp), fun la H15 s15 f15 _ => ?_⟩
      have S15 := s12.trans (s13.trans (s14.trans s15))
      have f4b := (S9.trans (S11.trans S15)) _ _ (s6 _ _ (s5 _ _ f4))
      refine ⟨_, rfl, _, rfl, pn, _, rfl, SqL.of f4b, fun ln H16 s16 f16 _ => ?_⟩
      rw [show (10 : Int) = ((10 : Nat) : Int) from rfl, cut_from 10] at f16
      refine ⟨ln, rfl, ⟨_, SqL.of f16⟩, comp_R (SqL.of f16) (by rw [List.length_map, List.length_drop]; omega) (fun _ v H => PtOk H v) (fun _ v H H' st h => h.t st) ?_ ?_⟩
      · intro j xx H17 Kc hx s17 kk
        rw [List.getElem?_map] at hx
        obtain ⟨nu, _, rfl⟩ := Option.map_eq_some_iff.mp hx
        have m0 := Int.emod_nonneg nu (show (1000000 : Int) ≠ 0 by decide)
        have m1 := Int.emod_lt_of_pos nu (show (0 : Int) < 1000000 by decide)
        refine ⟨_, rfl, _, _, rfl, rfl, ⟨by decide, by decide, by decide⟩, _, _, rfl, rfl, (by show (0 : Int) < (10 : Int) ^ (6 : Int).toNat; rw [e6]; decide), _, _, rfl, rfl, ⟨by decide, by decide, by decide⟩, sz (by simp), fun pp H18 s18 f18 _ => kk _ _ s18 ⟨pp, _, _, rfl, f18, ?_, ?_, ?_, ?_⟩⟩
        · rw [e6]; exact m0
        · rw [e6]; omega
        · rw [e6]; decide
        · rw [e6]; decide
      intro lb ys H17 nlb s17 f17 hly hr
      rw [List.length_map, List.length_drop] at hly
      refine ⟨la, lb, _, _, rfl, rfl, s17 _ _ (s16 _ _ f15), f17, sz (by simp; omega), fun lp H18 s18 f18 _ => ?_⟩
      have T15 := s16.trans (s17.trans s18)
      have p1ok : PtOk H18 (.ref a1) := ⟨a1, _, _, rfl, (s13.trans (s14.trans (s15.trans T15))) _ _ f12, by decide, by decide, by decide, by decide⟩
      have p2ok : PtOk H18 (.ref a2) := ⟨a2, _, _, rfl, (s14.trans (s15.trans T15)) _ _ f13, by decide, by decide, by decide, by decide⟩
      have p3ok : PtOk H18 (.ref a3) := ⟨a3, _, _, rfl, (s15.trans T15) _ _ f14, by decide, by decide, by decide, by decide⟩
      have P18 : Pts H18 lp ([V.ref a1, V.ref a2, V.ref a3] ++ ys) := ⟨f18, fun v hv => by
        rcases List.mem_append.mp hv with hv | hv
        · simp only [List.mem_cons, List.not_mem_nil, or_false] at hv
          rcases hv with rfl | rfl | rfl
          · exact p1ok
          · exact p2ok
          · exact p3ok
        · obtain ⟨j, hj⟩ := List.getElem?_of_mem hv
          exact (hr j v hj).t s18.t⟩
      have l18 : ([V.ref a1, V.ref a2, V.ref a3] ++ ys).length ≤ 6 := by rw [List.length_append]; simp only [List.length_cons, List.length_nil]; omega
      generalize [V.ref a1, V.ref a2, V.ref a3] ++ ys = ws0 at P18 l18
      have S18 := S11.trans (S15.trans T15)
      have T18 := S15.trans T15
      -- for found in [shut, wide]
      refine ⟨_, rfl, _, rfl, sz (by simp), fun lf H19 s19 f19 _ => ?_⟩
      have G1 := (g1.mono T18).mono s19
      have G2 := (g2.mono T18).mono s19
      refine ⟨lf, rfl, ⟨_, SqL.of f19⟩, for_list (K := K) (a := lf) (xs := [v1, v2]) (fun j σ H20 => ∃ (z11 z12 : Option V) (lp : Addr) (ws : List V), σ = [some (.ref sa), some (.int c), some (.ref pn), some (.ref pc), some (.ref pb), some (.ref pe), some (.ref r), some (.ref ps), some v1, some v2, some (.ref lp), z11, z12] ∧ Pts H20 lp ws ∧ ws.length ≤ 6 + 8 * j ∧ Same H19 H20)
        ⟨_, _, lp, ws0, rfl, P18.mono s19, by omega, Same.refl _⟩ (fun j σ H20 _ ⟨_, _, _, _, _, _, _, s20⟩ => SqL.of (s20 _ _ f19)) ?_ ?_⟩
      · rintro j fo σ H20 hj ⟨z11, z12, lp, ws, rfl, pt, hl, s20⟩
        have hj2 : j < 2 := (List.getElem?_eq_some_iff.mp hj).1
        have hfo : ∃ o, GateV K H20 fo o := by
          match j, hj with
          | 0, hj => cases hj; exact ⟨_, G1.mono s20⟩
          | 1, hj => cases hj; exact ⟨_, G2.mono s20⟩
          | j + 2, hj => simp at hj
        obtain ⟨o, go⟩ := hfo
        cases o with
        | none =>
          have go : fo = .non := go
          subst go
          exact ⟨_, rfl, rfl, _, rfl, iteFalse (by decide) ⟨_, _, lp, ws, rfl, pt, by omega, s20⟩⟩
        | some lm =>
          obtain ⟨l, m⟩ := lm
          have go' := go
          obtain ⟨tt, q1, q2, rfl, _⟩ := go
          refine ⟨_, rfl, rfl, _, rfl, iteTrue (by rw [decide_eq_false (by intro z; cases z)]; rfl) ?_⟩
          refine ⟨_, rfl, _, rfl, _, l, m, rfl, go', fun rb ws2 H21 pt2 hl2 s21 => ?_⟩
          refine ⟨lp, rb, _, _, rfl, rfl, s21 _ _ pt.lst, pt2.lst, sz (by omega), fun lp2 H22 s22 f22 _ => ?_⟩
          refine ⟨_, _, lp2, ws ++ ws2, rfl, ⟨f22, fun v hv => ?_⟩, by rw [List.length_append]; omega, s20.trans (s21.trans s22)⟩
          rcases List.mem_append.mp hv with hv | hv
          · exact (pt.ok v hv).t (s21.trans s22).t
          · exact (pt2.ok v hv).t s22.t
      rintro σ H20 ⟨z11, z12, lp, ws, rfl, pt, hl, s20⟩
      have hl : ws.length ≤ 6 + 8 * 2 := hl
      have S20 := S18.trans (s19.trans s20)
      have G1 := G1.mono s20
      have G2 := G2.mono s20
      have sq20 := sq.mono S20
      refine ⟨_, rfl, _, rfl, _, rfl, _, rfl, _, rfl, r, ps, lp, v1, v2, _, _, _, _, _, x, y, ws, rfl, (s8.trans (s9.trans S20)) _ _ f7, cv, sq20, G1, G2, pt, by omega, fun a b ha hab hb => gate_walk hy ha hab hb, fun H21 s21 => ⟨_, rfl, iteFalse (by decide) ?_⟩⟩
      have S21 := S20.trans s21
      refine ⟨_, rfl, _, rfl, _, rfl, _, rfl, pc, pe, pb, ps, _, _, _, _, _, _, x, y, rfl, d1.mono S21, d3.mono S21, d2.mono S21, sq.mono S21, lw, x0, fun v3 H22 s22 pw3 => ?_⟩
      have G3 := gateV_of (.inl rfl) hy sq.ba sq.bb (bd c2.bx c3.bx) (bd c2.by_ c3.by_) (bd c1.bx c3.bx) (bd c1.by_ c3.by_) pw3
      have G1 := (G1.mono s21).mono s22
      have S22 := S21.trans s22
      have nxt : Same H2 H22 := sm.trans (s4.trans (s5.trans (s6.trans (S9.trans S22))))
      obtain ⟨tu1, tu2⟩ := gate_turn (cx := cx) (cy := cy) (bx := bx) (by_ := by_) (ex := ex) (ey := ey) (x := x) (y := y) hy
      generalize gateO cx cy bx by_ ex ey x y 0 = o1 at *
      generalize gateO cx cy ex ey bx by_ x y 0 = o3 at *
      have isN : ∀ {v : V} {o : Option (N4 × N4)} {H' : Hp}, GateV K H' v o → decide (v = .non) = o.isNone := fun {v o H'} h => by
        cases o with
        | none => have h : v = .non := h; subst h; rfl
        | some lm => obtain ⟨_, _, _, rfl, _⟩ := h; exact decide_eq_false (by intro z; cases z)
      refine ⟨_, rfl, rfl, _, rfl, rfl, rfl, _, rfl, iteFalse ?_ ?_⟩
      · rw [isN G1, isN G3, tu1]
        simp
      have done : ∃ z1 z2 z3 z4 z5 z6 z7 z8 z9 z10 z11 z12 : Option V, True := ⟨none, none, none, none, none, none, none, none, none, none, none, none, trivial⟩
      refine ⟨_, rfl, rfl, _, rfl, ite3 (fun h1 => ?_) (fun h1 => ?_)⟩
      · refine ⟨_, rfl, _, rfl, pb, pe, [bx, by_], [ex, ey], rfl, rfl, SqT.of (d2.mono S22).at_, SqT.of (d3.mono S22).at_, _, rfl, ite3 (fun h2 => ?_) (fun h2 => ?_)⟩
        · have hne : ¬ [bx, by_] = [ex, ey] := of_decide_eq_false (by simpa only [if_true, Bool.not_eq_true'] using h2)
          have hn1 : o1.isNone = false := by rw [← isN G1]; simpa using h1
          match o1, o3, tu1, tu2, G1, G3, hn1 with
          | none, _, _, _, _, _, hn1 => cases hn1
          | some (l, m), none, tu1, _, _, _, _ => cases tu1
          | some (l, m), some (l', m'), _, tu2, G1, G3, _ =>
          obtain ⟨t1, q1, q2, rfl, e1, na, nb⟩ := G1
          obtain ⟨t3, q3, q4, rfl, e3, nc, nd⟩ := G3
          obtain ⟨et1, et2⟩ := tu2 hne l m l' m' rfl rfl
          refine ⟨_, rfl, t1, _, _, _, rfl, rfl, SqT.of e1, rfl, q1, l, rfl, na, fun r1 H23 s23 f23 => ?_⟩
          have nr : Nm K H23 r1 (trn l) := ⟨f23, by rw [et1]; exact nd.b0, by rw [et1]; exact nd.b1, by rw [et1]; exact nd.b2, by rw [et1]; exact nd.b3, by rw [et1]; exact nd.p2, by rw [et1]; exact nd.p3⟩
          refine ⟨_, rfl, t3, _, _, _, rfl, rfl, SqT.of (s23 _ _ e3), rfl, r1, q4, trn l, m', rfl, nr, nd.mono s23, rfl, _, rfl, iteFalse ?_ ?_⟩
          · rw [et1, ro_self]
            decide
          refine ⟨_, rfl, t1, _, _, _, rfl, rfl, SqT.of (s23 _ _ e1), rfl, q2, m, rfl, nb.mono s23, fun r2 H24 s24 f24 => ?_⟩
          have nr2 : Nm K H24 r2 (trn m) := ⟨f24, by rw [et2]; exact nc.b0, by rw [et2]; exact nc.b1, by rw [et2]; exact nc.b2, by rw [et2]; exact nc.b3, by rw [et2]; exact nc.p2, by rw [et2]; exact nc.p3⟩
          refine ⟨_, rfl, t3, _, _, _, rfl, rfl, SqT.of (s24 _ _ (s23 _ _ e3)), rfl, r2, q3, trn m, l', rfl, nr2, (nc.mono s23).mono s24, rfl, _, rfl, iteFalse ?_ ?_⟩
          · rw [et2, ro_self]
            decide
          exact ⟨_, _, _, _, _, _, _, _, _, _, _, _, rfl, nxt.trans (s23.trans s24)⟩
        · exact ⟨_, _, _, _, _, _, _, _, _, _, _, _, rfl, nxt⟩
      · exact ⟨_, _, _, _, _, _, _, _, _, _, _, _, rfl, nxt⟩
    · rintro σ H3 ⟨z1, z2, z3, z4, z5, z6, z7, z8, z9, z10, z11, z12, rfl, sm⟩
      exact fin H3
end
/-! ### the whole -/
def hNames : List (Str × Nat) := [(Str.ofString "is_whole", 4), (Str.ofString "common_divisor", 5), (Str.ofString "is_ratio", 6), (Str.ofString "sign_of", 8), (Str.ofString "signed_square", 9), (Str.ofString "sign_with_root", 10), (Str.ofString "sign_with_roots", 11), (Str.ofString "root_order", 12), (Str.ofString "look_at_square", 16), (Str.ofString "leash_order", 17), (Str.ofString "reach_of", 18), (Str.ofString "part_within", 19), (Str.ofString "gate", 20), (Str.ofString "open_gate", 21), (Str.ofString "_law_mixed", 23), (Str.ofString "_law_numbers", 24), (Str.ofString "_law_common", 25), (Str.ofString "_law_root", 26), (Str.ofString "_law_side", 27), (Str.ofString "_law_sign", 28), (Str.ofString "_law_order", 29), (Str.ofString "_law_three", 30), (Str.ofString "_law_curve", 31), (Str.ofString "_law_worth", 32), (Str.ofString "_law_least", 33), (Str.ofString "_law_lower", 34), (Str.ofString "_law_leash", 35), (Str.ofString "_law_beside", 36), (Str.ofString "_law_within", 37), (Str.ofString "_law_amid", 38), (Str.ofString "_law_parts_right", 39), (Str.ofString "_law_turned", 40), (Str.ofString "law", 41)]
def hNamesD : List (Str × Nat × List V) := []
def hExc : List Str := [Str.ofString "NoSquare"]
def hNo : List Str := [Str.ofString "abs", Str.ofString "bool", Str.ofString "int", Str.ofString "isinstance", Str.ofString "len", Str.ofString "range", Str.ofString "tuple"]
def hTup : List (Str × List V) := [(Str.ofString "BEGIN", [.int 0, .int 0, .int 0, .int 1]), (Str.ofString "END", [.int 1, .int 0, .int 0, .int 1])]
def hFacts (K : PySem.W.Frag) : List (Option (Arguments × List Stmt × Scope × Value)) × List (Option (Arguments × List Stmt × Scope × List V)) × Bool × Bool × List (Option (List V)) := (hNames.map (fun p => Hd.fnFact K p.1), hNamesD.map (fun p => Hd.fnFactD K p.1), hExc.all (Hd.excFact K), hNo.all (Hd.noFact K), hTup.map (fun p => Hd.tupFact K p.1))
def hGood : List (Option (Arguments × List Stmt × Scope × Value)) × List (Option (Arguments × List Stmt × Scope × List V)) × Bool × Bool × List (Option (List V)) := (hNames.map (fun p => some (defArgs (top p.2), defBody (top p.2), defScope (top p.2), .none)), hNamesD.map (fun p => some (defArgs (top p.2.1), defBody (top p.2.1), defScope (top p.2.1), p.2.2)), true, true, hTup.map (fun p => some p.2))
def hView : Program := PySem.W.view PySem.Challenge.pw_oneleash_k23_gates_walked [41]
def hLoose : List Str := [Str.ofString "LeashError", Str.ofString "NoSquare", Str.ofString "is_whole", Str.ofString "common_divisor", Str.ofString "is_ratio", Str.ofString "sign_of", Str.ofString "signed_square", Str.ofString "sign_with_root", Str.ofString "sign_with_roots", Str.ofString "root_order", Str.ofString "BEGIN", Str.ofString "END", Str.ofString "look_at_square", Str.ofString "leash_order", Str.ofString "reach_of", Str.ofString "part_within", Str.ofString "gate", Str.ofString "open_gate", Str.ofString "_law_mixed", Str.ofString "_law_numbers", Str.ofString "_law_common", Str.ofString "_law_root", Str.ofString "_law_side", Str.ofString "_law_sign", Str.ofString "_law_order", Str.ofString "_law_three", Str.ofString "_law_curve", Str.ofString "_law_worth", Str.ofString "_law_least", Str.ofString "_law_lower", Str.ofString "_law_leash", Str.ofString "_law_beside", Str.ofString "_law_within", Str.ofString "_law_amid", Str.ofString "_law_parts_right", Str.ofString "_law_turned"]
noncomputable def hRun (w : World) := (PySem.W.openEnds treeTable PySem.Challenge.pw_oneleash_k23_gates_walked w 100000).map (fun s => (PySem.W.openSeen hView hLoose (importedModules PySem.Challenge.pw_oneleash_k23_gates_walked.main.body) (fun _ => true) true s, hFacts (Hd.frag s.heap)))
noncomputable def hEnd := some (PySem.W.openGood hView hLoose, hGood)
theorem hRun_self : @hRun = @hRun := rfl
theorem hEnd_self : @hEnd = @hEnd := rfl
set_option maxHeartbeats 0 in
lay_quick K23.hRun K23.hEnd
name_quick hRunQ for K23.hRun by K23.hRun_self
name_quick hEndQ for K23.hEnd by K23.hEnd_self
set_option maxHeartbeats 0 in
theorem hQuick (w : World) : PySem.W.Fast.hRunQ w = PySem.W.Fast.hEndQ := by kernel_rfl
theorem hLeft : PySem.W.LeftO PySem.Challenge.rw_oneleash_k23_gates_walked.prog hView hLoose (fun _ => true) (PySem.W.Hook.obs (Hd.hook hFacts hGood)) (PySem.W.Hook.val (Hd.hook hFacts hGood)) 100000 := fun w => (congrFun PySem.W.Fast.hRunQ_eq w).trans ((hQuick w).trans PySem.W.Fast.hEndQ_eq.symm)
theorem all_of {P : Program} {w : World} {K : PySem.W.Frag} (FK : hFacts K = hGood) {h : Heap} {mg : Str → Option Value} {fa : Addr} (X : K.In h) (G : h.Ns mainGlobals mg) (hfa : mg "law" = some (.ref fa)) :
    ∃ fd : FuncData, (∀ (s : Shared) (v : Value), BindsTo s fd ⟨[v], []⟩ [("script", v)]) ∧ ∀ base : Heap, K.In base → base.Ns mainGlobals mg → FnOk P w K mg base CX0 8 fa fd ["script"] (spLaw K) := by
  have H0 : (hNames.map (fun p => Hd.fnFact K p.1) : List (Option (Arguments × List Stmt × Scope × Value))) = hNames.map (fun p => some (defArgs (top p.2), defBody (top p.2), defScope (top p.2), .none)) := (congrArg Prod.fst FK)
  have H1 : (hNamesD.map (fun p => Hd.fnFactD K p.1) : List (Option (Arguments × List Stmt × Scope × List V))) = hNamesD.map (fun p => some (defArgs (top p.2.1), defBody (top p.2.1), defScope (top p.2.1), p.2.2)) := (congrArg Prod.fst (congrArg Prod.snd FK))
  have H2 : (hExc.all (Hd.excFact K) : Bool) = true := (congrArg Prod.fst (congrArg Prod.snd (congrArg Prod.snd FK)))
  have H3 : (hNo.all (Hd.noFact K) : Bool) = true := (congrArg Prod.fst (congrArg Prod.snd (congrArg Prod.snd (congrArg Prod.snd FK))))
  have H4 : (hTup.map (fun p => Hd.tupFact K p.1) : List (Option (List V))) = hTup.map (fun p => some p.2) := (congrArg Prod.snd (congrArg Prod.snd (congrArg Prod.snd (congrArg Prod.snd FK))))
  have D_is_whole : Df K mg "is_whole" (top 4) := Hd.df_of X G (Hd.at_map H0 0 rfl)
  have D_common_divisor : Df K mg "common_divisor" (top 5) := Hd.df_of X G (Hd.at_map H0 1 rfl)
  have D_is_ratio : Df K mg "is_ratio" (top 6) := Hd.df_of X G (Hd.at_map H0 2 rfl)
  have D_sign_of : Df K mg "sign_of" (top 8) := Hd.df_of X G (Hd.at_map H0 3 rfl)
  have D_signed_square : Df K mg "signed_square" (top 9) := Hd.df_of X G (Hd.at_map H0 4 rfl)
  have D_sign_with_root : Df K mg "sign_with_root" (top 10) := Hd.df_of X G (Hd.at_map H0 5 rfl)
  have D_sign_with_roots : Df K mg "sign_with_roots" (top 11) := Hd.df_of X G (Hd.at_map H0 6 rfl)
  have D_root_order : Df K mg "root_order" (top 12) := Hd.df_of X G (Hd.at_map H0 7 rfl)
  have D_look_at_square : Df K mg "look_at_square" (top 16) := Hd.df_of X G (Hd.at_map H0 8 rfl)
  have D_leash_order : Df K mg "leash_order" (top 17) := Hd.df_of X G (Hd.at_map H0 9 rfl)
  have D_reach_of : Df K mg "reach_of" (top 18) := Hd.df_of X G (Hd.at_map H0 10 rfl)
  have D_part_within : Df K mg "part_within" (top 19) := Hd.df_of X G (Hd.at_map H0 11 rfl)
  have D_gate : Df K mg "gate" (top 20) := Hd.df_of X G (Hd.at_map H0 12 rfl)
  have D_open_gate : Df K mg "open_gate" (top 21) := Hd.df_of X G (Hd.at_map H0 13 rfl)
  have D_law_mixed : Df K mg "_law_mixed" (top 23) := Hd.df_of X G (Hd.at_map H0 14 rfl)
  have D_law_numbers : Df K mg "_law_numbers" (top 24) := Hd.df_of X G (Hd.at_map H0 15 rfl)
  have D_law_common : Df K mg "_law_common" (top 25) := Hd.df_of X G (Hd.at_map H0 16 rfl)
  have D_law_root : Df K mg "_law_root" (top 26) := Hd.df_of X G (Hd.at_map H0 17 rfl)
  have D_law_side : Df K mg "_law_side" (top 27) := Hd.df_of X G (Hd.at_map H0 18 rfl)
  have D_law_sign : Df K mg "_law_sign" (top 28) := Hd.df_of X G (Hd.at_map H0 19 rfl)
  have D_law_order : Df K mg "_law_order" (top 29) := Hd.df_of X G (Hd.at_map H0 20 rfl)
  have D_law_three : Df K mg "_law_three" (top 30) := Hd.df_of X G (Hd.at_map H0 21 rfl)
  have D_law_curve : Df K mg "_law_curve" (top 31) := Hd.df_of X G (Hd.at_map H0 22 rfl)
  have D_law_worth : Df K mg "_law_worth" (top 32) := Hd.df_of X G (Hd.at_map H0 23 rfl)
  have D_law_least : Df K mg "_law_least" (top 33) := Hd.df_of X G (Hd.at_map H0 24 rfl)
  have D_law_lower : Df K mg "_law_lower" (top 34) := Hd.df_of X G (Hd.at_map H0 25 rfl)
  have D_law_leash : Df K mg "_law_leash" (top 35) := Hd.df_of X G (Hd.at_map H0 26 rfl)
  have D_law_beside : Df K mg "_law_beside" (top 36) := Hd.df_of X G (Hd.at_map H0 27 rfl)
  have D_law_within : Df K mg "_law_within" (top 37) := Hd.df_of X G (Hd.at_map H0 28 rfl)
  have D_law_amid : Df K mg "_law_amid" (top 38) := Hd.df_of X G (Hd.at_map H0 29 rfl)
  have D_law_parts_right : Df K mg "_law_parts_right" (top 39) := Hd.df_of X G (Hd.at_map H0 30 rfl)
  have D_law_turned : Df K mg "_law_turned" (top 40) := Hd.df_of X G (Hd.at_map H0 31 rfl)
  have D_law : Df K mg "law" (top 41) := Hd.df_of X G (Hd.at_map H0 32 rfl)
  have O_NoSquare : ExcC K mg "NoSquare" (Hd.cls K "NoSquare") := Hd.exc_of X G (Hd.at_all H2 0 rfl)
  have T : Txt mg := ⟨PySem.W.mg_none_of X G (Hd.no_of (Hd.at_all H3 0 rfl)), PySem.W.mg_none_of X G (Hd.no_of (Hd.at_all H3 1 rfl)), PySem.W.mg_none_of X G (Hd.no_of (Hd.at_all H3 2 rfl)), PySem.W.mg_none_of X G (Hd.no_of (Hd.at_all H3 3 rfl)), PySem.W.mg_none_of X G (Hd.no_of (Hd.at_all H3 4 rfl)), PySem.W.mg_none_of X G (Hd.no_of (Hd.at_all H3 5 rfl)), PySem.W.mg_none_of X G (Hd.no_of (Hd.at_all H3 6 rfl))⟩
  obtain ⟨p_BEGIN, od_BEGIN, its_BEGIN, n_BEGIN, sl_BEGIN, v_BEGIN, w_BEGIN, u_BEGIN⟩ := Hd.tup_of (Hd.at_map H4 0 rfl)
  obtain ⟨p_END, od_END, its_END, n_END, sl_END, v_END, w_END, u_END⟩ := Hd.tup_of (Hd.at_map H4 1 rfl)
  refine law_fd h hfa fun base => ?_
  have hB : ∀ H, SqT K H p_BEGIN [.int 0, .int 0, .int 0, .int 1] := fun H => SqT.mod w_BEGIN rfl (Hd.vals_sz u_BEGIN (by decide)) u_BEGIN
  have hE : ∀ H, SqT K H p_END [.int 1, .int 0, .int 0, .int 1] := fun H => SqT.mod w_END rfl (Hd.vals_sz u_END (by decide)) u_END
  have F_is_whole := fn_is_whole (P := P) (w := w) (base := base) D_is_whole T
  have F_common_divisor := fn_common_divisor (P := P) (w := w) (base := base) D_common_divisor T
  have F_is_ratio := fn_is_ratio (P := P) (w := w) (base := base) D_is_ratio F_is_whole F_common_divisor T
  have F_sign_of := fn_sign_of (P := P) (w := w) (base := base) D_sign_of
  have F_signed_square := fn_signed_square (P := P) (w := w) (base := base) D_signed_square T
  have F_sign_with_root := fn_sign_with_root (P := P) (w := w) (base := base) D_sign_with_root F_sign_of F_signed_square
  have F_sign_with_roots := fn_sign_with_roots (P := P) (w := w) (base := base) D_sign_with_roots F_sign_of F_signed_square F_sign_with_root
  have F_root_order := fn_root_order (P := P) (w := w) (base := base) D_root_order F_sign_with_roots
  have F_leash_order := fn_leash_order (P := P) (w := w) (base := base) D_leash_order F_sign_of
  have F_reach_of := fn_reach_of (P := P) (w := w) (base := base) D_reach_of
  have F_look_at_square := fn_look_at_square (P := P) (w := w) (base := base) D_look_at_square O_NoSquare F_is_ratio
  have F_law_mixed := fn_law_mixed (P := P) (w := w) (base := base) D_law_mixed
  have F_law_numbers := fn_law_numbers (P := P) (w := w) (base := base) D_law_numbers F_law_mixed T
  have F_law_common := fn_law_common (P := P) (w := w) (base := base) D_law_common
  have F_part_within := fn_part_within (P := P) (w := w) (base := base) D_part_within (PySem.W.mg_of X G v_BEGIN) (PySem.W.mg_of X G v_END) hB hE F_leash_order F_reach_of F_sign_of F_root_order
  have F_gate := fn_gate (P := P) (w := w) (base := base) D_gate F_look_at_square F_part_within
  have F_open_gate := fn_open_gate (P := P) (w := w) (base := base) D_open_gate F_look_at_square F_part_within
  have F_law_root := fn_law_root (P := P) (w := w) (base := base) D_law_root
  have F_law_side := fn_law_side (P := P) (w := w) (base := base) D_law_side T
  have F_law_sign := fn_law_sign (P := P) (w := w) (base := base) D_law_sign F_law_root F_law_side T
  have F_law_curve := fn_law_curve (P := P) (w := w) (base := base) D_law_curve
  have F_law_worth := fn_law_worth (P := P) (w := w) (base := base) D_law_worth
  have F_law_least := fn_law_least (P := P) (w := w) (base := base) D_law_least
  have F_law_lower := fn_law_lower (P := P) (w := w) (base := base) D_law_lower F_law_common
  have F_law_order := fn_law_order (P := P) (w := w) (base := base) D_law_order F_law_sign
  have F_law_three := fn_law_three (P := P) (w := w) (base := base) D_law_three T
  have F_law_leash := fn_law_leash (P := P) (w := w) (base := base) D_law_leash F_law_worth F_law_least F_law_lower
  have F_law_within := fn_law_within (P := P) (w := w) (base := base) D_law_within F_law_order
  have F_law_amid := fn_law_amid (P := P) (w := w) (base := base) D_law_amid F_law_order
  have F_law_turned := fn_law_turned (P := P) (w := w) (base := base) D_law_turned
  have F_law_parts_right := fn_law_parts_right (P := P) (w := w) (base := base) D_law_parts_right F_law_worth F_law_within F_law_amid
  have F_law_beside := fn_law_beside (P := P) (w := w) (base := base) D_law_beside F_law_root F_law_side T
  exact fn_law D_law F_law_numbers F_law_three F_law_curve F_law_leash F_gate F_open_gate F_law_beside F_law_parts_right F_law_turned F_law_order T
end K23
end
open PySem PySem.W PyProof.Rows
set_option maxRecDepth 100000 in
set_option maxHeartbeats 0 in
theorem PySem.Challenge.cw_oneleash_k23_gates_walked_holds : PySem.Challenge.rw_oneleash_k23_gates_walked.Holds := by
  w_on; o_law
  refine holds_open (q := K23.hView) (loose := K23.hLoose) (Xt := fun _ => true) (XP := fun _ _ => True) (Yf := Hook.obs (Hd.hook K23.hFacts K23.hGood)) (Ya := Hook.val (Hd.hook K23.hFacts K23.hGood)) (YP := Hook.says (Hd.hook K23.hFacts K23.hGood)) (N := 100000) K23.hLeft (Hook.of _) (Hook.keeps _) (fun _ _ => trivial) (fun _ _ _ _ _ => trivial) (by rfl) (by rfl) (by rfl) (fun _ _ => recFacts_nil rfl) (by rfl) (by first | assumption | decide +kernel) (by decide +kernel) ⟨rfl, rfl, rfl, rfl, rfl, by decide +kernel⟩ ?hw ?hc
  case hw => w_witness2
  exact Hd.law_walk (l := PySem.Challenge.rw_oneleash_k23_gates_walked) (k := 8) ⟨rfl, by decide, by decide⟩ rfl rfl fun K FK w mg fa h KX G hmg => K23.all_of FK KX G hmg
