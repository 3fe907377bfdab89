import PyProof.Rows.All
import Wide.All
import OpenK.AllK
import Wide.FinOn
import Lean
import PyProof.EqAt
import PyProof.EqKinds
import PyProof.TupleCall
import PyProof.ExcArgsOwn
import KE.KTryMore
import PyProof.NsDelKeeps
import PyProof.ConsumeWalk
import PyProof.ZipIter
import PyProof.WalksEnum
import PyProof.EnumMake
import PyProof.NeKinds
import PyProof.CompMap
import KE.KRevIter
import PyProof.ListRange
import PySem.Challenge.RW_oneleash_k12_whole_points_stay
section
set_option Elab.async false
set_option linter.all false
set_option maxRecDepth 100000
/-! THE HAND LAYER, for ints, bools, texts, own classes, LISTS and tuples (index, slices, in, append, pop ..), calls, loops. Paste it whole ahead of your own text; what your proof does not reach may be deleted. -/
namespace L2
open PySem PySem.Spec PyProof.Rows

/-- a key: an int or a str -/
abbrev Key := Sum Int Str
def keyIs : Key → Value → Bool
  | .inl k, v => Value.isInt k v
  | .inr x, v => Value.isStrOf x v
def keyH (w : World) : Key → Int
  | .inl k => hashInt k
  | .inr x => hashStr w x
theorem keyIs_shape : ∀ {k : Key} {v : Value}, keyIs k v = true → (∃ i t, k = Sum.inl i ∧ v = Value.int i t) ∨ (∃ x t, k = Sum.inr x ∧ v = Value.str x t)
  | .inl i, v, h => by
    obtain ⟨t, e⟩ := Value.isInt_shape (k := i) (v := v) h
    exact .inl ⟨i, t, rfl, e⟩
  | .inr x, v, h => by
    obtain ⟨t, e⟩ := Value.isStrOf_shape (x := x) (v := v) h
    exact .inr ⟨x, t, rfl, e⟩
theorem key_ll (a b : Int) : decide ((Sum.inl a : Key) = Sum.inl b) = (a == b) := by
  by_cases e : a = b
  · subst e; simp
  · have h : ¬ (Sum.inl a : Key) = Sum.inl b := fun q => e (Sum.inl.inj q)
    rw [decide_eq_false h]
    exact (beq_eq_false_iff_ne.mpr e).symm
theorem key_rr (a b : Str) : decide ((Sum.inr a : Key) = Sum.inr b) = decide (a = b) := by
  by_cases e : a = b
  · subst e; simp
  · have h : ¬ (Sum.inr a : Key) = Sum.inr b := fun q => e (Sum.inr.inj q)
    rw [decide_eq_false h, decide_eq_false e]
theorem key_lr (a : Int) (b : Str) : decide ((Sum.inl a : Key) = Sum.inr b) = false := decide_eq_false (fun q => nomatch q)
theorem key_rl (a : Str) (b : Int) : decide ((Sum.inr a : Key) = Sum.inl b) = false := decide_eq_false (fun q => nomatch q)

def mixKind (prog : Program) (w : World) : PySem.KeyKind prog w Key where
  is := keyIs
  hash := keyH w
  inj := fun v a b ha hb => by
    rcases keyIs_shape ha with ⟨i, t, rfl, rfl⟩ | ⟨x, t, rfl, rfl⟩
    · rcases keyIs_shape hb with ⟨j, u, rfl, e⟩ | ⟨y, u, rfl, e⟩
      · injection e with e1 _; rw [e1]
      · exact nomatch e
    · rcases keyIs_shape hb with ⟨j, u, rfl, e⟩ | ⟨y, u, rfl, e⟩
      · exact nomatch e
      · injection e with e1 _; rw [e1]
  byValue := fun k v h => by
    rcases keyIs_shape h with ⟨i, t, rfl, rfl⟩ | ⟨x, t, rfl, rfl⟩ <;> rfl
  pyHash := fun hv h => by
    rcases keyIs_shape hv with ⟨i, t, rfl, rfl⟩ | ⟨x, t, rfl, rfl⟩
    · exact wpAny_pyHash_int h
    · exact wpAny_pyHash_str h
  eqBool := fun hu hv h => by
    rcases keyIs_shape hu with ⟨i, t, rfl, rfl⟩ | ⟨x, t, rfl, rfl⟩
    · rcases keyIs_shape hv with ⟨j, u, rfl, rfl⟩ | ⟨y, u, rfl, rfl⟩
      · rw [key_ll] at h; exact wpAny_eqBool_int h
      · rw [key_lr] at h; exact SeqAt.EqAt.int_str i t y u _ _ _ _ h
    · rcases keyIs_shape hv with ⟨j, u, rfl, rfl⟩ | ⟨y, u, rfl, rfl⟩
      · rw [key_rl] at h; exact SeqAt.EqAt.str_int x t j u _ _ _ _ h
      · rw [key_rr] at h; exact wpAny_eqBool_str h
  «strs» := fun k x t v h => by
    rcases keyIs_shape h with ⟨i, u, rfl, e⟩ | ⟨y, u, rfl, e⟩
    · exact nomatch e
    · injection e with e1 _
      subst e1
      cases v <;> rfl

end L2

namespace L2
open PySem PySem.Spec PyProof.Rows

/-- a value, without the heap -/
inductive V where
  | non | bl (b : Bool) | int (i : Int) | str (x : Str) | byt (b : Array UInt8) | flt (b : UInt64) | ref (a : Addr) | ty (n : String)
  deriving DecidableEq

def RelV : V → Value → Prop
  | .non, u => u = Value.none
  | .bl b, u => u = Value.bool b
  | .int i, u => ∃ t, u = Value.int i t
  | .str x, u => ∃ t, u = Value.str x t
  | .byt b, u => ∃ t, u = Value.bytes b t
  | .flt b, u => ∃ t, u = Value.float b t
  | .ref a, u => u = Value.ref a
  | .ty n, u => u = Value.type n

abbrev Vals : List V → List Value → Prop := Paired RelV
theorem Vals.length {xs : List V} {us : List Value} (r : Vals xs us) : xs.length = us.length := Paired.length r
theorem Vals.get : ∀ {xs : List V} {us : List Value} {i : Nat} {x : V}, Vals xs us → xs[i]? = some x → ∃ u, us[i]? = some u ∧ RelV x u
  | _, _, _, _, .nil, e => by simp at e
  | _, _, 0, _, .cons r _, e => by simp at e; subst e; exact ⟨_, rfl, r⟩
  | _, _, i + 1, x, .cons _ t, e => by
    obtain ⟨u, h1, h2⟩ := Vals.get (i := i) (x := x) t (by simpa using e)
    exact ⟨u, by simpa using h1, h2⟩
theorem Vals.append : ∀ {xs ys : List V} {us ws : List Value}, Vals xs us → Vals ys ws → Vals (xs ++ ys) (us ++ ws)
  | _, _, _, _, .nil, s => s
  | _, _, _, _, .cons r t, s => .cons r (Vals.append t s)
theorem Vals.take : ∀ {xs : List V} {us : List Value} (n : Nat), Vals xs us → Vals (xs.take n) (us.take n)
  | _, _, 0, _ => .nil
  | _, _, _ + 1, .nil => .nil
  | _, _, n + 1, .cons r t => .cons r (Vals.take n t)
theorem Vals.drop : ∀ {xs : List V} {us : List Value} (n : Nat), Vals xs us → Vals (xs.drop n) (us.drop n)
  | _, _, 0, r => r
  | _, _, _ + 1, .nil => .nil
  | _, _, n + 1, .cons _ t => Vals.drop n t
def RelO : Option V → Option Value → Prop
  | some v, some u => RelV v u
  | none, none => True
  | _, _ => False
def KV {κ : Type} : List (κ × V) → List (κ × Value) → Prop := Paired fun (p : κ × V) (q : κ × Value) => p.1 = q.1 ∧ RelV p.2 q.2

/-- a key of a dict (00_mix): an int or a text -/
def kV : Key → V
  | .inl i => .int i
  | .inr x => .str x

/-- what stands at a tracked address -/
inductive HO where
  /-- a list -/
  | lst (xs : List V)
  /-- a tuple (never changes) -/
  | tup (xs : List V)
  /-- a dict whose keys are ints and texts; one whose keys are tuples of ints and texts (the empty one is both) -/
  | dK (kvs : List (Key × V)) | dT (kvs : List (List Key × V))
  /-- a set of ints: its members, its size -/
  | set (S : Int → Bool) (n : Nat)
  /-- an instance of the class at C, its dict at dx, its attributes -/
  | ins (C dx : Addr) (fs : List (Str × V))
  /-- the dict of the instance at x -/
  | own (x : Addr)
  /-- the dict of an exception -/
  | xd (fs : List (Str × V))
  /-- a bound method, f of x -/
  | met (f x : Addr)
  /-- a range object lo, lo + 1, .. below hi -/
  | rng (lo hi : Int)
  /-- a thing that is known to the object (the script; a dict while a loop walks it): read, never written while it is so -/
  | frz (o : Obj) (u : HO)
  /-- a code object's table -/
  | tbl (ps : Array Value)
  /-- any other thing, by what is true of its one object (a def of one's own: SetO a S n := HO.ext fun h => ..) -/
  | ext (φ : Heap → Prop)

abbrev Hp := Addr → Option HO
def upd (H : Hp) (a : Addr) (o : HO) : Hp := fun b => if b = a then some o else H b
theorem upd_same {H : Hp} {a : Addr} {o : HO} : upd H a o a = some o := by unfold upd; rw [if_pos rfl]
theorem upd_ne {H : Hp} {a b : Addr} {o : HO} (h : b ≠ a) : upd H a o b = H b := by unfold upd; rw [if_neg h]
/-- two objects of different content stand apart -/
theorem ne_of {H : Hp} {a b : Addr} {o u : HO} (h : H a = some o) (h' : H b = some u) (d : o ≠ u) : a ≠ b := by
  intro e; subst e; rw [h] at h'; exact d (Option.some.inj h')
theorem ne_of_none {H : Hp} {a b : Addr} {o : HO} (h : H a = some o) (h' : H b = none) : a ≠ b := by
  intro e; subst e; rw [h] at h'; cases h'

section
variable (P : Program) (w : World)
def ObjOk (H : Hp) (h : Heap) (a : Addr) : HO → Prop
  | .lst xs => xs.length ≤ sizeLine ∧ ∃ (its : List Value) (n : Nat), Vals xs its ∧ h.get? a = some { cls := .type "list", data := .seq its.toArray n }
  | .tup xs => xs.length ≤ sizeLine ∧ ∃ its : List Value, Vals xs its ∧ IsTup h a its.toArray
  | .dK kvs => kvs.length ≤ sizeLine ∧ (a == sysModules) = false ∧ ∃ vs, KV kvs vs ∧ h.DictOf (mixKind P w) a vs
  | .dT kvs => kvs.length ≤ sizeLine ∧ (a == sysModules) = false ∧ ∃ xs : List (List Key × Addr × Value),
      Paired (fun (p : List Key × V) (q : List Key × Addr × Value) => p.1 = q.1 ∧ H q.2.1 = some (.tup (p.1.map kV)) ∧ RelV p.2 q.2.2) kvs xs ∧
      ∃ o es ep, h.get? a = some o ∧ o.ExactDict ∧ o.data = .dict es ep ∧ es.toList = xs.map (entryOfKey (tupleKind (mixKind P w))) ∧ (xs.map (·.1)).Nodup
  | .set S n => h.SetOf (intKind P w) a S n
  | .ins C dx fs => H dx = some (.own a) ∧ fs.length ≤ 1000 ∧ dx ≠ a ∧ h.get? a = some (PySem.W.instObj C dx) ∧
      ∃ mA, h.Ns1 dx mA ∧ (∀ f, RelO (fs.lookup f) (mA f)) ∧ PySem.Within mA (fs.map (·.1))
  | .own _ => ∃ o, h.get? a = some o
  | .xd fs => ∃ mA, h.Ns1 a mA ∧ ∀ f, RelO (fs.lookup f) (mA f)
  | .rng lo hi => ∃ t u v, h.get? a = some { cls := .type "range", data := .fields #[.int lo t, .int hi u, .int 1 v] }
  | .frz o u => h.get? a = some o ∧ ObjOk H h a u
  | .tbl ps => h.get? a = some { cls := .none, data := .fields ps }
  | .met f x => h.get? a = some (PySem.W.methodObj (.ref f) (.ref x))
  | .ext φ => φ h ∧ (∃ o, h.get? a = some o) ∧ ∀ h1 h2 : Heap, φ h1 → (∀ o, h1.get? a = some o → h2.get? a = some o) → φ h2
/-- the abstract heap is held -/
def HOk (H : Hp) (h : Heap) : Prop := ∀ a o, H a = some o → ObjOk P w H h a o
end

section
variable {P : Program} {w : World} {H H' : Hp} {h h' : Heap} {a : Addr} {o : HO}
theorem ObjOk.lt (x : ObjOk P w H h a o) : a < h.objs.size := by
  cases o with
  | lst xs => obtain ⟨_, _, _, _, e⟩ := x; exact Heap.lt_size e
  | tup xs => obtain ⟨_, _, _, p⟩ := x; exact p.lt
  | dK kvs => obtain ⟨_, _, _, _, o, _, _, e, _⟩ := x; exact Heap.lt_size e
  | dT kvs => obtain ⟨_, _, _, _, o, _, _, e, _⟩ := x; exact Heap.lt_size e
  | set S n => obtain ⟨o, _, _, _, e, _⟩ := x; exact Heap.lt_size e
  | ins C dx fs => obtain ⟨_, _, _, e, _⟩ := x; exact Heap.lt_size e
  | own y => obtain ⟨_, e⟩ := x; exact Heap.lt_size e
  | xd fs => obtain ⟨_, ⟨_, _, _, e, _⟩, _⟩ := x; exact Heap.lt_size e
  | rng lo hi => obtain ⟨_, _, _, e⟩ := x; exact Heap.lt_size e
  | frz ob u => obtain ⟨e, _⟩ := x; exact Heap.lt_size e
  | tbl ps => exact Heap.lt_size (show h.get? a = some _ from x)
  | met f y => exact Heap.lt_size (show h.get? a = some _ from x)
  | ext φ => obtain ⟨_, ⟨_, e⟩, _⟩ := x; exact Heap.lt_size e
theorem Paired.mapP {α β : Type} {F G : α → β → Prop} : ∀ {l₁ : List α} {l₂ : List β}, Paired F l₁ l₂ → (∀ a b, F a b → G a b) → Paired G l₁ l₂
  | _, _, .nil, _ => .nil
  | _, _, .cons r t, f => .cons (f _ _ r) (Paired.mapP t f)
/-- what an object's description leans on: its own object, its own dict, the tuples -/
theorem ObjOk.stay (x : ObjOk P w H h a o) (k : ∀ b u, (b = a ∨ H b = some (.own a)) → h.get? b = some u → h'.get? b = some u)
    (ho : ∀ b, H b = some (.own a) → H' b = some (.own a)) (ht : ∀ b xs, H b = some (.tup xs) → H' b = some (.tup xs)) : ObjOk P w H' h' a o := by
  induction o with
  | lst xs => obtain ⟨z, its, n, r, e⟩ := x; exact ⟨z, its, n, r, k _ _ (.inl rfl) e⟩
  | tup xs => obtain ⟨z, its, r, ob, e, c⟩ := x; exact ⟨z, its, r, ob, k _ _ (.inl rfl) e, c⟩
  | dK kvs => obtain ⟨z, y, vs, r, ob, es, ep, e, c⟩ := x; exact ⟨z, y, vs, r, ob, es, ep, k _ _ (.inl rfl) e, c⟩
  | dT kvs =>
    obtain ⟨z, y, xs, r, ob, es, ep, e, c⟩ := x
    exact ⟨z, y, xs, Paired.mapP r fun p q z => ⟨z.1, ht _ _ z.2.1, z.2.2⟩, ob, es, ep, k _ _ (.inl rfl) e, c⟩
  | set S n => obtain ⟨ob, es, ep, t, e, c⟩ := x; exact ⟨ob, es, ep, t, k _ _ (.inl rfl) e, c⟩
  | ins C dx fs =>
    obtain ⟨d, z, ne, e, mA, ⟨od, es, ep, e2, c⟩, r⟩ := x
    exact ⟨ho _ d, z, ne, k _ _ (.inl rfl) e, mA, ⟨od, es, ep, k _ _ (.inr d) e2, c⟩, r⟩
  | own y => obtain ⟨ob, e⟩ := x; exact ⟨ob, k _ _ (.inl rfl) e⟩
  | xd fs => obtain ⟨mA, ⟨od, es, ep, e, c⟩, r⟩ := x; exact ⟨mA, ⟨od, es, ep, k _ _ (.inl rfl) e, c⟩, r⟩
  | rng lo hi => obtain ⟨t, u, v, e⟩ := x; exact ⟨t, u, v, k _ _ (.inl rfl) e⟩
  | frz ob u ih => obtain ⟨e, q⟩ := x; exact ⟨k _ _ (.inl rfl) e, ih q⟩
  | tbl ps =>
    have e : h.get? a = some { cls := .none, data := .fields ps } := x
    show h'.get? a = some { cls := .none, data := .fields ps }
    exact k a _ (.inl rfl) e
  | met f y =>
    have e : h.get? a = some (PySem.W.methodObj (.ref f) (.ref y)) := x
    show h'.get? a = some (PySem.W.methodObj (.ref f) (.ref y))
    exact k a _ (.inl rfl) e
  | ext φ => obtain ⟨p, ⟨o, e⟩, st⟩ := x; exact ⟨st _ _ p fun o q => k _ _ (.inl rfl) q, ⟨o, k _ _ (.inl rfl) e⟩, st⟩
theorem HOk.lt (x : HOk P w H h) (e : H a = some o) : a < h.objs.size := (x a o e).lt
theorem HOk.fresh (x : HOk P w H h) (e : h.objs.size ≤ a) : H a = none := by
  cases q : H a with
  | none => rfl
  | some u => exact absurd (Nat.lt_of_lt_of_le (x.lt q) e) (Nat.lt_irrefl _)
/-- every object of the heap is kept -/
theorem HOk.kept (x : HOk P w H h) (k : ∀ b u, h.get? b = some u → h'.get? b = some u) : HOk P w H h' := fun a o e =>
  (x a o e).stay (fun b u _ q => k b u q) (fun _ q => q) fun _ _ q => q
/-- a new object is laid and tracked -/
theorem HOk.laid (x : HOk P w H h) (k : ∀ b u, h.get? b = some u → h'.get? b = some u) (hp : h.objs.size ≤ a) (new : ObjOk P w (upd H a o) h' a o) : HOk P w (upd H a o) h' := fun b u e => by
  have hn := x.fresh hp
  by_cases hb : b = a
  · subst hb; rw [upd_same] at e; cases e; exact new
  · rw [upd_ne hb] at e
    exact (x b u e).stay (fun c v _ q => k c v q) (fun c q => by rw [upd_ne (ne_of_none q hn)]; exact q) fun c xs q => by rw [upd_ne (ne_of_none q hn)]; exact q
end

/-- what may be read as u: it is u, or a known u -/
def Rd (H : Hp) (a : Addr) (u : HO) : Prop := H a = some u ∨ ∃ o, H a = some (.frz o u)
theorem Rd.ok {P : Program} {w : World} {H : Hp} {h : Heap} {a : Addr} {u : HO} (r : Rd H a u) (x : HOk P w H h) : ObjOk P w H h a u := by
  rcases r with r | ⟨o, r⟩
  · exact x a u r
  · obtain ⟨_, q⟩ := x a _ r
    exact q
/-- what may be written -/
def Mut : Option HO → Prop
  | some (.lst _) => True
  | some (.dK _) => True
  | some (.dT _) => True
  | some (.set _ _) => True
  | some (.ins _ _ _) => True
  | some (.ext _) => True
  | _ => False
section
variable {P : Program} {w : World} {H : Hp} {h h' : Heap} {x e : Addr} {o' : HO}
/-- the object at e is changed: x itself, or the dict of the instance x -/
theorem HOk.write (ok : HOk P w H h) (mu : Mut (H x)) (he : e = x ∨ H e = some (.own x)) (k : ∀ b u, b ≠ e → h.get? b = some u → h'.get? b = some u) (heo : ∃ u, h'.get? e = some u)
    (new : ObjOk P w (upd H x o') h' x o') : HOk P w (upd H x o') h' := fun b u q => by
  have nown : ∀ c y, H c = some (.own y) → c ≠ x := fun c y r z => by subst z; rw [r] at mu; exact mu
  have ntup : ∀ c xs, H c = some (.tup xs) → c ≠ x := fun c xs r z => by subst z; rw [r] at mu; exact mu
  by_cases hb : b = x
  · subst hb; rw [upd_same] at q; cases q; exact new
  · rw [upd_ne hb] at q
    by_cases hbe : b = e
    · have q' : H b = some (.own x) := by
        rcases he with z | z
        · exact absurd (hbe.trans z) hb
        · rw [hbe]; exact z
      rw [q] at q'; cases q'
      obtain ⟨v, hv⟩ := heo
      exact ⟨v, by rw [hbe]; exact hv⟩
    · refine (ok b u q).stay (fun c v hc r => k c v ?_ r) (fun c r => by rw [upd_ne (nown c b r)]; exact r) fun c xs r => by rw [upd_ne (ntup c xs r)]; exact r
      rcases hc with rfl | hc
      · exact hbe
      · rintro rfl
        rcases he with z | z
        · exact nown c b hc z
        · rw [hc] at z; cases z; exact hb rfl
end

/-! ### kept unless tracked; of the frames at fs (the callers') the slots may change (an exception that passes writes there); of the records at ex (iterators) nothing is said -/
structure Un (fs ex : List Addr) (H H' : Hp) (h h' : Heap) : Prop where
  keep : ∀ b o, h.get? b = some o → H b = none → b ∉ fs → b ∉ ex → h'.get? b = some o
  slot : ∀ b o, h.get? b = some o → H b = none → b ∈ fs → b ∉ ex → ∃ sl, h'.get? b = some { o with slots := sl }
  free : ∀ b o, h.get? b = some o → H b = none → b ∉ ex → H' b = none
  there : ∀ b o, h.get? b = some o → b ∉ ex → ∃ o', h'.get? b = some o'
  tups : ∀ b xs, H b = some (.tup xs) → H' b = some (.tup xs)
  frzs : ∀ b o u, H b = some (.frz o u) → H' b = some (.frz o u)
  tbls : ∀ b ps, H b = some (.tbl ps) → ∃ more, H' b = some (.tbl (ps ++ more))
section
variable {fs fs' ex ex' : List Addr} {H H1 H2 : Hp} {h h1 h2 h' : Heap} {a x e : Addr} {o : HO}
theorem Un.any (u : Un fs ex H H1 h h1) {b : Addr} {ob : Obj} (q : h.get? b = some ob) (n : H b = none) (hx : b ∉ ex) : ∃ sl, h1.get? b = some { ob with slots := sl } := by
  by_cases hb : b ∈ fs
  · exact u.slot b ob q n hb hx
  · exact ⟨ob.slots, u.keep b ob q n hb hx⟩
theorem Un.kept (k : ∀ b u, h.get? b = some u → h'.get? b = some u) : Un fs ex H H h h' :=
  ⟨fun b ob q _ _ _ => k b ob q, fun b ob q _ _ _ => ⟨ob.slots, k b ob q⟩, fun _ _ _ n _ => n, fun b ob q _ => ⟨ob, k b ob q⟩, fun _ _ q => q, fun _ _ _ q => q, fun _ ps q => ⟨#[], by rw [q]; simp⟩⟩
theorem Un.refl : Un fs ex H H h h := Un.kept fun _ _ q => q
theorem Un.laid (k : ∀ b u, h.get? b = some u → h'.get? b = some u) (hp : h.objs.size ≤ a) (hn : H a = none) : Un fs ex H (upd H a o) h h' where
  keep := fun b u q _ _ _ => k b u q
  slot := fun b u q _ _ _ => ⟨u.slots, k b u q⟩
  free := fun b u q n _ => by rw [upd_ne (Nat.ne_of_lt (Nat.lt_of_lt_of_le (Heap.lt_size q) hp))]; exact n
  there := fun b u q _ => ⟨u, k b u q⟩
  tups := fun b xs q => by rw [upd_ne (ne_of_none q hn)]; exact q
  frzs := fun b u xs q => by rw [upd_ne (ne_of_none q hn)]; exact q
  tbls := fun b ps q => ⟨#[], by rw [upd_ne (ne_of_none q hn), q]; simp⟩
theorem Un.write (mu : Mut (H x)) (he : e = x ∨ H e = some (.own x)) (k : ∀ b u, b ≠ e → h.get? b = some u → h'.get? b = some u) (heo : ∃ u, h'.get? e = some u) : Un fs ex H (upd H x o) h h' := by
  have hx : ∀ b, H b = none → b ≠ x := fun b n z => by subst z; rw [n] at mu; exact mu
  have hb : ∀ b, H b = none → b ≠ e := fun b n z => by
    subst z
    rcases he with r | r
    · exact hx b n r
    · rw [n] at r; cases r
  have hm : ∀ b u, H b = some u → ¬ Mut (some u) → b ≠ x := fun b u q nm z => by subst z; rw [q] at mu; exact nm mu
  refine ⟨fun b u q n _ _ => k b u (hb b n) q, fun b u q n _ _ => ⟨u.slots, k b u (hb b n) q⟩, fun b u q n _ => by rw [upd_ne (hx b n)]; exact n, fun b u q _ => ?_,
    fun b xs q => by rw [upd_ne (hm b _ q fun z => z)]; exact q, fun b u xs q => by rw [upd_ne (hm b _ q fun z => z)]; exact q, fun b ps q => ⟨#[], by rw [upd_ne (hm b _ q fun z => z), q]; simp⟩⟩
  by_cases hbe : b = e
  · subst hbe; exact heo
  · exact ⟨u, k b u hbe q⟩
end

/-! ### the heap without what is tracked -/
def trk (h : Heap) (H : Hp) : List Addr := (List.range h.objs.size).filter fun a => (H a).isSome
def hidT (h : Heap) (H : Hp) : Heap := PySem.W.hideAll h (trk h H)
theorem hidT_size (h : Heap) (H : Hp) : (hidT h H).objs.size = h.objs.size := PySem.W.hideAll_size _ _
theorem hidT_get {h : Heap} {H : Hp} {b : Addr} {o : Obj} (e : h.get? b = some o) (n : H b = none) : (hidT h H).get? b = some o :=
  PySem.W.hideAll_get _ e fun hm => by
    have q : (H b).isSome = true := (List.mem_filter.mp hm).2
    rw [n] at q; simp at q
theorem of_hidT {h : Heap} {H : Hp} {b : Addr} {o : Obj} (e : (hidT h H).get? b = some o) : h.get? b = some o ∧ H b = none := by
  have e' : h.get? b = some o := PySem.W.of_hideAll (trk h H) e
  refine ⟨e', ?_⟩
  cases q : H b with
  | none => rfl
  | some x =>
    have hm : b ∈ trk h H := List.mem_filter.mpr ⟨List.mem_range.mpr (Heap.lt_size e'), by simp [q]⟩
    have z : (hidT h H).get? b = none := PySem.W.hideAll_none (trk h H) hm
    rw [z] at e; cases e

/-! ### OpenK's ledger, filled with every new object but one -/
end L2

namespace L2
open PySem PySem.Spec PyProof.Rows

/-- the module's facts, over the base: the heap at the law's entry without what is tracked there -/
structure Mod (K : PySem.W.Frag) (mg : Str → Option Value) (base : Heap) : Prop where
  kin : K.In base
  glob : base.Ns mainGlobals mg
  blt : ∃ mb, base.Ns builtinsNs mb ∧ ∀ x : Str, x ≠ "__name__" → mb x = bootBuiltins x
  nolimit : base.NoLimit

/-- the context: a def's body (or a comprehension's block) running. base: fixed through the whole law; s₀, H₀: the entry; outer: the frames whose slots others may change (a def's callers); stack: all frames that run;
   ex: iterators that were made ahead of the entry and are walked here (a comprehension's); fn: the names whose cells were made at the entry (a def: all; a comprehension's block: its own); calm: not within an except suite; pn: pins that every state bears; xe: what is wanted of an exception that leaves the code -/
structure Cx where
  prog : Program
  w : World
  K : PySem.W.Frag
  mg : Str → Option Value
  base : Heap
  A : Around
  N : List Str
  s₀ : Shared
  H₀ : Hp
  env : Env
  outer : List Env
  stack : List Env
  ex : List Addr
  fn : Str → Bool
  calm : Bool
  pn : List (Addr × Obj)
  xe : Value → Shared → Prop
/-- the callers' frames -/
def frs (l : List Env) : List Addr := l.filterMap (·.frame)
abbrev Cx.fs (X : Cx) : List Addr := frs X.outer

def Vis (sc : Scope) (x : Str) : Prop := sc.names.lookup x = some .local ∨ sc.names.lookup x = some .cell ∨ sc.names.lookup x = some .free
def Loc (sc : Scope) (x : Str) : Prop := sc.names.lookup x = some .local ∨ sc.names.lookup x = some .cell
def Look (env : Env) (h : Heap) (m : Str → Option Value) (x : Str) (u : Value) : Prop :=
  (env.kindOf x = some .local ∧ m x = some u) ∨ ((env.kindOf x = some .cell ∨ env.kindOf x = some .free) ∧ ∃ c, env.cells.lookup x = some c ∧ h.IsCell c (some u))

structure Cx.Ok (X : Cx) : Prop where
  mod : Mod X.K X.mg X.base
  kind : X.env.scope.kind = .function
  glob : X.env.globals = mainGlobals
  blt : X.env.builtins = builtinsNs
  above : X.s₀.heap.objs.size ≤ X.env.locals
  inj : ∀ x y c, X.env.cells.lookup x = some c → X.env.cells.lookup y = some c → x = y
  has : ∀ x, (X.env.kindOf x = some .cell ∨ X.env.kindOf x = some .free) → ∃ c, X.env.cells.lookup x = some c
  cab : ∀ x c, X.fn x = true → X.env.cells.lookup x = some c → X.s₀.heap.objs.size ≤ c
  hd : X.calm = true → X.A.handled = none
  frames : X.A.frames = some X.stack
  stk : X.stack = X.outer ∨ (X.stack = X.env :: X.outer ∧ X.env.frame = some X.env.locals)
  exf : ∀ b ∈ X.ex, b ≠ X.env.locals ∧ ∀ x c, X.env.cells.lookup x = some c → c ≠ b
  bs : ∀ b o, X.base.get? b = some o → X.s₀.heap.get? b = some o ∧ X.H₀ b = none
  bsz : X.base.objs.size ≤ X.s₀.heap.objs.size
  noex : ∀ b o, X.base.get? b = some o → b ∉ X.ex
  exfs : ∀ b ∈ X.ex, b ∉ X.fs
  funs : X.s₀.heap.FunFrames X.base X.outer
  frf : ∀ b ∈ X.fs, X.H₀ b = none

structure Inv (X : Cx) (pins : List (Addr × Obj)) (σ : List (Option V)) (H : Hp) (s : Shared) : Prop where
  ok : X.Ok
  os : s.os = X.s₀.os
  bare : AllBare s.gens
  base : Un X.fs X.ex X.H₀ H X.s₀.heap s.heap
  loc : ∃ m, s.heap.Ns X.env.locals m ∧ ∀ (i : Nat) (x : Str) (v : V), X.N[i]? = some x → σ[i]? = some (some v) → Vis X.env.scope x → ∃ u, RelV v u ∧ Look X.env s.heap m x u
  cell : ∀ x c, X.env.cells.lookup x = some c → ∃ v, s.heap.IsCell c v
  free : H X.env.locals = none
  freeC : ∀ x c, X.env.cells.lookup x = some c → H c = none
  pin : ∀ p ∈ X.pn ++ pins, s.heap.get? p.1 = some p.2 ∧ H p.1 = none ∧ p.1 ≠ X.env.locals ∧ p.1 ∉ X.fs ∧ ∀ v, p.2.data ≠ .cell v
  hok : HOk X.prog X.w H s.heap
  len : σ.length = X.N.length

section
variable {X : Cx} {pins : List (Addr × Obj)} {σ : List (Option V)} {H H' : Hp} {s : Shared} {h' : Heap}

theorem Cx.Ok.nofr (ok : X.Ok) {b : Addr} {o : Obj} (e : X.base.get? b = some o) : b ∉ X.fs := fun hb => by
  have := (ok.funs.mem hb).1
  rw [e] at this; cases this
theorem Inv.bs (I : Inv X pins σ H s) : ∀ b o, X.base.get? b = some o → s.heap.get? b = some o ∧ H b = none := fun b o e =>
  ⟨I.base.keep b o (I.ok.bs b o e).1 (I.ok.bs b o e).2 (I.ok.nofr e) (I.ok.noex b o e), I.base.free b o (I.ok.bs b o e).1 (I.ok.bs b o e).2 (I.ok.noex b o e)⟩
theorem Inv.bk (I : Inv X pins σ H s) : ∀ b o, X.base.get? b = some o → s.heap.get? b = some o := fun b o e => (I.bs b o e).1
theorem Inv.mod (I : Inv X pins σ H s) : Mod X.K X.mg X.base := I.ok.mod
theorem Inv.kIn (I : Inv X pins σ H s) : X.K.In s.heap := I.ok.mod.kin.keeps I.bk
theorem Inv.lt (I : Inv X pins σ H s) : X.env.locals < s.heap.objs.size := let ⟨_, hn, _⟩ := I.loc; hn.lt
theorem Inv.sz (I : Inv X pins σ H s) : X.s₀.heap.objs.size ≤ s.heap.objs.size := Nat.le_trans I.ok.above (Nat.le_of_lt I.lt)
theorem Inv.nofs (I : Inv X pins σ H s) {a : Addr} (h : s.heap.objs.size ≤ a) : a ∉ X.fs := fun hb => by
  obtain ⟨_, o, ho, _⟩ := I.ok.funs.mem hb
  exact absurd (Nat.lt_of_lt_of_le (Heap.lt_size ho) (Nat.le_trans I.sz h)) (Nat.lt_irrefl _)
theorem Inv.cne (I : Inv X pins σ H s) : ∀ x c, X.env.cells.lookup x = some c → c ≠ X.env.locals := fun x c e z => by
  obtain ⟨v, o, ho, hd⟩ := I.cell x c e
  obtain ⟨m, ⟨o', es, ep, ho', hd', _⟩, _⟩ := I.loc
  rw [z, ho'] at ho; cases ho; rw [hd'] at hd; cases hd
theorem Inv.funs (I : Inv X pins σ H s) : s.heap.FunFrames X.base X.outer := by
  have all : ∀ (l : List Env), (∀ b ∈ frs l, b ∈ X.fs) → X.s₀.heap.FunFrames X.base l → s.heap.FunFrames X.base l := by
    intro l
    induction l with
    | nil => intro _ _; trivial
    | cons env r ih =>
      intro hs hl
      obtain ⟨hk, ⟨L, o, hf, hn, ho, hd⟩, hr⟩ := hl
      have hL : L ∈ X.fs := hs L (by unfold frs; rw [List.filterMap_cons, hf]; exact List.mem_cons_self)
      obtain ⟨sl, e⟩ := I.base.slot L o ho (I.ok.frf L hL) hL fun z => I.ok.exfs L z hL
      exact ⟨hk, ⟨L, _, hf, hn, e, hd⟩, ih (fun b hb => hs b (by unfold frs; rw [List.filterMap_cons, hf]; exact List.mem_cons_of_mem _ hb)) hr⟩
  exact all X.outer (fun _ hb => hb) I.ok.funs

/-- the frames that run, for a call -/
theorem Inv.stack (I : Inv X pins σ H s) : s.heap.FunFrames X.base X.stack := by
  rcases I.ok.stk with e | ⟨e, hf⟩
  · rw [e]; exact I.funs
  · rw [e]
    obtain ⟨m, hn, _⟩ := I.loc
    refine .cons (by rw [I.ok.kind]; decide) hf hn ?_ I.funs
    exact Heap.get?_none_of_le (Nat.le_trans I.ok.bsz I.ok.above)
theorem Inv.stkSub (I : Inv X pins σ H s) : ∀ b ∈ frs X.stack, b ∈ X.env.locals :: X.fs := fun b hb => by
  rcases I.ok.stk with e | ⟨e, hf⟩
  · rw [e] at hb; exact List.mem_cons_of_mem _ hb
  · rw [e] at hb
    unfold frs at hb
    rw [List.filterMap_cons, hf] at hb
    exact hb
theorem Inv.stkFree (I : Inv X pins σ H s) : ∀ b ∈ frs X.stack, H b = none := fun b hb => by
  rcases List.mem_cons.mp (I.stkSub b hb) with e | hb
  · rw [e]; exact I.free
  · obtain ⟨_, o, ho, _⟩ := I.ok.funs.mem hb
    exact I.base.free b o ho (I.ok.frf b hb) fun z => I.ok.exfs b z hb

/-- THE STEP: the untracked objects but the frame and the records at ch are kept (the callers' frames up to slots), the frame's map is kept, the new abstract heap is held -/
theorem Inv.step {g' : Array GenState} {t' : Nat} {d' : Drawn} {ch : List Addr} (I : Inv X pins σ H s)
    (hch : ∀ b ∈ ch, (b ∈ X.ex ∨ X.s₀.heap.objs.size ≤ b) ∧ b ≠ X.env.locals ∧ (∀ x c, X.env.cells.lookup x = some c → c ≠ b) ∧ ∀ p ∈ X.pn ++ pins, p.1 ≠ b)
    (keep : ∀ b o, b ≠ X.env.locals → b ∉ X.fs → b ∉ ch → s.heap.get? b = some o → H b = none → h'.get? b = some o)
    (slot : ∀ b o, b ≠ X.env.locals → b ∈ X.fs → b ∉ ch → s.heap.get? b = some o → H b = none → ∃ sl, h'.get? b = some { o with slots := sl }) (free : ∀ b o, b ∉ ch → s.heap.get? b = some o → H b = none → H' b = none)
    (there : ∀ b o, b ∉ ch → s.heap.get? b = some o → ∃ o', h'.get? b = some o')
    (tups : ∀ b xs, H b = some (.tup xs) → H' b = some (.tup xs)) (frzs : ∀ b o u, H b = some (.frz o u) → H' b = some (.frz o u)) (tbls : ∀ b ps, H b = some (.tbl ps) → ∃ more, H' b = some (.tbl (ps ++ more)))
    (ns : ∀ m, s.heap.Ns X.env.locals m → h'.Ns X.env.locals m) (hok : HOk X.prog X.w H' h') (hg : AllBare g') :
    Inv X pins σ H' { s with heap := h', gens := g', drawn := d', toks := t' } := by
  have neL : ∀ b o, X.s₀.heap.get? b = some o → b ≠ X.env.locals := fun b o e => Nat.ne_of_lt (Nat.lt_of_lt_of_le (Heap.lt_size e) I.ok.above)
  have neC : ∀ b o, X.s₀.heap.get? b = some o → b ∉ X.ex → b ∉ ch := fun b o e hx hb => by
    rcases (hch b hb).1 with z | z
    · exact hx z
    · exact absurd (Nat.lt_of_lt_of_le (Heap.lt_size e) z) (Nat.lt_irrefl _)
  have cellK : ∀ x c, X.env.cells.lookup x = some c → ∀ v, s.heap.IsCell c v → h'.IsCell c v := fun x c e v ⟨o, ho, hd⟩ => by
    have nch : c ∉ ch := fun z => (hch c z).2.2.1 x c e rfl
    by_cases hc : c ∈ X.fs
    · obtain ⟨sl, q⟩ := slot c o (I.cne x c e) hc nch ho (I.freeC x c e)
      exact ⟨_, q, hd⟩
    · exact ⟨o, keep c o (I.cne x c e) hc nch ho (I.freeC x c e), hd⟩
  refine ⟨I.ok, I.os, hg, ⟨fun b o e n hb hx => ?_, fun b o e n hb hx => ?_, fun b o e n hx => ?_, fun b o e hx => ?_, fun b xs e => tups b xs (I.base.tups b xs e), fun b o xs e => frzs b o xs (I.base.frzs b o xs e), fun b ps e => ?_⟩, ?_, fun x c e => ?_, ?_, fun x c e => ?_, fun p hp => ?_, hok, I.len⟩
  · exact keep b o (neL b o e) hb (neC b o e hx) (I.base.keep b o e n hb hx) (I.base.free b o e n hx)
  · obtain ⟨sl, e1⟩ := I.base.slot b o e n hb hx
    obtain ⟨sl', e2⟩ := slot b _ (neL b o e) hb (neC b o e hx) e1 (I.base.free b o e n hx)
    exact ⟨sl', e2⟩
  · obtain ⟨o', e1⟩ := I.base.there b o e hx
    exact free b o' (neC b o e hx) e1 (I.base.free b o e n hx)
  · obtain ⟨o', e1⟩ := I.base.there b o e hx
    exact there b o' (neC b o e hx) e1
  · obtain ⟨m1, e1⟩ := I.base.tbls b ps e
    obtain ⟨m2, e2⟩ := tbls b _ e1
    exact ⟨m1 ++ m2, by rw [e2, Array.append_assoc]⟩
  · obtain ⟨m, hn, hl⟩ := I.loc
    refine ⟨m, ns m hn, fun i x v e1 e2 e3 => ?_⟩
    obtain ⟨u, r, l⟩ := hl i x v e1 e2 e3
    refine ⟨u, r, ?_⟩
    rcases l with l | ⟨k, c, e, z⟩
    · exact .inl l
    · exact .inr ⟨k, c, e, cellK x c e _ z⟩
  · obtain ⟨v, z⟩ := I.cell x c e
    exact ⟨v, cellK x c e v z⟩
  · obtain ⟨m, ⟨o, _, _, ho, _⟩, _⟩ := I.loc
    exact free _ o (fun z => (hch _ z).2.1 rfl) ho I.free
  · obtain ⟨v, o, ho, hd⟩ := I.cell x c e
    exact free c o (fun z => (hch c z).2.2.1 x c e rfl) ho (I.freeC x c e)
  · obtain ⟨e, n, ne, nf, d⟩ := I.pin p hp
    have nch : p.1 ∉ ch := fun z => (hch p.1 z).2.2.2 p hp rfl
    exact ⟨keep p.1 p.2 ne nf nch e n, free p.1 p.2 nch e n, ne, nf, d⟩
/-- .. where the frame's own object is kept too -/
theorem Inv.un {t' : Nat} (I : Inv X pins σ H s) (u : Un X.fs [] H H' s.heap h') (hok : HOk X.prog X.w H' h') : Inv X pins σ H' { s with heap := h', toks := t' } := by
  obtain ⟨m, ⟨o, es, ep, ho, r⟩, _⟩ := id I.loc
  obtain ⟨sl, hL⟩ := u.any ho I.free (by simp)
  exact I.step (g' := s.gens) (d' := s.drawn) (ch := []) (fun _ z => nomatch z) (fun b o _ hb _ e n => u.keep b o e n hb (by simp)) (fun b o _ hb _ e n => u.slot b o e n hb (by simp)) (fun b o _ e n => u.free b o e n (by simp)) (fun b o _ e => u.there b o e (by simp)) u.tups u.frzs u.tbls (fun m' hm => by
    obtain ⟨o', es', ep', ho', r'⟩ := hm
    rw [ho] at ho'; cases ho'
    exact ⟨_, es', ep', hL, r'⟩) hok I.bare
/-- behind a call (or a comprehension's block): the slots of this frame may have changed too, the records at ch may have turned -/
theorem Inv.call {g' : Array GenState} {t' : Nat} {d' : Drawn} {ch : List Addr} (I : Inv X pins σ H s) (u : Un (frs X.stack) ch H H' s.heap h') (hok : HOk X.prog X.w H' h') (hg : AllBare g')
    (hch : ∀ b ∈ ch, (b ∈ X.ex ∨ X.s₀.heap.objs.size ≤ b) ∧ b ≠ X.env.locals ∧ (∀ x c, X.env.cells.lookup x = some c → c ≠ b) ∧ ∀ p ∈ X.pn ++ pins, p.1 ≠ b) :
    Inv X pins σ H' { s with heap := h', gens := g', drawn := d', toks := t' } := by
  obtain ⟨m, ⟨o, es, ep, ho, r⟩, _⟩ := id I.loc
  obtain ⟨sl, hL⟩ := u.any ho I.free fun z => (hch _ z).2.1 rfl
  exact I.step (ch := ch) hch (fun b o hL hb hc e n => u.keep b o e n (fun z => (List.mem_cons.mp (I.stkSub b z)).elim hL hb) hc) (fun b o _ _ hc e n => u.any e n hc) (fun b o hc e n => u.free b o e n hc) (fun b o hc e => u.there b o e hc) u.tups u.frzs u.tbls (fun m' hm => by
    obtain ⟨o', es', ep', ho', r'⟩ := hm
    rw [ho] at ho'; cases ho'
    exact ⟨_, es', ep', hL, r'⟩) hok hg
/-- an untracked record of ours (an iterator) has turned -/
theorem Inv.turned {t' : Nat} {it : Addr} (I : Inv X pins σ H s) (k : ∀ b o, b ≠ it → s.heap.get? b = some o → h'.get? b = some o) (hn : H it = none) (hL : it ≠ X.env.locals)
    (h1 : it ∈ X.ex ∨ X.s₀.heap.objs.size ≤ it) (h2 : ∀ x c, X.env.cells.lookup x = some c → c ≠ it) (h3 : ∀ p ∈ X.pn ++ pins, p.1 ≠ it) : Inv X pins σ H { s with heap := h', toks := t' } := by
  have nit : ∀ b u, H b = some u → b ≠ it := fun b u e z => by rw [z, hn] at e; cases e
  refine I.step (g' := s.gens) (d' := s.drawn) (ch := [it]) (fun b hb => ?_) (fun b o _ _ hc e _ => k b o (fun z => hc (by simp [z])) e) (fun b o _ _ hc e _ => ⟨o.slots, k b o (fun z => hc (by simp [z])) e⟩) (fun _ _ _ _ n => n)
    (fun b o hc e => ⟨o, k b o (fun z => hc (by simp [z])) e⟩) (fun _ _ e => e) (fun _ _ _ e => e) (fun b ps e => ⟨#[], by rw [e]; simp⟩) (fun m hm => ?_) (fun b u e => ?_) I.bare
  · have e : b = it := by simpa using hb
    subst e
    exact ⟨h1, hL, h2, h3⟩
  · obtain ⟨o, es, ep, ho, r⟩ := hm
    exact ⟨o, es, ep, k _ o (Ne.symm hL) ho, r⟩
  · refine (I.hok b u e).stay (fun c v hc q => k c v ?_ q) (fun _ q => q) fun _ _ q => q
    rcases hc with z | z
    · rw [z]; exact nit b u e
    · exact nit c _ z
theorem Inv.tok (I : Inv X pins σ H s) (t : Nat) : Inv X pins σ H { s with toks := t } := I.un (h' := s.heap) (t' := t) Un.refl I.hok
/-- all objects kept -/
theorem Inv.kept {t' : Nat} (I : Inv X pins σ H s) (k : ∀ b u, s.heap.get? b = some u → h'.get? b = some u) : Inv X pins σ H { s with heap := h', toks := t' } := I.un (Un.kept k) (I.hok.kept k)
/-- a new object laid and tracked -/
theorem Inv.laid {a : Addr} {o : HO} {t' : Nat} (I : Inv X pins σ H s) (k : ∀ b u, s.heap.get? b = some u → h'.get? b = some u) (hp : s.heap.objs.size ≤ a) (new : ObjOk X.prog X.w (upd H a o) h' a o) :
    Inv X pins σ (upd H a o) { s with heap := h', toks := t' } := I.un (Un.laid k hp (I.hok.fresh hp)) (I.hok.laid k hp new)
/-- an object written -/
theorem Inv.write {x e : Addr} {o : HO} {t' : Nat} (I : Inv X pins σ H s) (mu : Mut (H x)) (he : e = x ∨ H e = some (.own x)) (k : ∀ b u, b ≠ e → s.heap.get? b = some u → h'.get? b = some u) (heo : ∃ u, h'.get? e = some u)
    (new : ObjOk X.prog X.w (upd H x o) h' x o) : Inv X pins σ (upd H x o) { s with heap := h', toks := t' } := I.un (Un.write mu he k heo) (I.hok.write mu he k heo new)
theorem Inv.pins_of {pins' : List (Addr × Obj)} (I : Inv X pins σ H s) (h : ∀ p ∈ pins', s.heap.get? p.1 = some p.2 ∧ H p.1 = none ∧ p.1 ≠ X.env.locals ∧ p.1 ∉ X.fs ∧ ∀ v, p.2.data ≠ .cell v) : Inv X pins' σ H s :=
  ⟨I.ok, I.os, I.bare, I.base, I.loc, I.cell, I.free, I.freeC, fun p hp => (List.mem_append.mp hp).elim (fun z => I.pin p (List.mem_append_left _ z)) (h p), I.hok, I.len⟩

theorem nodup_ix {N : List Str} (hN : N.Nodup) {i j : Nat} {x : Str} (a : N[i]? = some x) (b : N[j]? = some x) : i = j := by
  obtain ⟨h1, e1⟩ := List.getElem?_eq_some_iff.mp a
  obtain ⟨h2, e2⟩ := List.getElem?_eq_some_iff.mp b
  exact (List.getElem_inj hN).mp (e1.trans e2.symm)

/-- a name is stored; what changed -/
theorem store_ok2 {M : Model} {A : Around} {E : Value → Shared → Prop} {i : Nat} {x : Str} {v : V} {u : Value} {Q : Unit → Shared → Prop} (I : Inv X pins σ H s) (hN : X.N.Nodup) (hi : X.N[i]? = some x) (hx : Loc X.env.scope x) (r : RelV v u)
    (h : ∀ s', Inv X pins (σ.set i (some v)) H s' → (∃ a, Heap.SameBut a s.heap s'.heap ∧ (a = X.env.locals ∨ X.env.cells.lookup x = some a)) → Q () s') (hf : X.fn x = true ∨ X.env.scope.names.lookup x = some .local := by first | exact .inl rfl | exact .inr rfl | assumption) : wpAny M A (storeName X.env x u) Q E s := by
  obtain ⟨m, hn, hl⟩ := id I.loc
  have hcls : (X.env.scope.kind == .class || (X.env.scope.kind == .module && X.env.locals != X.env.globals)) = false := by rw [I.ok.kind]; rfl
  have hiσ : i < σ.length := by rw [I.len]; exact (List.getElem?_eq_some_iff.mp hi).1
  have cne := I.cne
  have tracked : ∀ {a : Addr} {h' : Heap}, (∃ o, s.heap.get? a = some o ∧ H a = none) → Heap.SameBut a s.heap h' → HOk X.prog X.w H h' := fun {a h'} ha hs b ob e => by
    obtain ⟨_, _, hfree⟩ := ha
    refine (I.hok b ob e).stay (fun c w' hc q => (hs.2 c ?_).trans q) (fun _ q => q) fun _ _ q => q
    rintro rfl
    rcases hc with rfl | hc
    · rw [hfree] at e; cases e
    · rw [hfree] at hc; cases hc
  rcases hx with hk | hk
  · refine wpAny_storeName_local hk hn (fun h' hn' hs => ?_) hcls
    obtain ⟨oL, _, _, hoL, _⟩ := id hn
    refine h _ ⟨I.ok, I.os, I.bare, ⟨fun b o e n hb hx => ?_, fun b o e n hb hx => ?_, I.base.free, fun b o e hx => ?_, I.base.tups, I.base.frzs, I.base.tbls⟩, ⟨_, hn', fun j y v' e1 e2 e3 => ?_⟩, fun y c e => ?_, I.free, I.freeC, fun p hp => ?_, tracked ⟨oL, hoL, I.free⟩ hs, by simpa using I.len⟩ ⟨_, hs, .inl rfl⟩
    · exact (hs.2 b (Nat.ne_of_lt (Nat.lt_of_lt_of_le (Heap.lt_size e) I.ok.above))).trans (I.base.keep b o e n hb hx)
    · obtain ⟨sl, e1⟩ := I.base.slot b o e n hb hx
      exact ⟨sl, (hs.2 b (Nat.ne_of_lt (Nat.lt_of_lt_of_le (Heap.lt_size e) I.ok.above))).trans e1⟩
    · obtain ⟨o', e1⟩ := I.base.there b o e hx
      exact ⟨o', (hs.2 b (Nat.ne_of_lt (Nat.lt_of_lt_of_le (Heap.lt_size e) I.ok.above))).trans e1⟩
    · by_cases hj : j = i
      · subst hj
        rw [hi] at e1; cases e1
        rw [List.getElem?_set_self hiσ] at e2
        cases e2
        exact ⟨u, r, .inl ⟨hk, by simp⟩⟩
      · rw [List.getElem?_set_ne (Ne.symm hj)] at e2
        obtain ⟨u', r', q⟩ := hl j y v' e1 e2 e3
        refine ⟨u', r', ?_⟩
        rcases q with ⟨k, e⟩ | ⟨k, c, e, z⟩
        · refine .inl ⟨k, ?_⟩
          have : y ≠ x := fun e => hj (nodup_ix hN e1 (e ▸ hi))
          simp [this, e]
        · exact .inr ⟨k, c, e, z.sameBut hs (cne y c e)⟩
    · obtain ⟨w', z⟩ := I.cell y c e
      exact ⟨w', z.sameBut hs (cne y c e)⟩
    · obtain ⟨e, n, ne, nf, d⟩ := I.pin p hp
      exact ⟨(hs.2 p.1 ne).trans e, n, ne, nf, d⟩
  · have hfn : X.fn x = true := by
      rcases hf with z | z
      · exact z
      · rw [z] at hk; cases hk
    obtain ⟨c, hc⟩ := I.ok.has x (.inl hk)
    obtain ⟨w', z⟩ := I.cell x c hc
    refine wpAny_storeName_cell I.ok.kind hk hc z (fun h' hc' hs => ?_)
    obtain ⟨oc, hoc, hocd⟩ := id z
    refine h { s with heap := h' } ⟨I.ok, I.os, I.bare, ⟨fun b o e n hb hx => ?_, fun b o e n hb hx => ?_, I.base.free, fun b o e hx => ?_, I.base.tups, I.base.frzs, I.base.tbls⟩, ⟨m, hn.sameBut hs (Ne.symm (cne x c hc)), fun j y v' e1 e2 e3 => ?_⟩, fun y c' e => ?_, I.free, I.freeC, fun p hp => ?_, tracked ⟨oc, hoc, I.freeC x c hc⟩ hs, by simpa using I.len⟩ ⟨c, hs, .inr hc⟩
    · exact (hs.2 b (Nat.ne_of_lt (Nat.lt_of_lt_of_le (Heap.lt_size e) (I.ok.cab x c hfn hc)))).trans (I.base.keep b o e n hb hx)
    · obtain ⟨sl, e1⟩ := I.base.slot b o e n hb hx
      exact ⟨sl, (hs.2 b (Nat.ne_of_lt (Nat.lt_of_lt_of_le (Heap.lt_size e) (I.ok.cab x c hfn hc)))).trans e1⟩
    · obtain ⟨o', e1⟩ := I.base.there b o e hx
      exact ⟨o', (hs.2 b (Nat.ne_of_lt (Nat.lt_of_lt_of_le (Heap.lt_size e) (I.ok.cab x c hfn hc)))).trans e1⟩
    · by_cases hj : j = i
      · subst hj
        rw [hi] at e1; cases e1
        rw [List.getElem?_set_self hiσ] at e2
        cases e2
        exact ⟨u, r, .inr ⟨.inl hk, c, hc, hc'⟩⟩
      · rw [List.getElem?_set_ne (Ne.symm hj)] at e2
        obtain ⟨u', r', q⟩ := hl j y v' e1 e2 e3
        refine ⟨u', r', ?_⟩
        rcases q with q | ⟨k, c', e, z'⟩
        · exact .inl q
        · refine .inr ⟨k, c', e, z'.sameBut hs ?_⟩
          rintro rfl
          exact hj (nodup_ix hN e1 (I.ok.inj _ _ _ e hc ▸ hi))
    · by_cases hcc : c' = c
      · subst hcc; exact ⟨_, hc'⟩
      · obtain ⟨w2, z2⟩ := I.cell y c' e
        exact ⟨w2, z2.sameBut hs hcc⟩
    · obtain ⟨e, n, ne, nf, d⟩ := I.pin p hp
      refine ⟨(hs.2 p.1 ?_).trans e, n, ne, nf, d⟩
      intro q
      rw [q, hoc] at e
      have q' : oc = p.2 := Option.some.inj e
      exact d w' (by rw [← q']; exact hocd)
theorem store_ok {M : Model} {A : Around} {E : Value → Shared → Prop} {i : Nat} {x : Str} {v : V} {u : Value} {Q : Unit → Shared → Prop} (I : Inv X pins σ H s) (hN : X.N.Nodup) (hi : X.N[i]? = some x) (hx : Loc X.env.scope x) (r : RelV v u)
    (h : ∀ s', Inv X pins (σ.set i (some v)) H s' → Q () s') (hf : X.fn x = true ∨ X.env.scope.names.lookup x = some .local := by first | exact .inl rfl | exact .inr rfl | assumption) : wpAny M A (storeName X.env x u) Q E s :=
  store_ok2 I hN hi hx r (fun s' I' _ => h s' I') hf
end

/-! ### the judgements -/
/-- an exception: its class, its own dict's address (where it has one), the abstract heap behind it -/
abbrev XK := Value → Option Addr → Hp → Prop
abbrev St := List (Option V)
abbrev VK := V → Hp → Prop
/-- an expression's reading; a test's; an argument list's -/
abbrev TE := St → Hp → VK → Prop
abbrev TT := St → Hp → (Bool → Hp → Prop) → Prop
abbrev TA := St → Hp → (List V → Hp → Prop) → Prop
/-- what is wanted behind a statement -/
structure Ends where
  nx : St → Hp → Prop
  rt : VK
  bk : St → Hp → Prop := fun _ _ => False
  ct : St → Hp → Prop := fun _ _ => False
abbrev TS := Ends → St → Hp → Prop

def EP (X : Cx) (pins : List (Addr × Obj)) (σ : St) (Q : VK) (u : Value) (s' : Shared) : Prop := ∃ v H', Inv X pins σ H' s' ∧ RelV v u ∧ Q v H'
def TP (X : Cx) (pins : List (Addr × Obj)) (σ : St) (Q : Bool → Hp → Prop) (b : Bool) (s' : Shared) : Prop := ∃ H', Inv X pins σ H' s' ∧ Q b H'
def AP (X : Cx) (pins : List (Addr × Obj)) (σ : St) (Q : List V → Hp → Prop) (us : List Value) (s' : Shared) : Prop := ∃ vs H', Inv X pins σ H' s' ∧ Vals vs us ∧ Q vs H'
def SP (X : Cx) (pins : List (Addr × Obj)) (D : Ends) (f : Flow) (s' : Shared) : Prop :=
  match f with
  | .next => ∃ σ' H', Inv X pins σ' H' s' ∧ D.nx σ' H'
  | .brk => ∃ σ' H', Inv X pins σ' H' s' ∧ D.bk σ' H'
  | .cont => ∃ σ' H', Inv X pins σ' H' s' ∧ D.ct σ' H'
  | .ret u => ∃ v σ' H', Inv X pins σ' H' s' ∧ RelV v u ∧ D.rt v H'

def PE (X : Cx) (e : Expr) (t : TE) : Prop :=
  ∀ (pins : List (Addr × Obj)) (s : Shared) (σ : St) (H : Hp) (Q : VK), Inv X pins σ H s → t σ H Q → wpAny (model X.prog X.w) X.A (eval e X.env) (EP X pins σ Q) X.xe s
def PT (X : Cx) (e : Expr) (t : TT) : Prop :=
  ∀ (pins : List (Addr × Obj)) (s : Shared) (σ : St) (H : Hp) (Q : Bool → Hp → Prop), Inv X pins σ H s → t σ H Q → wpAny (model X.prog X.w) X.A (isTrue e X.env (eval e X.env)) (TP X pins σ Q) X.xe s
/-- a test whatever its 'whole' is (and, or) -/
def PW (X : Cx) (e : Expr) (t : TT) : Prop :=
  ∀ (whole : Sem Value) (pins : List (Addr × Obj)) (s : Shared) (σ : St) (H : Hp) (Q : Bool → Hp → Prop), Inv X pins σ H s → t σ H Q → wpAny (model X.prog X.w) X.A (isTrue e X.env whole) (TP X pins σ Q) X.xe s
theorem PW.pt {X : Cx} {e : Expr} {t : TT} (h : PW X e t) : PT X e t := h _
/-- an argument list (no star), from the left -/
def PA (X : Cx) (es : List Expr) (t : TA) : Prop :=
  ∀ (pos : Pos) (pins : List (Addr × Obj)) (s : Shared) (σ : St) (H : Hp) (Q : List V → Hp → Prop), Inv X pins σ H s → t σ H Q → wpAny (model X.prog X.w) X.A (spliced (backTo pos (starEach es X.env))) (AP X pins σ Q) X.xe s
def PS (X : Cx) (st : Stmt) (t : TS) : Prop :=
  ∀ (pins : List (Addr × Obj)) (s : Shared) (σ : St) (H : Hp) (D : Ends), Inv X pins σ H s → t D σ H → wpAny (model X.prog X.w) X.A (exec st X.env) (SP X pins D) X.xe s
def PSs (X : Cx) (st : List Stmt) (t : TS) : Prop :=
  ∀ (pins : List (Addr × Obj)) (s : Shared) (σ : St) (H : Hp) (D : Ends), Inv X pins σ H s → t D σ H → wpAny (model X.prog X.w) X.A (execs st X.env) (SP X pins D) X.xe s
/-- weaken the end -/
theorem thn {α : Type} {t : Sem α} {Q Q' : α → Shared → Prop} {M : Model} {A : Around} {E : Value → Shared → Prop} {s : Shared} (h : wpAny M A t Q E s) (hQ : ∀ a s, Q a s → Q' a s) : wpAny M A t Q' E s := wpAny_mono h hQ fun _ _ x => x
end L2

namespace L2
open PySem PySem.Spec PyProof.Rows
section
variable {X : Cx}

/-! ### names and constants -/
def tVar (i : Nat) : TE := fun σ H Q => ∃ v, σ[i]? = some (some v) ∧ Q v H
def tC (v : V) : TE := fun _ H Q => Q v H
theorem pe_var {i : Nat} {x : Str} {pos : Pos} (hN : X.N[i]? = some x) (hv : Vis X.env.scope x) (hd : (x == ("__debug__" : Str)) = false := by decide) (hcd : (x == ("__classdict__" : Str)) = false := by decide) : PE X (.Name x pos) (tVar i) := by
  intro pins s σ H Q I h
  obtain ⟨v, e, h⟩ := h
  obtain ⟨m, hn, hl⟩ := I.loc
  obtain ⟨u, r, l⟩ := hl i x v hN e hv
  have fin : EP X pins σ Q u s := ⟨v, H, I, r, h⟩
  rcases l with ⟨hk, hm⟩ | ⟨hk, c, hc, hcell⟩
  · exact wpAny_Name (wpAny_loadName_local I.ok.kind hk hn hm fin) hd
  · rcases hk with hk | hk
    · exact wpAny_Name (wpAny_loadName_cell I.ok.kind hk hc hcell fin) hd
    · exact wpAny_Name (wpAny_loadName_free I.ok.kind hk hc hcell fin hcd) hd
theorem pe_int {i j pos} : PE X (.Constant (.int i) j pos) (tC (.int i)) := fun _ _ _ H _ I h => wpAny_Constant_int ⟨.int i, H, I.tok _, ⟨_, rfl⟩, h⟩
theorem pe_bl {b j pos} : PE X (.Constant (.bool b) j pos) (tC (.bl b)) := fun _ _ _ H _ I h => Constant_bool ⟨.bl b, H, I, rfl, h⟩
/-- a global name of the def -/
def Gl (X : Cx) (x : Str) : Prop := X.env.kindOf x = some .globalImplicit
theorem ld_glob {E : Value → Shared → Prop} {pins : List (Addr × Obj)} {s : Shared} {σ : St} {H : Hp} {x : Str} {u : Value} {pos : Pos} {Q : Value → Shared → Prop} (I : Inv X pins σ H s) (hg : Gl X x) (hm : X.mg x = some u) (h : Q u s)
    (hd : (x == ("__debug__" : Str)) = false := by decide) : wpAny (model X.prog X.w) X.A (eval (.Name x pos) X.env) Q E s :=
  Calls.Name_function_global I.ok.kind hg (Calls.loadGlobal_global (by rw [I.ok.glob]; exact I.mod.glob.keeps I.bk) hm h) hd
theorem ld_blt {E : Value → Shared → Prop} {pins : List (Addr × Obj)} {s : Shared} {σ : St} {H : Hp} {x : Str} {u : Value} {pos : Pos} {Q : Value → Shared → Prop} (I : Inv X pins σ H s) (hg : Gl X x) (hm : X.mg x = none) (hv : bootBuiltins x = some u) (h : Q u s)
    (hn : x ≠ "__name__" := by decide) (hd : (x == ("__debug__" : Str)) = false := by decide) : wpAny (model X.prog X.w) X.A (eval (.Name x pos) X.env) Q E s := by
  obtain ⟨mb, h1, h2⟩ := I.mod.blt
  exact Calls.Name_function_global I.ok.kind hg (Calls.loadGlobal_builtin (by rw [I.ok.glob]; exact I.mod.glob.keeps I.bk) hm (by rw [I.ok.blt]; exact h1.keeps I.bk) ((h2 x hn).trans hv) h) hd
theorem pe_bltn {x : Str} {v : V} {u : Value} {pos : Pos} (hg : Gl X x) (hm : X.mg x = none) (hv : bootBuiltins x = some u) (r : RelV v u) (hn : x ≠ "__name__" := by decide) (hd : (x == ("__debug__" : Str)) = false := by decide) : PE X (.Name x pos) (tC v) :=
  fun _ _ _ H _ I h => ld_blt I hg hm hv ⟨v, H, I, r, h⟩ hn hd

/-! ### arithmetic -/
variable {a b : Expr} {ta tb : TE} {pos : Pos}
/-! ### comparisons -/
/-- a comparison as a value, as a test -/
def tB (t : TE) : TT := fun σ H Q => t σ H fun x H1 => ∃ c, x = .bl c ∧ Q c H1
/-- an expression whose value is a bool, as a test -/
theorem pt_val {e : Expr} {t : TE} (h : PE X e t) (he : ∀ whole, isTrue e X.env whole = (do let v ← whole; standAt e.pos; holding [v] (truthy v)) := by intro _; rfl) : PT X e (tB t) := by
  intro pins s σ H Q I hw
  refine isTrue_plain (thn (h pins s σ H _ I hw) fun v s1 ⟨x, H1, I1, r1, q1⟩ => ?_) (he _)
  obtain ⟨d, rfl, q⟩ := q1
  cases r1
  exact wpAny_truthy_bool ⟨H1, I1, q⟩

/-! ### and, or, not -/
variable {tA tB' : TT} {rest : List Expr}
def tAnd (t u : TT) : TT := fun σ H Q => t σ H fun c H1 => if c = true then u σ H1 Q else Q false H1
def tOr (t u : TT) : TT := fun σ H Q => t σ H fun c H1 => if c = true then Q true H1 else u σ H1 Q
def tNot (t : TT) : TT := fun σ H Q => t σ H fun c H1 => Q (!c) H1
theorem pw_and1 (ha : PT X a tA) : PW X (.BoolOp .And [a] pos) tA := by
  intro wh pins s σ H Q I h
  refine isTrue_and (thn (ha pins s σ H Q I h) fun c s1 e => ?_)
  cases c with
  | true => exact isTrue_and_nil e
  | false => exact e
theorem pw_or1 (ha : PT X a tA) : PW X (.BoolOp .Or [a] pos) tA := by
  intro wh pins s σ H Q I h
  refine isTrue_or (thn (ha pins s σ H Q I h) fun c s1 e => ?_)
  cases c with
  | false => exact isTrue_or_nil e
  | true => exact e
theorem pw_and (ha : PT X a tA) (hb : PW X (.BoolOp .And (b :: rest) pos) tB') : PW X (.BoolOp .And (a :: b :: rest) pos) (tAnd tA tB') := by
  intro wh pins s σ H Q I h
  refine isTrue_and (thn (ha pins s σ H _ I h) fun c s1 ⟨H1, I1, q1⟩ => ?_)
  cases c with
  | true => exact hb wh pins s1 σ H1 Q I1 q1
  | false => exact ⟨H1, I1, q1⟩
theorem pw_or (ha : PT X a tA) (hb : PW X (.BoolOp .Or (b :: rest) pos) tB') : PW X (.BoolOp .Or (a :: b :: rest) pos) (tOr tA tB') := by
  intro wh pins s σ H Q I h
  refine isTrue_or (thn (ha pins s σ H _ I h) fun c s1 ⟨H1, I1, q1⟩ => ?_)
  cases c with
  | true => exact ⟨H1, I1, q1⟩
  | false => exact hb wh pins s1 σ H1 Q I1 q1
theorem pt_not (ha : PT X a tA) : PT X (.UnaryOp .Not a pos) (tNot tA) := by
  intro pins s σ H Q I h
  exact isTrue_not (ha pins s σ H (fun c H1 => Q (!c) H1) I h)
/-- .. as values (bools) -/
def tAndV (ta tb : TE) : TE := fun σ H Q => ta σ H fun x H1 => ∃ c, x = .bl c ∧ if c = true then tb σ H1 Q else Q (.bl false) H1
def tNotV (ta : TE) : TE := fun σ H Q => ta σ H fun x H1 => ∃ c, x = .bl c ∧ Q (.bl (!c)) H1
theorem pe_one {op} {t : TE} (h : PE X a t) : PE X (.BoolOp op [a] pos) t := fun pins s σ H Q I hw => BoolOp_one (h pins s σ H Q I hw)
theorem pe_and (ha : PE X a ta) (hb : PE X (.BoolOp .And (b :: rest) pos) tb) : PE X (.BoolOp .And (a :: b :: rest) pos) (tAndV ta tb) := by
  intro pins s σ H Q I h
  refine BoolOp_and (thn (ha pins s σ H _ I h) fun v s1 ⟨x, H1, I1, r1, q1⟩ => ?_)
  obtain ⟨c, rfl, q1⟩ := q1
  cases r1
  refine wpAny_truthy_bool ?_
  cases c with
  | true => exact hb pins s1 σ H1 Q I1 q1
  | false => exact ⟨.bl false, H1, I1, rfl, q1⟩
theorem pe_not (ha : PE X a ta) : PE X (.UnaryOp .Not a pos) (tNotV ta) := by
  intro pins s σ H Q I h
  refine UnaryOp_ (thn (ha pins s σ H _ I h) fun v s1 ⟨x, H1, I1, r1, q1⟩ => ?_)
  obtain ⟨c, rfl, q1⟩ := q1
  cases r1
  exact not_of (wpAny_truthy_bool ⟨.bl (!c), H1, I1, rfl, q1⟩)
end
end L2

namespace L2
open PySem PySem.Spec PyProof.Rows

/-! ### a list, a tuple that is read: tracked, frozen, or an object of the module -/
def SqL (K : PySem.W.Frag) (H : Hp) (a : Addr) (xs : List V) : Prop :=
  Rd H a (.lst xs) ∨
    ∃ (o : Obj) (its : Array Value) (n : Nat), K.lookup a = some o ∧ o.cls = .type "list" ∧ o.dict = none ∧ o.data = .seq its n ∧ its.size ≤ sizeLine ∧ Vals xs its.toList
def SqT (K : PySem.W.Frag) (H : Hp) (a : Addr) (xs : List V) : Prop :=
  Rd H a (.tup xs) ∨
    ∃ (o : Obj) (its : Array Value) (n : Nat), K.lookup a = some o ∧ o.cls = .type "tuple" ∧ o.data = .seq its n ∧ its.size ≤ sizeLine ∧ Vals xs its.toList
def absV : Value → Option V
  | .none => some .non
  | .bool b => some (.bl b)
  | .int i _ => some (.int i)
  | .str x _ => some (.str x)
  | .bytes b _ => some (.byt b)
  | .float b _ => some (.flt b)
  | .ref a => some (.ref a)
  | .type n => some (.ty n)
  | _ => none
theorem RelV.abs {x : V} {u : Value} (r : RelV x u) : absV u = some x := by
  cases x with
  | non => cases r; rfl
  | bl _ => cases r; rfl
  | int _ => obtain ⟨t, rfl⟩ := r; rfl
  | str _ => obtain ⟨t, rfl⟩ := r; rfl
  | byt _ => obtain ⟨t, rfl⟩ := r; rfl
  | flt _ => obtain ⟨t, rfl⟩ := r; rfl
  | ref _ => cases r; rfl
  | ty _ => cases r; rfl
theorem RelV.inj {x y : V} {u : Value} (r : RelV x u) (q : RelV y u) : x = y := Option.some.inj (r.abs.symm.trans q.abs)
theorem Vals.inj : ∀ {xs ys : List V} {us : List Value}, Vals xs us → Vals ys us → xs = ys
  | _, _, _, .nil, .nil => rfl
  | _, _, _, .cons r t, .cons r' t' => by rw [r.inj r', Vals.inj t t']
section
variable {X : Cx} {pins : List (Addr × Obj)} {σ : St} {H : Hp} {s : Shared} {a : Addr} {xs ys : List V}
theorem SqL.of {K : PySem.W.Frag} (h : H a = some (.lst xs)) : SqL K H a xs := .inl (.inl h)
theorem SqT.of {K : PySem.W.Frag} (h : H a = some (.tup xs)) : SqT K H a xs := .inl (.inl h)
theorem Inv.list (I : Inv X pins σ H s) (h : SqL X.K H a xs) : ∃ its : List Value, Vals xs its ∧ PlainL s.heap a its.toArray ∧ xs.length ≤ sizeLine := by
  rcases h with h | ⟨o, its, n, hk, hc, hd, hs, hz, r⟩
  · obtain ⟨z, its, n, r, e⟩ := h.ok I.hok
    exact ⟨its, r, ⟨_, n, e, rfl, rfl, rfl⟩, z⟩
  · refine ⟨its.toList, r, ⟨o, n, I.kIn a o hk, hc, hd, by simpa using hs⟩, ?_⟩
    have e := r.length
    simp only [Array.length_toList] at e
    omega
theorem Inv.tuple (I : Inv X pins σ H s) (h : SqT X.K H a xs) : ∃ its : List Value, Vals xs its ∧ IsTup s.heap a its.toArray ∧ xs.length ≤ sizeLine := by
  rcases h with h | ⟨o, its, n, hk, hc, hs, hz, r⟩
  · obtain ⟨z, its, r, p⟩ := h.ok I.hok
    exact ⟨its, r, p, z⟩
  · refine ⟨its.toList, r, ⟨o, I.kIn a o hk, hc, n, by simpa using hs⟩, ?_⟩
    have e := r.length
    simp only [Array.length_toList] at e
    omega
theorem Inv.list_inj (I : Inv X pins σ H s) (h : SqL X.K H a xs) (h' : SqL X.K H a ys) : xs = ys := by
  obtain ⟨its, r, ⟨o, n, e, _, _, d⟩, _⟩ := I.list h
  obtain ⟨its', r', ⟨o', n', e', _, _, d'⟩, _⟩ := I.list h'
  rw [e] at e'; cases e'
  rw [d] at d'
  injection d' with d1 _
  have : its = its' := by simpa using congrArg Array.toList d1
  subst this
  exact r.inj r'
end

/-! ### another wish about exceptions -/
abbrev Cx.wish (X : Cx) (E : Value → Shared → Prop) : Cx := { X with xe := E }
/-- no exception leaves -/
abbrev Cx.nox (X : Cx) : Cx := X.wish fun _ _ => False
theorem Cx.Ok.wish {X : Cx} (ok : X.Ok) (E : Value → Shared → Prop) : (X.wish E).Ok :=
  ⟨ok.mod, ok.kind, ok.glob, ok.blt, ok.above, ok.inj, ok.has, ok.cab, ok.hd, ok.frames, ok.stk, ok.exf, ok.bs, ok.bsz, ok.noex, ok.exfs, ok.funs, ok.frf⟩
theorem Cx.Ok.unwish {X : Cx} {E : Value → Shared → Prop} (ok : (X.wish E).Ok) : X.Ok :=
  ⟨ok.mod, ok.kind, ok.glob, ok.blt, ok.above, ok.inj, ok.has, ok.cab, ok.hd, ok.frames, ok.stk, ok.exf, ok.bs, ok.bsz, ok.noex, ok.exfs, ok.funs, ok.frf⟩
section
variable {X : Cx} {pins : List (Addr × Obj)} {σ : St} {H : Hp} {s : Shared} {E : Value → Shared → Prop}
theorem Inv.wish (I : Inv X pins σ H s) (E : Value → Shared → Prop) : Inv (X.wish E) pins σ H s := ⟨I.ok.wish E, I.os, I.bare, I.base, I.loc, I.cell, I.free, I.freeC, I.pin, I.hok, I.len⟩
theorem Inv.unwish (I : Inv (X.wish E) pins σ H s) : Inv X pins σ H s := ⟨I.ok.unwish, I.os, I.bare, I.base, I.loc, I.cell, I.free, I.freeC, I.pin, I.hok, I.len⟩
theorem SP.unwish {D : Ends} {f : Flow} {s' : Shared} (h : SP (X.wish E) pins D f s') : SP X pins D f s' := by
  cases f with
  | next => obtain ⟨σ', H', I, q⟩ := h; exact ⟨σ', H', I.unwish, q⟩
  | brk => obtain ⟨σ', H', I, q⟩ := h; exact ⟨σ', H', I.unwish, q⟩
  | cont => obtain ⟨σ', H', I, q⟩ := h; exact ⟨σ', H', I.unwish, q⟩
  | ret u => obtain ⟨v, σ', H', I, r, q⟩ := h; exact ⟨v, σ', H', I.unwish, r, q⟩
theorem PSs.nox {st : List Stmt} {t : TS} (h : PSs X.nox st t) : PSs X st t := fun pins s σ H D I hw =>
  wpAny_mono (h pins s σ H D (I.wish _) hw) (fun _ _ q => q.unwish) fun _ _ z => False.elim z
end

/-! ### blocks and small statements -/
section
variable {X : Cx} {st : Stmt} {rest : List Stmt} {t u : TS} {e : Expr} {te : TE} {pos : Pos}
def tNext : TS := fun D σ H => D.nx σ H
def tSeq (t u : TS) : TS := fun D σ H => t { D with nx := u D } σ H
theorem pss_nil : PSs X [] tNext := fun _ _ σ H _ I h => wpAny_execs_nil ⟨σ, H, I, h⟩
theorem pss_cons (h1 : PS X st t) (h2 : PSs X rest u) : PSs X (st :: rest) (tSeq t u) := by
  intro pins s σ H D I h
  refine wpAny_execs_cons (thn (h1 pins s σ H { D with nx := u D } I h) fun f s1 q => ?_)
  cases f with
  | next =>
    obtain ⟨σ', H', I', q⟩ := q
    exact h2 pins s1 σ' H' D I' q
  | ret v => exact q
  | brk => exact q
  | cont => exact q
theorem pss_one (h1 : PS X st t) : PSs X [st] t := by
  intro pins s σ H D I h
  refine wpAny_execs_cons (thn (h1 pins s σ H D I h) fun f s1 q => ?_)
  cases f with
  | next => exact wpAny_execs_nil q
  | ret v => exact q
  | brk => exact q
  | cont => exact q
/-- in a def's body nothing is shown -/
theorem Inv.quiet {pins : List (Addr × Obj)} {σ : St} {H : Hp} {s : Shared} (I : Inv X pins σ H s) : interactive X.env = false := by simp [interactive, I.ok.kind]
/-- an expression whose value is dropped -/
def tDrop (te : TE) : TS := fun D σ H => te σ H fun _ H1 => D.nx σ H1
theorem ps_expr (he : PE X e te) (hs : swapsWith e none pos.line X.env = pure false := by rfl) : PS X (.Expr e pos) (tDrop te) := by
  intro pins s σ H D I h
  exact wpAny_Expr_any (thn (he pins s σ H _ I h) fun v s1 ⟨x, H1, I1, r1, q1⟩ => ⟨σ, H1, I1, q1⟩) I.quiet hs
def tRet (te : TE) : TS := fun D σ H => te σ H D.rt
theorem ps_ret (he : PE X e te) : PS X (.Return (some e) pos) (tRet te) := by
  intro pins s σ H D I h
  exact wpAny_Return_some (thn (he pins s σ H _ I h) fun v s1 ⟨x, H1, I1, r1, q1⟩ => ⟨x, σ, H1, I1, r1, q1⟩)
def tIfS (c : TT) (t u : TS) : TS := fun D σ H => c σ H fun b H1 => if b = true then t D σ H1 else u D σ H1
theorem ps_if {c : Expr} {a b : List Stmt} {tc : TT} (hc : PT X c tc) (ha : PSs X a t) (hb : PSs X b u) : PS X (.If c a b pos) (tIfS tc t u) := by
  intro pins s σ H D I h
  refine wpAny_If (thn (hc pins s σ H _ I h) fun d s1 ⟨H1, I1, q1⟩ => ?_)
  cases d with
  | true => exact ha pins s1 σ H1 D I1 q1
  | false => exact hb pins s1 σ H1 D I1 q1
end

/-! ### targets -/
abbrev TG := V → St → Hp → (St → Hp → Prop) → Prop
abbrev TGs := List V → St → Hp → (St → Hp → Prop) → Prop
def PG (X : Cx) (target : Expr) (t : TG) : Prop :=
  ∀ (pins : List (Addr × Obj)) (s : Shared) (σ : St) (H : Hp) (v : V) (u : Value) (Q : St → Hp → Prop), Inv X pins σ H s → RelV v u → t v σ H Q →
    wpAny (model X.prog X.w) X.A (assign target X.env u) (fun _ s' => ∃ σ' H', Inv X pins σ' H' s' ∧ Q σ' H') X.xe s
/-- several targets, one after another -/
def PGs (X : Cx) (ts : List Expr) (t : TGs) : Prop :=
  ∀ (pins : List (Addr × Obj)) (s : Shared) (σ : St) (H : Hp) (vs : List V) (us : List Value) (Q : St → Hp → Prop), Inv X pins σ H s → Vals vs us → t vs σ H Q →
    wpAny (model X.prog X.w) X.A (assignInOrder ((assignEach ts X.env).map (·.2)) us) (fun _ s' => ∃ σ' H', Inv X pins σ' H' s' ∧ Q σ' H') X.xe s
section
variable {X : Cx} {pos : Pos}
def gName (i : Nat) : TG := fun v σ H Q => Q (σ.set i (some v)) H
theorem pg_name {i : Nat} {x : Str} (hN : X.N.Nodup) (hi : X.N[i]? = some x) (hx : Loc X.env.scope x) (hf : X.fn x = true ∨ X.env.scope.names.lookup x = some .local := by first | exact .inl rfl | exact .inr rfl | assumption) : PG X (.Name x pos) (gName i) := by
  intro pins s σ H v u Q I r h
  exact wpAny_assign_Name (store_ok I hN hi hx r (fun s' I' => ⟨_, H, I', h⟩) hf)
def gNil : TGs := fun vs σ H Q => vs = [] ∧ Q σ H
def gCons (t : TG) (u : TGs) : TGs := fun vs σ H Q => ∃ v r, vs = v :: r ∧ t v σ H fun σ' H' => u r σ' H' Q
theorem pgs_nil : PGs X [] gNil := by
  intro pins s σ H vs us Q I r h
  obtain ⟨e, h⟩ := h
  subst e
  cases r
  exact assignInOrder_nil ⟨σ, H, I, h⟩
theorem pgs_cons {e : Expr} {es : List Expr} {t : TG} {u : TGs} (h1 : PG X e t) (h2 : PGs X es u)
    (hs : (assignEach (e :: es) X.env).map (·.2) = assign e X.env :: (assignEach es X.env).map (·.2) := by rfl) : PGs X (e :: es) (gCons t u) := by
  intro pins s σ H vs us Q I r h
  obtain ⟨v, vr, e1, h⟩ := h
  subst e1
  cases r with
  | cons r rr =>
    rw [hs]
    refine assignInOrder_cons (thn (h1 pins s σ H _ _ _ I r h) fun _ s1 ⟨σ1, H1, I1, q1⟩ => ?_)
    exact h2 pins s1 σ1 H1 _ _ Q I1 rr q1
/-- (a, b, ..) = a tuple of that length -/
def gTup (K : PySem.W.Frag) (n : Nat) (t : TGs) : TG := fun v σ H Q => ∃ a xs, v = .ref a ∧ SqT K H a xs ∧ xs.length = n ∧ t xs σ H Q
theorem pg_tup {es : List Expr} {k : Nat} {t : TGs} {n : Nat} (hc : X.calm = true) (h : PGs X es t)
    (hn : (assignEach es X.env).length = n := by rfl) (hst : (assignEach es X.env).findIdx? (·.1) = none := by rfl) : PG X (.Tuple es k pos) (gTup X.K n t) := by
  intro pins s σ H v u Q I r hw
  obtain ⟨a, xs, e1, hq, hl, hw⟩ := hw
  subst e1
  cases r
  obtain ⟨its, rv, ht, hz⟩ := I.tuple hq
  refine assign_Tuple_tuple (I.ok.hd hc) ht (by simp [hn, ← hl, rv.length]) hst fun h' hx => ?_
  have I1 : Inv X pins σ H { s with heap := h' } := I.kept (t' := s.toks) fun b o e => hx b o (Nat.ne_of_lt (Heap.lt_size e)) e
  exact h pins _ σ H xs _ Q I1 (by simpa using rv) hw
/-- target = value -/
def tAsg (te : TE) (g : TG) : TS := fun D σ H => te σ H fun x H1 => g x σ H1 D.nx
theorem ps_asg {tg e : Expr} {te : TE} {g : TG} (he : PE X e te) (hg : PG X tg g) (hs : swapsWithSole [tg] e pos.line X.env = pure false := by rfl) (hw : swappedStores [tg] e X.env = pure none := by rfl)
    (h1 : (assignEach [tg] X.env).map (·.2) = [assign tg X.env] := by rfl) : PS X (.Assign [tg] e pos) (tAsg te g) := by
  intro pins s σ H D I h
  refine wpAny_Assign_stores (thn (he pins s σ H _ I h) fun v s1 ⟨x, H1, I1, r1, q1⟩ => ?_) hs hw
  rw [h1]
  exact thn (hg pins s1 σ H1 x v _ I1 r1 q1) fun _ s2 q => q
/-- name = value -/
theorem ps_set {i : Nat} {x : Str} {e : Expr} {te : TE} {pos' : Pos} (hN : X.N.Nodup) (hi : X.N[i]? = some x) (hx : Loc X.env.scope x) (he : PE X e te) (hs : swapsWith e (some (.Name x pos')) pos.line X.env = pure false := by rfl) (hf : X.fn x = true ∨ X.env.scope.names.lookup x = some .local := by first | exact .inl rfl | exact .inr rfl | assumption) :
    PS X (.Assign [.Name x pos'] e pos) (tAsg te (gName i)) := by
  intro pins s σ H D I h
  refine wpAny_Assign_Name (thn (he pins s σ H _ I h) fun v s1 ⟨y, H1, I1, r1, q1⟩ => ?_) hs
  exact store_ok I1 hN hi hx r1 (fun s2 I2 => ⟨_, H1, I2, q1⟩) hf
/-- a, b = x, y with plain local names: stored from the right; the pair itself is not tracked (the opening rows as in PyProof/Rows/TupAssign.lean:23) -/
def tPar (i j : Nat) (ta : TA) : TS := fun D σ H => ta σ H fun vs H1 => ∃ v w, vs = [v, w] ∧ D.nx ((σ.set i (some v)).set j (some w)) H1
theorem ps_par {i j : Nat} {x y : Str} {a b : Expr} {ta : TA} {px py pt : Pos} {kt k2 pt2} (hc : X.calm = true) (hN : X.N.Nodup) (hi : X.N[i]? = some x) (hj : X.N[j]? = some y) (hij : i ≠ j)
    (hx : X.env.scope.names.lookup x = some .local) (hy : X.env.scope.names.lookup y = some .local) (ha : PA X [a, b] ta)
    (hw : swappedStores [.Tuple [.Name x px, .Name y py] kt pt] (.Tuple [a, b] k2 pt2) X.env = pure (some [x, y]))
    (hs : swapsWithSole [.Tuple [.Name x px, .Name y py] kt pt] (.Tuple [a, b] k2 pt2) pos.line X.env = pure false := by rfl) :
    PS X (.Assign [.Tuple [.Name x px, .Name y py] kt pt] (.Tuple [a, b] k2 pt2) pos) (tPar i j ta) := by
  intro pins s σ H D I h
  rw [exec_Assign_arm]
  refine wpAny_bind (wpAny_standAt ?_)
  rw [hs]
  refine wpAny_bind (wpAny_pure ?_)
  rw [if_neg (by decide)]
  refine wpAny_bind (Tuple_ (thn (ha _ pins s σ H _ I h) fun us s1 ⟨vs, H1, I1, r1, q1⟩ => ?_))
  obtain ⟨v, w, e1, q1⟩ := q1
  subst e1
  obtain ⟨u1, u2, rfl, rv, rw'⟩ : ∃ u1 u2, us = [u1, u2] ∧ RelV v u1 ∧ RelV w u2 := by
    cases r1 with
    | cons p q =>
      cases q with
      | cons p' q' =>
        cases q'
        exact ⟨_, _, rfl, p, p'⟩
  refine wpAny_newObj_type ?_ (by show 2 ≤ sizeLine; decide)
  have I2 : Inv X pins σ H1 { s1 with heap := s1.heap.push { cls := .type "tuple", data := .seq [u1, u2].toArray } } := I1.kept (t' := s1.toks) fun b o e => Heap.get?_push_of_some _ e
  rw [hw]
  refine wpAny_bind (wpAny_pure ?_)
  show wpAny (model X.prog X.w) X.A (do rule "assign.swapped-stores"; let items ← unpackItems (.ref s1.heap.objs.size) 2 none; assignInOrder [fun v => bindName X.env y v, fun v => bindName X.env x v] items.reverse; pure Flow.next) _ _ _
  refine wpAny_bind (wpAny_rule (wpAny_bind (unpackItems_tuple (items := #[u1, u2]) (I.ok.hd hc) (IsTup.new s1.heap _) fun h' hx' => ?_)))
  have I3 := I2.kept (h' := h') (t' := s1.toks) fun b o e => hx' b o (Nat.ne_of_lt (Heap.lt_size e)) e
  show wpAny _ _ (assignInOrder [fun v => bindName X.env y v, fun v => bindName X.env x v] [u2, u1] >>= fun _ => pure Flow.next) _ _ _
  refine wpAny_bind (assignInOrder_cons (wpAny_bindName (store_ok I3 hN hj (.inl hy) rw' (fun s2 I4 => ?_) (.inr hy))))
  refine assignInOrder_cons (wpAny_bindName (store_ok I4 hN hi (.inl hx) rv (fun s3 I5 => assignInOrder_nil (wpAny_pure ?_)) (.inr hx)))
  rw [List.set_comm _ _ (Ne.symm hij)] at I5
  exact ⟨_, H1, I5, q1⟩
end

/-! ### while -/
section
variable {X : Cx} {pos : Pos}
/-- the invariant W with its measure -/
def tWhile (c : TT) (tb : TS) : TS := fun D σ H => ∃ W : Nat → St → Hp → Prop, (∃ m, W m σ H) ∧ ∀ m σ H, W m σ H →
  c σ H fun b H1 => if b = true then ∃ N : St → Hp → Prop, (∀ σ' H', N σ' H' → ∃ m', m' < m ∧ W m' σ' H') ∧ tb { D with nx := N, ct := N, bk := D.nx } σ H1 else D.nx σ H1
theorem ps_while {c : Expr} {body : List Stmt} {tc : TT} {tb : TS} (hp : PassesOwn (model X.prog X.w) X.A X.env X.xe) (hc : PT X c tc) (hb : PSs X body tb) : PS X (.While c body [] pos) (tWhile tc tb) := by
  intro pins s σ H D I h
  obtain ⟨W, ⟨m0, w0⟩, turn⟩ := h
  refine wpAny_While (codeAny_whileLoop (fun n s' => ∃ σ' H', Inv X pins σ' H' s' ∧ W n σ' H') ?_ m0 ⟨σ, H, I, w0⟩)
  rintro n s1 ⟨σ1, H1, I1, w1⟩
  refine wpAny_passesOwn hp (thn (hc pins s1 σ1 H1 _ I1 (turn n σ1 H1 w1)) fun b s2 ⟨H2, I2, q2⟩ => ?_)
  cases b with
  | true =>
    obtain ⟨N, hN, q2⟩ := q2
    rw [if_pos rfl]
    refine wpAny_passesOwn hp (thn (hb pins s2 σ1 H2 _ I2 q2) fun f s3 q3 => ?_)
    cases f with
    | next =>
      obtain ⟨σ3, H3, I3, n3⟩ := q3
      obtain ⟨m', hm, w3⟩ := hN σ3 H3 n3
      exact ⟨m', hm, σ3, H3, I3, w3⟩
    | cont =>
      obtain ⟨σ3, H3, I3, n3⟩ := q3
      obtain ⟨m', hm, w3⟩ := hN σ3 H3 n3
      exact ⟨m', hm, σ3, H3, I3, w3⟩
    | brk => exact q3
    | ret v => exact q3
  | false =>
    rw [if_neg Bool.false_ne_true]
    exact wpAny_execs_nil ⟨σ1, H2, I2, q2⟩
end

/-! ### what a loop or a comprehension walks -/
/-- at turn i: it yields x (the heap may grow), or it stops -/
structure It where
  go : Nat → Hp → Prop
  yld : Nat → Hp → V → Hp → Prop
  stop : Nat → Hp → Prop
/-- the iterator's own objects may turn: they are not the frame's, not pinned, younger than the entry (or a comprehension's own) -/
def FpOk (X : Cx) (pins : List (Addr × Obj)) (H : Hp) (b : Addr) : Prop :=
  H b = none ∧ b ≠ X.env.locals ∧ b ∉ X.fs ∧ (b ∈ X.ex ∨ X.s₀.heap.objs.size ≤ b) ∧ (∀ x c, X.env.cells.lookup x = some c → c ≠ b) ∧ ∀ p ∈ X.pn ++ pins, p.1 ≠ b
theorem Inv.fpOk {X : Cx} {pins : List (Addr × Obj)} {σ : St} {H H' : Hp} {s : Shared} {b : Addr} (I : Inv X pins σ H s) (hb : s.heap.objs.size ≤ b) (hn : H' b = none) : FpOk X pins H' b := by
  refine ⟨hn, Nat.ne_of_gt (Nat.lt_of_lt_of_le I.lt hb), I.nofs hb, .inr (Nat.le_trans I.sz hb), fun x c e z => ?_, fun p hp z => ?_⟩
  · obtain ⟨v, q⟩ := I.cell x c e
    exact absurd (Nat.lt_of_lt_of_le q.lt (by rw [z]; exact hb)) (Nat.lt_irrefl _)
  · exact absurd (Nat.lt_of_lt_of_le (Heap.lt_size (I.pin p hp).1) (by rw [z]; exact hb)) (Nat.lt_irrefl _)
structure Turn (P : Program) (w : World) (K : PySem.W.Frag) (tg : Expr) (J : It) (fp : List Addr) (it : Addr) (tn : Nat → Heap → Prop) : Prop where
  mem : it ∈ fp
  obj : ∀ i h, tn i h → ∀ b ∈ fp, ∃ o, h.get? b = some o ∧ ∀ v, o.data ≠ .cell v
  keep : ∀ i h h', tn i h → (∀ b ∈ fp, ∀ o, h.get? b = some o → h'.get? b = some o) → tn i h'
  item : ∀ (X : Cx), X.prog = P → X.w = w → X.K = K → X.calm = true → ∀ (i : Nat) (pins : List (Addr × Obj)) (s : Shared) (σ : St) (H : Hp) (E : Value → Shared → Prop), Inv X pins σ H s → (∀ b ∈ fp, FpOk X pins H b) → tn i s.heap → J.go i H →
    wpAny (model P w) X.A (pyNext (.ref it)) (fun r s1 => ∃ u, r = some u ∧
      wpAny (model P w) X.A (letOwnedTupleGo tg (.ref it) u) (fun _ s2 => ∃ x H', Inv X pins σ H' s2 ∧ RelV x u ∧ J.yld i H x H' ∧ tn (i + 1) s2.heap ∧ ∀ b ∈ fp, H' b = none) E s1) E s
  done : ∀ (X : Cx), X.prog = P → X.w = w → X.K = K → X.calm = true → ∀ (i : Nat) (pins : List (Addr × Obj)) (s : Shared) (σ : St) (H : Hp) (E : Value → Shared → Prop), Inv X pins σ H s → (∀ b ∈ fp, FpOk X pins H b) → tn i s.heap → J.stop i H →
    wpAny (model P w) X.A (pyNext (.ref it)) (fun r s1 => r = none ∧ Inv X pins σ H s1) E s
  self : ∀ (A : Around) (i : Nat) (s : Shared) (Q : Value → Shared → Prop) (E : Value → Shared → Prop), tn i s.heap → Q (.ref it) s → wpAny (model P w) A (pyIter (.ref it)) Q E s
abbrev TI := St → Hp → (It → Hp → Prop) → Prop
/-- an iterator has come -/
def PIE (X : Cx) (pins : List (Addr × Obj)) (σ : St) (tg : Expr) (R : It → Hp → Prop) (itv : Value) (s2 : Shared) : Prop :=
  ∃ (it : Addr) (fp : List Addr) (tn : Nat → Heap → Prop) (J : It) (H' : Hp), itv = .ref it ∧ Inv X pins σ H' s2 ∧ Turn X.prog X.w X.K tg J fp it tn ∧ tn 0 s2.heap ∧ (∀ b ∈ fp, FpOk X pins H' b) ∧ R J H'
def PI (X : Cx) (tg iter : Expr) (wi : TI) : Prop :=
  ∀ (pins : List (Addr × Obj)) (s : Shared) (σ : St) (H : Hp) (R : It → Hp → Prop), Inv X pins σ H s → wi σ H R →
    wpAny (model X.prog X.w) X.A (eval iter X.env) (fun v s1 => wpAny (model X.prog X.w) X.A (pyIter v) (PIE X pins σ tg R) X.xe s1) X.xe s

/-- the step ahead of the store is nothing for an iterator that keeps no tuple -/
theorem go_of {M : Model} {A : Around} {E : Value → Shared → Prop} {s : Shared} {tg : Expr} {it : Addr} {u : Value} {o : Obj} {n : String} {vs : Array Value} {Q : Unit → Shared → Prop} (ho : s.heap.get? it = some o) (hc : o.cls = .type n) (hd : o.data = .fields vs)
    (hn : ["enumerate", "zip", "dict_itemiterator", "dict_reverseitemiterator", "odict_iterator", "itertools.zip_longest", "itertools.pairwise"].contains n = false) (hQ : Q () s) : wpAny M A (letOwnedTupleGo tg (.ref it) u) Q E s := by
  unfold letOwnedTupleGo
  cases tg <;> first
    | exact wpAny_pure hQ
    | (cases u <;> first
        | exact wpAny_pure hQ
        | (refine wpAny_bind (wpAny_load ho ?_)
           rw [hc, hd]
           show wpAny M A (if (["enumerate", "zip", "dict_itemiterator", "dict_reverseitemiterator", "odict_iterator", "itertools.zip_longest", "itertools.pairwise"].contains n && vs[0]? == some (rawInt _)) = true then _ else _) Q E s
           rw [if_neg (by intro h; rw [hn, Bool.false_and] at h; cases h)]
           exact wpAny_pure hQ))

/-- the list at a, as it stands at each turn (a loop may append to it) -/
def Itl (K : PySem.W.Frag) (a : Addr) : It :=
  ⟨fun i H => ∃ xs x, SqL K H a xs ∧ xs[i]? = some x, fun i H x H' => H' = H ∧ ∀ xs, SqL K H a xs → xs[i]? = some x, fun i H => ∃ xs, SqL K H a xs ∧ xs.length ≤ i⟩
/-- lo, lo + 1, .. (n of them) -/
def Itr (lo : Int) (n : Nat) : It := ⟨fun i _ => i < n, fun i H x H' => H' = H ∧ x = .int (lo + i), fun i _ => n ≤ i⟩
theorem turn_list {P : Program} {w : World} {K : PySem.W.Frag} {tg : Expr} (a it : Addr) : Turn P w K tg (Itl K a) [it] it (fun i h => h.IsListIter it a i) where
  mem := by simp
  obj := fun i h st b hb => by
    have e : b = it := by simpa using hb
    subst e
    obtain ⟨o, e, c, d⟩ := st
    exact ⟨o, e, fun v z => by rw [d] at z; cases z⟩
  keep := fun i h h' st k => st.at fun o e => k it (by simp) o e
  item := by
    intro X hP hw hK hc i pins s σ H E I hf st hg
    subst hP hw hK
    obtain ⟨xs, x, hq, hx⟩ := hg
    obtain ⟨its, rv, p, hz⟩ := I.list hq
    obtain ⟨u, hu, ru⟩ := rv.get hx
    obtain ⟨f0, f1, f2, f3, f4, f5⟩ := hf it (by simp)
    refine wpAny_pyNext_list_item st p.isList (x := u) (by simpa using hu) fun h' st' sb => ?_
    have I1 : Inv X pins σ H { s with heap := h' } := I.turned (t' := s.toks) (fun b o hb e => (sb.2 b hb).trans e) f0 f1 f3 f4 f5
    obtain ⟨o, e, c, d⟩ := id st'
    exact ⟨u, rfl, go_of (s := { s with heap := h' }) e c d (by decide) ⟨x, H, I1, ru, ⟨rfl, fun ys hy => by rw [I.list_inj hy hq]; exact hx⟩, st', fun b hb => (hf b hb).1⟩⟩
  done := by
    intro X hP hw hK hc i pins s σ H E I hf st hg
    subst hP hw hK
    obtain ⟨xs, hq, hx⟩ := hg
    obtain ⟨its, rv, p, hz⟩ := I.list hq
    obtain ⟨f0, f1, f2, f3, f4, f5⟩ := hf it (by simp)
    have hl := rv.length
    exact wpAny_pyNext_list_end (I.ok.hd hc) st p.isList (by simp; omega) fun h' eb => ⟨rfl, I.turned (t' := s.toks) (fun b o hb e => eb b o hb e) f0 f1 f3 f4 f5⟩
  self := fun _ _ _ _ _ st h => wpAny_pyIter_listiter st h
theorem turn_range {P : Program} {w : World} {K : PySem.W.Frag} {tg : Expr} (it : Addr) (lo : Int) (n : Nat) : Turn P w K tg (Itr lo n) [it] it (fun i h => IsRangeIter h it (lo + (i : Nat) * 1) ((n : Int) - (i : Nat)) 1) where
  mem := by simp
  obj := fun i h st b hb => by
    have e : b = it := by simpa using hb
    subst e
    exact ⟨_, st, fun v z => by
      have z' : Data.fields _ = Data.cell v := z
      cases z'⟩
  keep := fun i h h' st k => k it (by simp) _ st
  item := by
    intro X hP hw hK hc i pins s σ H E I hf st hg
    subst hP hw hK
    obtain ⟨f0, f1, f2, f3, f4, f5⟩ := hf it (by simp)
    have W := Walks.range (prog := X.prog) (w := X.w) (I.ok.hd hc) it lo 1 n
    refine W.item i s _ _ hg st fun v h' tk hv st' kk => ?_
    obtain ⟨t, rfl⟩ := hv
    have I1 : Inv X pins σ H { s with heap := h', toks := tk } := I.turned (fun b o hb e => kk b o (by simpa using hb) e) f0 f1 f3 f4 f5
    refine ⟨_, rfl, go_of (s := { s with heap := h', toks := tk }) (n := "range_iterator") st' rfl rfl (by decide) ⟨.int (lo + i), H, I1, ⟨t, ?_⟩, ⟨rfl, rfl⟩, st', fun b hb => (hf b hb).1⟩⟩
    rw [Int.mul_one]
  done := by
    intro X hP hw hK hc i pins s σ H E I hf st hg
    subst hP hw hK
    obtain ⟨f0, f1, f2, f3, f4, f5⟩ := hf it (by simp)
    exact wpAny_pyNext_range_end (I.ok.hd hc) st (by have : n ≤ i := hg; omega) fun h' eb => ⟨rfl, I.turned (t' := s.toks) (fun b o hb e => eb b o hb e) f0 f1 f3 f4 f5⟩
  self := fun _ _ _ _ _ st h => wpAny_pyIter_rangeiter st h
end L2

namespace L2
open PySem PySem.Spec PyProof.Rows
section
variable {X : Cx} {tg : Expr}
def iList (K : PySem.W.Frag) (tl : TE) : TI := fun σ H R => tl σ H fun x H1 => ∃ a, x = .ref a ∧ (∃ xs, SqL K H1 a xs) ∧ R (Itl K a) H1
theorem pi_list {l : Expr} {tl : TE} (hl : PE X l tl) : PI X tg l (iList X.K tl) := by
  intro pins s σ H R I h
  refine thn (hl pins s σ H _ I h) fun v s1 ⟨x, H1, I1, r1, q1⟩ => ?_
  obtain ⟨a, e, ⟨xs, hq⟩, q⟩ := q1
  subst e
  cases r1
  obtain ⟨its, rv, p, hz⟩ := I1.list hq
  refine wpAny_pyIter_list p.isList ?_
  refine ⟨s1.heap.objs.size, [s1.heap.objs.size], _, _, H1, rfl, I1.kept (t' := s1.toks) fun b o e => Heap.get?_push_of_some _ e, turn_list a _, ⟨_, Heap.get?_push_size _ rfl, rfl, rfl⟩, fun b hb => ?_, q⟩
  have e : b = s1.heap.objs.size := by simpa using hb
  subst e
  exact I1.fpOk (Nat.le_refl _) (I1.hok.fresh (Nat.le_refl _))
/-- a range object just made, walked -/
theorem range_it {pins : List (Addr × Obj)} {σ : St} {H : Hp} {s : Shared} {R : It → Hp → Prop} {E : Value → Shared → Prop} {lo hi : Int} {t u v : Tok} {tk : Nat} (I : Inv X pins σ H s) (h1 : -(2 ^ 62) ≤ lo) (h2 : lo < 2 ^ 62) (h3 : -(2 ^ 62) ≤ hi) (h4 : hi < 2 ^ 62)
    (q : R (Itr lo (hi - lo).toNat) H) : wpAny (model X.prog X.w) X.A (pyIter (.ref s.heap.objs.size)) (PIE X pins σ tg R) E { s with heap := s.heap.push { cls := .type "range", data := .fields #[.int lo t, .int hi u, .int 1 v] }, toks := tk } := by
  refine wpAny_pyIter_range (IsRange.new ..) (small_one h1 h2 h3 h4) ?_
  have I1 : Inv X pins σ H { s with heap := s.heap.push { cls := .type "range", data := .fields #[.int lo t, .int hi u, .int 1 v] }, toks := tk } := I.kept fun b o e => Heap.get?_push_of_some _ e
  refine ⟨(s.heap.push { cls := .type "range", data := .fields #[.int lo t, .int hi u, .int 1 v] }).objs.size, [(s.heap.push { cls := .type "range", data := .fields #[.int lo t, .int hi u, .int 1 v] }).objs.size], _, _, H, rfl,
    I1.kept (t' := tk) fun b o e => Heap.get?_push_of_some _ e, turn_range _ lo (hi - lo).toNat, ?_, fun b hb => ?_, q⟩
  · have e1 : lo + ((0 : Nat) : Int) * 1 = lo := by simp
    have e2 : (((hi - lo).toNat : Nat) : Int) - ((0 : Nat) : Int) = Builtin.Range.rangeSize lo hi 1 := by rw [rangeSize_one]; split <;> omega
    show IsRangeIter _ _ (lo + ((0 : Nat) : Int) * 1) ((((hi - lo).toNat : Nat) : Int) - ((0 : Nat) : Int)) 1
    rw [e1, e2]
    exact Heap.get?_push_size _ rfl
  · have e : b = (s.heap.push { cls := .type "range", data := .fields #[.int lo t, .int hi u, .int 1 v] }).objs.size := by simpa using hb
    subst e
    exact I1.fpOk (Nat.le_refl _) (I1.hok.fresh (Nat.le_refl _))
def iRng1 (ta : TA) : TI := fun σ H R => ta σ H fun vs H1 => ∃ j : Int, vs = [.int j] ∧ -(2 ^ 62) ≤ j ∧ j < 2 ^ 62 ∧ R (Itr 0 j.toNat) H1
theorem pi_range1 {a : Expr} {ta : TA} {p pos : Pos} (hg : Gl X "range") (hm : X.mg "range" = none) (ha : PA X [a] ta) (hs : starEach [a] X.env = [(false, eval a X.env)] := by rfl) : PI X tg (.Call (.Name "range" p) [a] [] pos) (iRng1 ta) := by
  intro pins s σ H R I h
  refine Call_ (ld_blt I hg hm boot_range (PyProof.Rows.callWith_type1 (thn (ha pos pins s σ H _ I h) fun us s1 ⟨vs, H1, I1, r1, q1⟩ => ?_) hs rfl))
  obtain ⟨j, e, q1, q2, q⟩ := q1
  subst e
  cases r1 with
  | cons r rr =>
    cases rr
    obtain ⟨t, rfl⟩ := r
    exact call_range_1 (range_it I1 (by omega) (by omega) q1 q2 (by simpa using q))
/-! ### for -/
/-- W: the invariant by the turn and a measure; N: what the body is to reach -/
def tFor (wi : TI) (g : TG) (tb : TS) : TS := fun D σ H => wi σ H fun J H1 => ∃ W : Nat → Nat → St → Hp → Prop, (∃ m, W 0 m σ H1) ∧ ∀ i m σ H, W i m σ H →
  (J.stop i H ∧ D.nx σ H) ∨ (J.go i H ∧ ∃ N : St → Hp → Prop, (∀ σ' H', N σ' H' → ∃ m', m' < m ∧ W (i + 1) m' σ' H') ∧ ∀ x H', J.yld i H x H' → g x σ H' fun σ2 H2 => tb { D with nx := N, ct := N, bk := D.nx } σ2 H2)
/-- the records at fp as they stand -/
def pinsAt (fp : List Addr) (h : Heap) : List (Addr × Obj) := fp.filterMap fun b => (h.get? b).map fun o => (b, o)
theorem mem_pinsAt {fp : List Addr} {h : Heap} {b : Addr} {o : Obj} (hb : b ∈ fp) (e : h.get? b = some o) : (b, o) ∈ pinsAt fp h := List.mem_filterMap.mpr ⟨b, hb, by rw [e]; rfl⟩
theorem of_pinsAt {fp : List Addr} {h : Heap} {p : Addr × Obj} (hp : p ∈ pinsAt fp h) : p.1 ∈ fp ∧ h.get? p.1 = some p.2 := by
  obtain ⟨b, hb, e⟩ := List.mem_filterMap.mp hp
  cases q : h.get? b with
  | none => rw [q] at e; cases e
  | some o =>
    rw [q] at e
    have e' : (b, o) = p := Option.some.inj e
    subst e'
    exact ⟨hb, q⟩
theorem Inv.pinned {pins : List (Addr × Obj)} {σ : St} {H : Hp} {s : Shared} {fp : List Addr} (I : Inv X pins σ H s) (hf : ∀ b ∈ fp, FpOk X pins H b) (ho : ∀ b ∈ fp, ∃ o, s.heap.get? b = some o ∧ ∀ v, o.data ≠ .cell v) : Inv X (pins ++ pinsAt fp s.heap) σ H s :=
  I.pins_of fun p hp => (List.mem_append.mp hp).elim (fun z => I.pin p (List.mem_append_right _ z)) fun z => by
    obtain ⟨hb, e⟩ := of_pinsAt z
    obtain ⟨f0, f1, f2, _⟩ := hf p.1 hb
    obtain ⟨o, e', d⟩ := ho p.1 hb
    rw [e] at e'; cases e'
    exact ⟨e, f0, f1, f2, d⟩
theorem Inv.unpinned {pins pl : List (Addr × Obj)} {σ : St} {H : Hp} {s : Shared} (I : Inv X (pins ++ pl) σ H s) : Inv X pins σ H s := I.pins_of fun p hp => I.pin p (List.mem_append_right _ (List.mem_append_left _ hp))
theorem ps_for {iter : Expr} {body : List Stmt} {wi : TI} {g : TG} {tb : TS} {pos : Pos} (hp : PassesOwn (model X.prog X.w) X.A X.env X.xe) (hc : X.calm = true) (hi : PI X tg iter wi) (hg : PG X tg g) (hb : PSs X body tb)
    (hs : ∀ x, foldedSetIterable iter X.env x = pure x := by intro _; rfl) : PS X (.For tg iter body [] pos) (tFor wi g tb) := by
  intro pins s σ H D I h
  refine wpAny_For (thn (hi pins s σ H _ I h) fun v s1 h1 => thn h1 fun itv s2 h2 => ?_) hs
  obtain ⟨it, fp, tn, J, H2, e, I2, T, st2, f2, W, ⟨m0, w0⟩, turn⟩ := h2
  subst e
  -- what stays true of the iterator's objects through the loop
  have stat : ∀ {H' : Hp}, (∀ b ∈ fp, H' b = none) → ∀ b ∈ fp, FpOk X pins H' b := fun hn b hb => ⟨hn b hb, (f2 b hb).2⟩
  refine codeAny_forLoop_any (fun n s' => ∃ i σ' H', Inv X pins σ' H' s' ∧ tn i s'.heap ∧ (∀ b ∈ fp, H' b = none) ∧ W i n σ' H') ?_ m0 ⟨0, σ, H2, I2, st2, fun b hb => (f2 b hb).1, w0⟩
  rintro n s3 ⟨i, σ3, H3, I3, st3, fr3, w3⟩
  rcases turn i n σ3 H3 w3 with ⟨stop, qn⟩ | ⟨go, N, hN, step⟩
  · refine wpAny_passesOwn hp (thn (T.done X rfl rfl rfl hc i pins s3 σ3 H3 X.xe I3 (stat fr3) st3 stop) fun r s4 ⟨hr, I4⟩ => ?_)
    subst hr
    exact wpAny_execs_nil ⟨σ3, H3, I4, qn⟩
  · refine wpAny_passesOwn hp (thn (T.item X rfl rfl rfl hc i pins s3 σ3 H3 X.xe I3 (stat fr3) st3 go) fun r s4 ⟨u, hr, h4⟩ => ?_)
    subst hr
    refine wpAny_passesOwn hp (thn h4 fun _ s5 ⟨x, H5, I5, r5, y5, st5, fr5⟩ => ?_)
    have I5' := I5.pinned (stat fr5) (T.obj _ _ st5)
    refine wpAny_passesOwn hp (thn (hg _ s5 σ3 H5 x u _ I5' r5 (step x H5 y5)) fun _ s6 ⟨σ6, H6, I6, q6⟩ => ?_)
    refine wpAny_passesOwn hp (thn (hb _ s6 σ6 H6 _ I6 q6) fun f s7 q7 => ?_)
    have again : ∀ {σ7 : St} {H7 : Hp}, Inv X (pins ++ pinsAt fp s5.heap) σ7 H7 s7 → N σ7 H7 → ∃ m, m < n ∧ ∃ i σ' H', Inv X pins σ' H' s7 ∧ tn i s7.heap ∧ (∀ b ∈ fp, H' b = none) ∧ W i m σ' H' := fun {σ7 H7} I7 n7 => by
      obtain ⟨m', hm, w7⟩ := hN σ7 H7 n7
      refine ⟨m', hm, i + 1, σ7, H7, I7.unpinned, T.keep _ _ _ st5 fun b hb o e => (I7.pin (b, o) (List.mem_append_right _ (List.mem_append_right _ (mem_pinsAt hb e)))).1, fun b hb => ?_, w7⟩
      obtain ⟨o, e, d⟩ := T.obj _ _ st5 b hb
      exact (I7.pin (b, o) (List.mem_append_right _ (List.mem_append_right _ (mem_pinsAt hb e)))).2.1
    cases f with
    | next => obtain ⟨σ7, H7, I7, n7⟩ := q7; exact again I7 n7
    | cont => obtain ⟨σ7, H7, I7, n7⟩ := q7; exact again I7 n7
    | brk => obtain ⟨σ7, H7, I7, q7⟩ := q7; exact ⟨σ7, H7, I7.unpinned, q7⟩
    | ret v => obtain ⟨x7, σ7, H7, I7, r7, q7⟩ := q7; exact ⟨x7, σ7, H7, I7.unpinned, r7, q7⟩
end

/-! ### the forms one uses -/
/-- over a list that the body leaves as it is -/
theorem for_list {K : PySem.W.Frag} {a : Addr} {xs : List V} {g : TG} {tb : TS} {D : Ends} {σ : St} {H : Hp} (Pv : Nat → St → Hp → Prop) (h0 : Pv 0 σ H) (hl : ∀ i σ H, i ≤ xs.length → Pv i σ H → SqL K H a xs)
    (hs : ∀ i x σ H, xs[i]? = some x → Pv i σ H → g x σ H fun σ2 H2 => tb { D with nx := Pv (i + 1), ct := Pv (i + 1), bk := D.nx } σ2 H2) (hd : ∀ σ H, Pv xs.length σ H → D.nx σ H) :
    ∃ W : Nat → Nat → St → Hp → Prop, (∃ m, W 0 m σ H) ∧ ∀ i m σ H, W i m σ H →
      ((Itl K a).stop i H ∧ D.nx σ H) ∨ ((Itl K a).go i H ∧ ∃ N : St → Hp → Prop, (∀ σ' H', N σ' H' → ∃ m', m' < m ∧ W (i + 1) m' σ' H') ∧ ∀ x H', (Itl K a).yld i H x H' → g x σ H' fun σ2 H2 => tb { D with nx := N, ct := N, bk := D.nx } σ2 H2) := by
  refine ⟨fun i m σ H => m = xs.length - i ∧ i ≤ xs.length ∧ Pv i σ H, ⟨xs.length, by simp, Nat.zero_le _, h0⟩, ?_⟩
  rintro i m σ H ⟨rfl, hi, p⟩
  have q := hl i σ H hi p
  by_cases hlt : i < xs.length
  · refine .inr ⟨⟨xs, xs[i], q, by simp [hlt]⟩, Pv (i + 1), fun σ' H' p' => ⟨xs.length - (i + 1), by omega, rfl, hlt, p'⟩, fun x H' y => ?_⟩
    obtain ⟨e, y⟩ := y
    subst e
    exact hs i x σ _ (y xs q) p
  · have e : i = xs.length := by omega
    subst e
    exact .inl ⟨⟨xs, q, Nat.le_refl _⟩, hd σ H p⟩
theorem for_range {lo : Int} {n : Nat} {g : TG} {tb : TS} {D : Ends} {σ : St} {H : Hp} (Pv : Nat → St → Hp → Prop) (h0 : Pv 0 σ H)
    (hs : ∀ i σ H, i < n → Pv i σ H → g (.int (lo + i)) σ H fun σ2 H2 => tb { D with nx := Pv (i + 1), ct := Pv (i + 1), bk := D.nx } σ2 H2) (hd : ∀ σ H, Pv n σ H → D.nx σ H) :
    ∃ W : Nat → Nat → St → Hp → Prop, (∃ m, W 0 m σ H) ∧ ∀ i m σ H, W i m σ H →
      ((Itr lo n).stop i H ∧ D.nx σ H) ∨ ((Itr lo n).go i H ∧ ∃ N : St → Hp → Prop, (∀ σ' H', N σ' H' → ∃ m', m' < m ∧ W (i + 1) m' σ' H') ∧ ∀ x H', (Itr lo n).yld i H x H' → g x σ H' fun σ2 H2 => tb { D with nx := N, ct := N, bk := D.nx } σ2 H2) := by
  refine ⟨fun i m σ H => m = n - i ∧ i ≤ n ∧ Pv i σ H, ⟨n, by simp, Nat.zero_le _, h0⟩, ?_⟩
  rintro i m σ H ⟨rfl, hi, p⟩
  by_cases hlt : i < n
  · refine .inr ⟨hlt, Pv (i + 1), fun σ' H' p' => ⟨n - (i + 1), by omega, rfl, hlt, p'⟩, fun x H' y => ?_⟩
    obtain ⟨e, y⟩ := y
    subst e y
    exact hs i σ _ hlt p
  · have e : i = n := by omega
    subst e
    exact .inl ⟨Nat.le_refl _, hd σ H p⟩
/-- while, by a word and a measure of the state -/
theorem while_by {c : TT} {tb : TS} {D : Ends} {σ : St} {H : Hp} (Pv : St → Hp → Prop) (μ : St → Hp → Nat) (h0 : Pv σ H)
    (hs : ∀ σ H, Pv σ H → c σ H fun b H1 => if b = true then tb { D with nx := fun σ' H' => Pv σ' H' ∧ μ σ' H' < μ σ H, ct := fun σ' H' => Pv σ' H' ∧ μ σ' H' < μ σ H, bk := D.nx } σ H1 else D.nx σ H1)
    (mono : ∀ σ H Q Q', (∀ b H1, Q b H1 → Q' b H1) → c σ H Q → c σ H Q') : tWhile c tb D σ H := by
  refine ⟨fun m σ H => m = μ σ H ∧ Pv σ H, ⟨_, rfl, h0⟩, ?_⟩
  rintro m σ H ⟨rfl, p⟩
  refine mono σ H _ _ (fun b H1 q => ?_) (hs σ H p)
  cases b with
  | true => exact ⟨_, fun σ' H' ⟨p', l⟩ => ⟨_, l, rfl, p'⟩, q⟩
  | false => exact q
end L2

namespace L2
open PySem PySem.Spec PyProof.Rows

abbrev R2 := V → V → Hp → VK → Prop
/-- a two-place operation on values: f is binaryOp op, inplaceOp op or compareOp op -/
def OpR (X : Cx) (f : Value → Value → Sem Value) (r : R2) : Prop :=
  ∀ (pins : List (Addr × Obj)) (s : Shared) (σ : St) (H : Hp) (x y : V) (v u : Value) (Q : VK), Inv X pins σ H s → RelV x v → RelV y u → r x y H Q →
    wpAny (model X.prog X.w) X.A (f v u) (EP X pins σ Q) X.xe s
/-- a one-place operation -/
def UnR (X : Cx) (f : Value → Sem Value) (r : V → Hp → VK → Prop) : Prop :=
  ∀ (pins : List (Addr × Obj)) (s : Shared) (σ : St) (H : Hp) (x : V) (v : Value) (Q : VK), Inv X pins σ H s → RelV x v → r x H Q →
    wpAny (model X.prog X.w) X.A (f v) (EP X pins σ Q) X.xe s
/-- a call of a value that is known (a builtin, a type) with values -/
def CallR (X : Cx) (f : Value) (r : List V → Hp → VK → Prop) : Prop :=
  ∀ (pins : List (Addr × Obj)) (s : Shared) (σ : St) (H : Hp) (xs : List V) (us : List Value) (Q : VK), Inv X pins σ H s → Vals xs us → r xs H Q →
    wpAny (model X.prog X.w) X.A (call f us) (EP X pins σ Q) X.xe s
def tOp (r : R2) (ta tb : TE) : TE := fun σ H Q => ta σ H fun x H1 => tb σ H1 fun y H2 => r x y H2 Q
def tUn (r : V → Hp → VK → Prop) (ta : TE) : TE := fun σ H Q => ta σ H fun x H1 => r x H1 Q
/-- ints in, under C, and a value out -/
def rI (C : Int → Int → Prop) (g : Int → Int → V) : R2 := fun x y H Q => ∃ i j, x = .int i ∧ y = .int j ∧ C i j ∧ Q (g i j) H
def rI0 (g : Int → Int → V) : R2 := fun x y H Q => ∃ i j, x = .int i ∧ y = .int j ∧ Q (g i j) H
def rU (g : Int → V) : V → Hp → VK → Prop := fun x H Q => ∃ i, x = .int i ∧ Q (g i) H

section
variable {X : Cx} {a b c : Expr} {ta tb tc : TE} {pos : Pos}

theorem binT (ha : PE X a ta) (hb : PE X b tb) {pins : List (Addr × Obj)} {s : Shared} {σ : St} {H : Hp} {R : V → V → Hp → Prop} (I : Inv X pins σ H s)
    (h : ta σ H fun x H1 => tb σ H1 fun y H2 => R x y H2) {Q : Value → Shared → Prop} {f : Value → Value → Sem Value}
    (hf : ∀ v u s2 x y H2, Inv X pins σ H2 s2 → RelV x v → RelV y u → R x y H2 → wpAny (model X.prog X.w) X.A (f v u) Q X.xe s2) :
    wpAny (model X.prog X.w) X.A (eval a X.env) (fun v s₁ => wpAny (model X.prog X.w) X.A (eval b X.env) (fun u s₂ => wpAny (model X.prog X.w) X.A (f v u) Q X.xe s₂) X.xe s₁) X.xe s := by
  refine thn (ha pins s σ H _ I h) fun v s1 ⟨x, H1, I1, r1, q1⟩ => ?_
  refine thn (hb pins s1 σ H1 _ I1 q1) fun u s2 ⟨y, H2, I2, r2, q2⟩ => ?_
  exact hf v u s2 x y H2 I2 r1 r2 q2

theorem pe_op {op : Operator} {r : R2} (ho : OpR X (binaryOp op) r) (ha : PE X a ta) (hb : PE X b tb) : PE X (.BinOp a op b pos) (tOp r ta tb) := by
  intro pins s σ H Q I h
  exact wpAny_BinOp (binT ha hb I h fun v u s2 x y H2 I2 rx ry q => ho pins s2 σ H2 x y v u Q I2 rx ry q)
theorem pe_un {op : UnaryOp} {r : V → Hp → VK → Prop} (ho : UnR X (unaryOp op) r) (ha : PE X a ta) : PE X (.UnaryOp op a pos) (tUn r ta) := by
  intro pins s σ H Q I h
  exact UnaryOp_ (thn (ha pins s σ H _ I h) fun v s1 ⟨x, H1, I1, r1, q1⟩ => ho pins s1 σ H1 x v Q I1 r1 q1)
/-! ### ints -/
theorem opI {f : Value → Value → Sem Value} {C : Int → Int → Prop} {g : Int → Int → Int}
    (rule : ∀ (i j : Int) (t u : Tok) (s : Shared) (Q : Value → Shared → Prop) (E : Value → Shared → Prop), C i j → Q (.int (g i j) s.toks) { s with toks := s.toks + 1 } → wpAny (model X.prog X.w) X.A (f (.int i t) (.int j u)) Q E s) :
    OpR X f (rI C fun i j => .int (g i j)) := by
  intro pins s σ H x y v u Q I rx ry h
  obtain ⟨i, j, rfl, rfl, hc, q⟩ := h
  obtain ⟨t, rfl⟩ := rx
  obtain ⟨t', rfl⟩ := ry
  exact rule i j t t' s _ _ hc ⟨.int (g i j), H, I.tok _, ⟨_, rfl⟩, q⟩
theorem opI0 {f : Value → Value → Sem Value} {g : Int → Int → Int}
    (rule : ∀ (i j : Int) (t u : Tok) (s : Shared) (Q : Value → Shared → Prop) (E : Value → Shared → Prop), Q (.int (g i j) s.toks) { s with toks := s.toks + 1 } → wpAny (model X.prog X.w) X.A (f (.int i t) (.int j u)) Q E s) :
    OpR X f (rI0 fun i j => .int (g i j)) := by
  intro pins s σ H x y v u Q I rx ry h
  obtain ⟨i, j, rfl, rfl, q⟩ := h
  obtain ⟨t, rfl⟩ := rx
  obtain ⟨t', rfl⟩ := ry
  exact rule i j t t' s _ _ ⟨.int (g i j), H, I.tok _, ⟨_, rfl⟩, q⟩
theorem opB0 {f : Value → Value → Sem Value} {g : Int → Int → Bool}
    (rule : ∀ (i j : Int) (t u : Tok) (s : Shared) (Q : Value → Shared → Prop) (E : Value → Shared → Prop), Q (.bool (g i j)) s → wpAny (model X.prog X.w) X.A (f (.int i t) (.int j u)) Q E s) :
    OpR X f (rI0 fun i j => .bl (g i j)) := by
  intro pins s σ H x y v u Q I rx ry h
  obtain ⟨i, j, rfl, rfl, q⟩ := h
  obtain ⟨t, rfl⟩ := rx
  obtain ⟨t', rfl⟩ := ry
  exact rule i j t t' s _ _ ⟨.bl (g i j), H, I, rfl, q⟩

def CPow (i j : Int) : Prop := 0 ≤ j ∧ j ≤ 1000000 ∧ i.natAbs < 2 ^ 64
def CMul (i j : Int) : Prop := (-(2 ^ 64) < i ∧ i < 2 ^ 64) ∨ (-(2 ^ 64) < j ∧ j < 2 ^ 64)
theorem CMul.ok {i j : Int} (h : CMul i j) : IntMulOk i j := by
  rcases h with ⟨h1, h2⟩ | ⟨h1, h2⟩
  · exact .of_left (intBits_le_64 h1 h2)
  · exact .of_right (intBits_le_64 h1 h2)
theorem op_add : OpR X (binaryOp .Add) (rI0 fun i j => .int (i + j)) := opI0 fun _ _ _ _ _ _ _ q => add_int q
theorem op_sub : OpR X (binaryOp .Sub) (rI0 fun i j => .int (i - j)) := opI0 fun _ _ _ _ _ _ _ q => sub_int q
/-- % by a positive divisor of any size -/
theorem op_mod : OpR X (binaryOp .Mod) (rI (fun _ j => 0 < j) fun i j => .int (i % j)) := opI fun i j _ _ _ _ _ hc q => by
  have h1 : (0 : Int) < j := hc
  exact mod_int' (by omega) (by rw [Int.fmod_eq_emod_of_nonneg i (by omega)]; exact q)
theorem op_pow : OpR X (binaryOp .Pow) (rI CPow fun i j => .int (i ^ j.toNat)) := opI fun _ _ _ _ _ _ _ hc q => pow_int_small hc.1 hc.2.1 hc.2.2 q
theorem unI {f : Value → Sem Value} {g : Int → Int}
    (rule : ∀ (i : Int) (t : Tok) (s : Shared) (Q : Value → Shared → Prop) (E : Value → Shared → Prop), Q (.int (g i) s.toks) { s with toks := s.toks + 1 } → wpAny (model X.prog X.w) X.A (f (.int i t)) Q E s) :
    UnR X f (rU fun i => .int (g i)) := by
  intro pins s σ H x v Q I rx h
  obtain ⟨i, rfl, q⟩ := h
  obtain ⟨t, rfl⟩ := rx
  exact rule i t s _ _ ⟨.int (g i), H, I.tok _, ⟨_, rfl⟩, q⟩
theorem un_neg : UnR X (unaryOp .USub) (rU fun i => .int (-i)) := unI fun _ _ _ _ _ q => neg_int q
/-! ### bools among ints: n += (a < b) -/
end

/-! ### comparisons -/
/-- the scalars that == tells apart as data does -/
def scal : V → V → Bool
  | .non, .non => true | .non, .int _ => true | .int _, .non => true | .non, .bl _ => true | .bl _, .non => true | .non, .str _ => true | .str _, .non => true
  | .int _, .int _ => true | .bl _, .bl _ => true | .str _, .str _ => true | .byt _, .byt _ => true
  | .int _, .str _ => true | .str _, .int _ => true | .bl _, .str _ => true | .str _, .bl _ => true
  | _, _ => false
def rEq : R2 := fun x y H Q => scal x y = true ∧ Q (.bl (decide (x = y))) H
def rNe : R2 := fun x y H Q => scal x y = true ∧ Q (.bl (!decide (x = y))) H

theorem dec_int {i j : Int} : decide (V.int i = V.int j) = (i == j) := by
  rw [Bool.eq_iff_iff]
  simp
theorem dec_bl {i j : Bool} : decide (V.bl i = V.bl j) = (i == j) := by
  rw [Bool.eq_iff_iff]
  simp
theorem dec_str {i j : Str} : decide (V.str i = V.str j) = (i == j) := by
  rw [Bool.eq_iff_iff]
  simp
theorem dec_byt {i j : Array UInt8} : decide (V.byt i = V.byt j) = (i.toList == j.toList) := by
  rw [Bool.eq_iff_iff]
  cases i
  cases j
  simp

section
variable {X : Cx} {a b c : Expr} {ta tb tc : TE} {pos : Pos}
theorem fin_bl {pins : List (Addr × Obj)} {σ : St} {H : Hp} {s : Shared} {Q : VK} {k k' : Bool} (I : Inv X pins σ H s) (q : Q (.bl k) H) (e : k = k') : EP X pins σ Q (.bool k') s := by
  subst e
  exact ⟨.bl k, H, I, rfl, q⟩
theorem op_eq : OpR X (compareOp .Eq) rEq := by
  intro pins s σ H x y v u Q I rx ry h
  obtain ⟨hs, q⟩ := h
  cases x with
  | non =>
    cases rx
    cases y with
    | non => cases ry; exact PySem.EqNone.eq_none_none (fin_bl I q (by simp))
    | bl j => cases ry; exact PySem.EqNone.eq_none_bool (fin_bl I q (by simp))
    | int j => obtain ⟨t', rfl⟩ := ry; exact PySem.EqNone.eq_none_int (fin_bl I q (by simp))
    | str j => obtain ⟨t', rfl⟩ := ry; exact PySem.EqNone.eq_none_str (fin_bl I q (by simp))
    | _ => exact absurd (show false = true from hs) Bool.false_ne_true
  | bl i =>
    cases rx
    cases y with
    | non => cases ry; exact PySem.EqNone.eq_bool_none (fin_bl I q (by simp))
    | bl j => cases ry; exact eq_bool (fin_bl I q dec_bl)
    | str j => obtain ⟨t', rfl⟩ := ry; exact PySem.EqMixed.eq_bool_str (fin_bl I q (by simp))
    | _ => exact absurd (show false = true from hs) Bool.false_ne_true
  | int i =>
    obtain ⟨t, rfl⟩ := rx
    cases y with
    | non => cases ry; exact PySem.EqNone.eq_int_none (fin_bl I q (by simp))
    | int j => obtain ⟨t', rfl⟩ := ry; exact eq_int (fin_bl I q dec_int)
    | str j => obtain ⟨t', rfl⟩ := ry; exact PySem.EqMixed.eq_int_str (fin_bl I q (by simp))
    | _ => exact absurd (show false = true from hs) Bool.false_ne_true
  | str i =>
    obtain ⟨t, rfl⟩ := rx
    cases y with
    | non => cases ry; exact PySem.EqNone.eq_str_none (fin_bl I q (by simp))
    | bl j => cases ry; exact PySem.EqMixed.eq_str_bool (fin_bl I q (by simp))
    | int j => obtain ⟨t', rfl⟩ := ry; exact PySem.EqMixed.eq_str_int (fin_bl I q (by simp))
    | str j => obtain ⟨t', rfl⟩ := ry; exact eq_str (fin_bl I q dec_str)
    | _ => exact absurd (show false = true from hs) Bool.false_ne_true
  | byt i =>
    obtain ⟨t, rfl⟩ := rx
    cases y with
    | byt j => obtain ⟨t', rfl⟩ := ry; exact PySem.W.eq_bytes (fin_bl I q dec_byt)
    | _ => exact absurd (show false = true from hs) Bool.false_ne_true
  | _ => cases y <;> exact absurd (show false = true from hs) Bool.false_ne_true
theorem op_ne : OpR X (compareOp .NotEq) rNe := by
  intro pins s σ H x y v u Q I rx ry h
  obtain ⟨hs, q⟩ := h
  cases x with
  | non =>
    cases rx
    cases y with
    | non => cases ry; exact PySem.EqNone.ne_none_none (fin_bl I q (by simp))
    | bl j => cases ry; exact PySem.EqNone.ne_none_bool (fin_bl I q (by simp))
    | int j => obtain ⟨t', rfl⟩ := ry; exact PySem.EqNone.ne_none_int (fin_bl I q (by simp))
    | str j => obtain ⟨t', rfl⟩ := ry; exact PySem.EqNone.ne_none_str (fin_bl I q (by simp))
    | _ => exact absurd (show false = true from hs) Bool.false_ne_true
  | bl i =>
    cases rx
    cases y with
    | non => cases ry; exact PySem.EqNone.ne_bool_none (fin_bl I q (by simp))
    | bl j => cases ry; exact ne_bool (fin_bl I q (congrArg not dec_bl))
    | str j => obtain ⟨t', rfl⟩ := ry; exact PySem.EqMixed.ne_bool_str (fin_bl I q (by simp))
    | _ => exact absurd (show false = true from hs) Bool.false_ne_true
  | int i =>
    obtain ⟨t, rfl⟩ := rx
    cases y with
    | non => cases ry; exact PySem.EqNone.ne_int_none (fin_bl I q (by simp))
    | int j => obtain ⟨t', rfl⟩ := ry; exact ne_int (fin_bl I q (congrArg not dec_int))
    | str j => obtain ⟨t', rfl⟩ := ry; exact PySem.EqMixed.ne_int_str (fin_bl I q (by simp))
    | _ => exact absurd (show false = true from hs) Bool.false_ne_true
  | str i =>
    obtain ⟨t, rfl⟩ := rx
    cases y with
    | non => cases ry; exact PySem.EqNone.ne_str_none (fin_bl I q (by simp))
    | bl j => cases ry; exact PySem.EqMixed.ne_str_bool (fin_bl I q (by simp))
    | int j => obtain ⟨t', rfl⟩ := ry; exact PySem.EqMixed.ne_str_int (fin_bl I q (by simp))
    | str j => obtain ⟨t', rfl⟩ := ry; exact ne_str (fin_bl I q (congrArg not dec_str))
    | _ => exact absurd (show false = true from hs) Bool.false_ne_true
  | byt i =>
    obtain ⟨t, rfl⟩ := rx
    cases y with
    | byt j => obtain ⟨t', rfl⟩ := ry; exact PySem.W.ne_bytes (fin_bl I q (congrArg not dec_byt))
    | _ => exact absurd (show false = true from hs) Bool.false_ne_true
  | _ => cases y <;> exact absurd (show false = true from hs) Bool.false_ne_true

theorem op_lt : OpR X (compareOp .Lt) (rI0 fun i j => .bl (decide (i < j))) := opB0 fun _ _ _ _ _ _ _ q => lt_int q
theorem op_le : OpR X (compareOp .LtE) (rI0 fun i j => .bl (decide (i ≤ j))) := opB0 fun _ _ _ _ _ _ _ q => le_int q
theorem op_gt : OpR X (compareOp .Gt) (rI0 fun i j => .bl (decide (j < i))) := opB0 fun _ _ _ _ _ _ _ q => gt_int q
theorem op_ge : OpR X (compareOp .GtE) (rI0 fun i j => .bl (decide (j ≤ i))) := opB0 fun _ _ _ _ _ _ _ q => ge_int q
theorem nomark (b : Expr) {op : CmpOp} (h : op ≠ .In := by decide) (h2 : op ≠ .NotIn := by decide) : behindInMarks op b = false := by
  have e1 : (op == CmpOp.In) = false := by cases op <;> first | rfl | exact absurd rfl h
  have e2 : (op == CmpOp.NotIn) = false := by cases op <;> first | rfl | exact absurd rfl h2
  cases b <;> simp [behindInMarks, e1, e2]
/-- a comparison as a value; hm: nomark b, or (for in, not in) by with_unfolding_all rfl -/
theorem pe_cmpR {op : CmpOp} {r : R2} (ho : OpR X (compareOp op) r) (ha : PE X a ta) (hb : PE X b tb) (hm : behindInMarks op b = false) : PE X (.Compare a [op] [b] pos) (tOp r ta tb) := by
  intro pins s σ H Q I h
  exact wpAny_Compare1 (binT ha hb I h fun v u s2 x y H2 I2 rx ry q => ho pins s2 σ H2 x y v u Q I2 rx ry q) hm
/-- a reading of a value as a test -/
def tTest (t : TE) : TT := fun σ H Q => t σ H fun x H' => ∃ k, x = .bl k ∧ Q k H'
theorem pt_cmpR {op : CmpOp} {r : R2} (ho : OpR X (compareOp op) r) (ha : PE X a ta) (hb : PE X b tb) (hm : behindInMarks op b = false) : PT X (.Compare a [op] [b] pos) (tTest (tOp r ta tb)) := by
  intro pins s σ H Q I h
  refine wpAny_isTrue_Compare1 (thn (ha pins s σ H _ I h) fun v s1 ⟨x, H1, I1, r1, q1⟩ => thn (hb pins s1 σ H1 _ I1 q1) fun u s2 ⟨y, H2, I2, r2, q2⟩ =>
    thn (ho pins s2 σ H2 x y v u _ I2 r1 r2 q2) fun c s3 ⟨z, H3, I3, r3, k, e, q3⟩ => ?_) hm
  subst e
  cases r3
  exact wpAny_truthy_bool ⟨H3, I3, q3⟩
/-- a op1 b op2 c -/
def tChain (r r' : R2) (ta tb tc : TE) : TE := fun σ H Q => ta σ H fun x H1 => tb σ H1 fun y H2 => r x y H2 fun z H3 => ∃ k, z = .bl k ∧
  (if k = true then tc σ H3 fun w' H4 => r' y w' H4 Q else Q (.bl false) H3)
theorem pe_chain {op op' : CmpOp} {r r' : R2} (ho : OpR X (compareOp op) r) (ho' : OpR X (compareOp op') r') (ha : PE X a ta) (hb : PE X b tb) (hc : PE X c tc)
    (hm : lastMarks [op, op'] [b, c] = false := by with_unfolding_all rfl) : PE X (.Compare a [op, op'] [b, c] pos) (tChain r r' ta tb tc) := by
  intro pins s σ H Q I h
  refine Compare_chain (thn (ha pins s σ H _ I h) fun v s1 ⟨x, H1, I1, r1, q1⟩ => chain_link (thn (hb pins s1 σ H1 _ I1 q1) fun u s2 ⟨y, H2, I2, r2, q2⟩ =>
    thn (ho pins s2 σ H2 x y v u _ I2 r1 r2 q2) fun d s3 ⟨z, H3, I3, r3, k, e, q3⟩ => ?_)) hm
  subst e
  cases r3
  refine wpAny_truthy_bool ?_
  cases k with
  | false => exact ite_ff ⟨.bl false, H3, I3, rfl, q3⟩
  | true => exact ite_tt (chain_last (thn (hc pins s3 σ H3 _ I3 q3) fun w' s4 ⟨z', H4, I4, r4, q4⟩ => ho' pins s4 σ H4 y z' u w' Q I4 r2 r4 q4))
/-! ### truth -/
theorem line63 : (sizeLine : Nat) < 2 ^ 63 := by rw [sizeLine_eq]; decide
/-! ### strs and bytes -/
/-! ### scalar builtins, by CallR -/
theorem vals1 {x : V} {us : List Value} (r : Vals [x] us) : ∃ u, us = [u] ∧ RelV x u := by
  cases r with
  | cons r1 r2 => cases r2; exact ⟨_, rfl, r1⟩
theorem vals2 {x y : V} {us : List Value} (r : Vals [x, y] us) : ∃ u w', us = [u, w'] ∧ RelV x u ∧ RelV y w' := by
  cases r with
  | cons r1 r2 =>
    cases r2 with
    | cons r3 r4 => cases r4; exact ⟨_, _, rfl, r1, r3⟩
theorem call_abs : CallR X (.builtin "abs") (fun xs H Q => ∃ i, xs = [.int i] ∧ Q (.int (if i < 0 then -i else i)) H) := by
  intro pins s σ H xs us Q I r h
  obtain ⟨i, rfl, q⟩ := h
  obtain ⟨u, rfl, t, rfl⟩ := vals1 r
  exact call_abs_int fun u tk => ⟨.int (if i < 0 then -i else i), H, I.tok _, ⟨_, rfl⟩, q⟩
theorem call_min2 (hc : X.calm = true) : CallR X (.builtin "min") (fun xs H Q => ∃ i j, xs = [.int i, .int j] ∧ Q (.int (if j < i then j else i)) H) := by
  intro pins s σ H xs us Q I r h
  obtain ⟨i, j, rfl, q⟩ := h
  obtain ⟨u, w', rfl, ⟨t, rfl⟩, ⟨t', rfl⟩⟩ := vals2 r
  refine min_two_ints (I.ok.hd hc) fun h' tk k => ⟨_, H, I.kept k, ?_, q⟩
  by_cases hj : j < i
  · rw [if_pos hj, if_pos hj]; exact ⟨_, rfl⟩
  · rw [if_neg hj, if_neg hj]; exact ⟨_, rfl⟩
end
end L2

namespace L2
open PySem PySem.Spec PyProof.Rows

/-! ### an instance, its attributes a map -/
structure ObjM (h : Heap) (x dx C : Addr) (mA : Str → Option Value) : Prop where
  obj : h.get? x = some (PySem.W.instObj C dx)
  ns : h.Ns1 dx mA
  ne : dx ≠ x

theorem lookIn_ns {h : Heap} {dx : Addr} {mA : Str → Option Value} (n : h.Ns1 dx mA) : ∃ od, h.get? dx = some od ∧ ∀ name, PySem.W.lookIn name od = some (mA name) := by
  obtain ⟨o, es, ep, ho, hd, hk, _, hm⟩ := n
  refine ⟨o, ho, fun name => ?_⟩
  have e := hm name
  unfold nsFind findBy at e
  rw [← Array.find?_toList] at e
  unfold PySem.W.lookIn
  rw [hd]
  dsimp only
  split
  · rename_i y q
    rw [q] at e
    exact congrArg some e
  · rename_i q
    rw [q] at e
    have a : es.toList.any (·.refKey) = false := by
      rw [List.any_eq_false]
      intro y hy
      obtain ⟨z, t, hkey⟩ := hk y (Array.mem_toList_iff.mp hy)
      simp [DictEntry.refKey, hkey]
    have a' : ¬ es.toList.any (·.refKey) = true := by rw [a]; exact Bool.false_ne_true
    rw [if_neg a']
    exact congrArg some e

theorem ObjM.look {h : Heap} {x dx C : Addr} {mA : Str → Option Value} (I : ObjM h x dx C mA) : ∃ od, PySem.W.InstAt h x (PySem.W.instObj C dx) C (some od) ∧ ∀ name, PySem.W.lookIn name od = some (mA name) :=
  let ⟨od, ho, hl⟩ := lookIn_ns I.ns
  ⟨od, ⟨I.obj, rfl, rfl, ho⟩, hl⟩

section
variable {prog : Program} {w : World} {A : Around} {E : Value → Shared → Prop} {s : Shared} {K : PySem.W.Frag} {x dx C f : Addr} {mA : Str → Option Value} {name : Str} {v : Value}

end

/-! ### the attributes as a list of pairs -/
section
variable {P : Program} {w : World} {H H' : Hp} {h h' : Heap} {a C dx : Addr} {fs fs' : List (Str × V)}
theorem ins_get (hok : HOk P w H h) (e : H a = some (.ins C dx fs)) : ∃ mA, ObjM h a dx C mA ∧ (∀ f, RelO (fs.lookup f) (mA f)) ∧ PySem.Within mA (fs.map (·.1)) ∧ fs.length ≤ 1000 ∧ H dx = some (.own a) := by
  obtain ⟨d, z, ne, ob, mA, n, r, q⟩ := (show ObjOk P w H h a (.ins C dx fs) from hok a _ e)
  exact ⟨mA, ⟨ob, n, ne⟩, r, q, z, d⟩
end

/-! ### what of the text a class must have -/
structure Cls (K : PySem.W.Frag) (C : Addr) : Prop where
  pg : PySem.W.plainGet K C Str.empty = true
  hd : PySem.W.hasDictIn K C = true
  po : PySem.W.plainOver K C = true
  sa : PySem.W.findIn K (.ref C) "__setattr__" = some (some (.builtin "object.__setattr__"))
theorem Cls.get {K : PySem.W.Frag} {C : Addr} (c : Cls K C) (f : Str) : PySem.W.plainGet K C f = true := c.pg
section
variable {X : Cx} {pins : List (Addr × Obj)} {σ : St} {H : Hp} {s : Shared} {a C dx : Addr} {fs : List (Str × V)} {f : Str} {v : V} {A : Around} {E : Value → Shared → Prop}

end

/-! ### readings and rules -/
section
variable {X : Cx} {o e value : Expr} {f : Str} {pos pos' tpos : Pos} {ta tv : TE}
end

/-! ### isinstance -/
section
variable {X : Cx} {pins : List (Addr × Obj)} {σ : St} {H : Hp} {s : Shared} {A : Around} {E : Value → Shared → Prop} {Q : Value → Shared → Prop} {c : Value} {b : Bool}
/-- the type of a value, as the fragment's deciders take it; for an instance its class -/
inductive TyOf (K : PySem.W.Frag) (H : Hp) : V → Value → Prop where
  | non : TyOf K H .non (.type "NoneType")
  | bl (x : Bool) : TyOf K H (.bl x) (.type "bool")
  | int (i : Int) : TyOf K H (.int i) (.type "int")
  | str (x : Str) : TyOf K H (.str x) (.type "str")
  | flt (x : UInt64) : TyOf K H (.flt x) (.type "float")
  | lst {a : Addr} {xs : List V} (e : H a = some (.lst xs)) : TyOf K H (.ref a) (.type "list")
  | frz {a : Addr} {o : Obj} {xs : List V} (e : H a = some (.frz o (.lst xs))) : TyOf K H (.ref a) (.type "list")
  | tup {a : Addr} {xs : List V} (e : H a = some (.tup xs)) : TyOf K H (.ref a) (.type "tuple")
  | dK {a : Addr} {kvs : List (Key × V)} (e : H a = some (.dK kvs)) : TyOf K H (.ref a) (.type "dict")
  | dT {a : Addr} {kvs : List (List Key × V)} (e : H a = some (.dT kvs)) : TyOf K H (.ref a) (.type "dict")
  | ins {a C dx : Addr} {fs : List (Str × V)} (e : H a = some (.ins C dx fs)) (cl : Cls K C) (ha : PySem.W.findIn K (.ref C) "__class__" = some (some (.builtin "object.__class__")))
      (hn : PySem.W.specialIn K (.builtin "object.__class__") "__get__" = some (some (.builtin "getset_descriptor.__get__"))) (htk : PySem.W.takesIn K (.builtin "object.__class__") = some true)
      (hm : PySem.W.mroIn K C (.type "object") = some true) : TyOf K H (.ref a) (.ref C)
/-- isinstance(x, c) for one class c, a built-in or an own one: kitOne's answer -/
theorem isinst_ok {x : V} {u t : Value} (I : Inv X pins σ H s) (rx : RelV x u) (ty : TyOf X.K H x t) (e : PySem.W.kitOne X.K t c = some b) (h : ∀ tk, Q (.bool b) { s with toks := tk }) :
    wpAny (model X.prog X.w) A (call (.builtin "isinstance") [u, c]) Q E s := by
  cases ty with
  | non => cases (show u = Value.none from rx); exact PySem.W.kia_one PySem.W.kitx_none I.kIn True.intro e (fun z => nomatch z) h
  | bl y => cases (show u = Value.bool y from rx); exact PySem.W.kia_one PySem.W.kitx_bool I.kIn True.intro e (fun z => nomatch z) h
  | int i => obtain ⟨t, q⟩ := (show ∃ t, u = Value.int i t from rx); cases q; exact PySem.W.kia_one PySem.W.kitx_int I.kIn True.intro e (fun z => nomatch z) h
  | str y => obtain ⟨t, q⟩ := (show ∃ t, u = Value.str y t from rx); cases q; exact PySem.W.kia_one PySem.W.kitx_str I.kIn True.intro e (fun z => nomatch z) h
  | flt y => obtain ⟨t, q⟩ := (show ∃ t, u = Value.float y t from rx); cases q; exact PySem.W.kia_one PySem.W.kitx_float I.kIn True.intro e (fun z => nomatch z) h
  | @lst a xs ea =>
    cases (show u = Value.ref a from rx)
    obtain ⟨_, _, n, _, h1⟩ := (show ObjOk X.prog X.w H s.heap a (.lst xs) from I.hok a _ ea)
    exact PySem.W.kia_one PySem.W.kitx_list I.kIn ⟨_, h1, rfl⟩ e (fun z => nomatch z) h
  | @frz a ob xs ea =>
    cases (show u = Value.ref a from rx)
    obtain ⟨_, _, _, n, _, h1⟩ := (show ObjOk X.prog X.w H s.heap a (.frz ob (.lst xs)) from I.hok a _ ea)
    exact PySem.W.kia_one PySem.W.kitx_list I.kIn ⟨_, h1, rfl⟩ e (fun z => nomatch z) h
  | @tup a xs ea =>
    cases (show u = Value.ref a from rx)
    obtain ⟨_, _, _, p⟩ := (show ObjOk X.prog X.w H s.heap a (.tup xs) from I.hok a _ ea)
    obtain ⟨o, h1, h2, _⟩ := p
    exact PySem.W.kia_one PySem.W.kitx_tuple I.kIn ⟨o, h1, h2⟩ e (fun z => nomatch z) h
  | @dK a kvs ea =>
    cases (show u = Value.ref a from rx)
    obtain ⟨_, _, vs, _, p⟩ := (show ObjOk X.prog X.w H s.heap a (.dK kvs) from I.hok a _ ea)
    obtain ⟨o, es, ep, h1, h2, _⟩ := p
    exact PySem.W.kia_one PySem.W.kitx_dict I.kIn ⟨o, h1, h2.1⟩ e (fun z => nomatch z) h
  | @dT a kvs ea =>
    cases (show u = Value.ref a from rx)
    obtain ⟨_, _, xs, _, o, es, ep, h1, h2, _⟩ := (show ObjOk X.prog X.w H s.heap a (.dT kvs) from I.hok a _ ea)
    exact PySem.W.kia_one PySem.W.kitx_dict I.kIn ⟨o, h1, h2.1⟩ e (fun z => nomatch z) h
  | @ins a C dx fs ea cl ha hn htk hm =>
    cases (show u = Value.ref a from rx)
    obtain ⟨mA, O, _⟩ := ins_get I.hok ea
    obtain ⟨od, J, _⟩ := O.look
    exact PySem.W.kia_one (PySem.W.kitx_own (cl.get _) cl.hd ha hn htk hm) I.kIn J e (fun z => nomatch z) h
end
end L2

namespace L2
open PySem PySem.Spec PyProof.Rows

/-! ### room -/
structure Room (k : Nat) (A : Around) : Prop where
  hd : A.handled = none
  dp : A.depth + 3 * k + 5 < recursionLimit
  un : A.units + 16 * k + 200 < cLine
theorem Room.mono {j k : Nat} {A : Around} (r : Room k A) (h : j ≤ k) : Room j A := ⟨r.hd, by have := r.dp; omega, by have := r.un; omega⟩
theorem Room.deeper {k : Nat} {A : Around} (r : Room (k + 1) A) (env : Env) : Room k (A.deeper env) :=
  ⟨r.hd, by have := r.dp; show A.depth + 1 + 3 * k + 5 < _; omega, by have := r.un; show A.units + 3 + 16 * k + 200 < _; omega⟩
theorem Room.depth {k : Nat} {A : Around} (r : Room k A) : A.depth < recursionLimit := by have := r.dp; omega
theorem Room.units0 {k : Nat} {A : Around} (r : Room k A) : A.units < cLine := by have := r.un; omega

/-! ### argument lists and displays -/
def tNil : TA := fun _ H Q => Q [] H
def tCons (ta : TE) (tr : TA) : TA := fun σ H Q => ta σ H fun x H1 => tr σ H1 fun xs H2 => Q (x :: xs) H2
section
variable {X : Cx} {e : Expr} {es : List Expr} {te : TE} {t : TA} {pos : Pos}
theorem pa_nil : PA X [] tNil := fun _ _ _ _ H Q I h => Calls.spliced_nil ⟨[], H, I, .nil, h⟩
theorem pa_cons (ha : PE X e te) (hr : PA X es t) (hs : starEach (e :: es) X.env = (false, eval e X.env) :: starEach es X.env := by rfl) : PA X (e :: es) (tCons te t) := by
  intro pos pins s σ H Q I h
  rw [hs]
  show wpAny _ _ (spliced ((false, eval e X.env) :: backTo pos (starEach es X.env))) _ _ s
  refine Calls.spliced_cons (thn (ha pins s σ H _ I h) fun u s1 ⟨x, H1, I1, r1, q1⟩ => ?_)
  exact thn (hr pos pins s1 σ H1 _ I1 q1) fun us s2 ⟨xs, H2, I2, r2, q2⟩ => ⟨x :: xs, H2, I2, .cons r1 r2, q2⟩

/-- a tuple, a list of written items -/
def tTup (t : TA) : TE := fun σ H Q => t σ H fun xs H1 => xs.length ≤ sizeLine ∧ ∀ p, H1 p = none → Q (.ref p) (upd H1 p (.tup xs))
def tLst (t : TA) : TE := fun σ H Q => t σ H fun xs H1 => xs.length ≤ sizeLine ∧ ∀ p, H1 p = none → Q (.ref p) (upd H1 p (.lst xs))
theorem pe_tup {x1} (h : PA X es t) : PE X (.Tuple es x1 pos) (tTup t) := by
  intro pins s σ H Q I hq
  refine wpAny_Tuple_spliced (thn (h pos pins s σ H _ I hq) fun us s1 ⟨xs, H1, I1, r, z, q⟩ => ⟨by rw [← r.length]; exact z, ?_⟩)
  have hf : H1 s1.heap.objs.size = none := I1.hok.fresh (Nat.le_refl _)
  refine ⟨.ref s1.heap.objs.size, upd H1 s1.heap.objs.size (.tup xs), I1.laid (t' := s1.toks) (fun b u e => Heap.get?_push_of_some _ e) (Nat.le_refl _) ?_, rfl, q _ hf⟩
  exact ⟨z, us, r, ⟨_, Heap.get?_push_size _ rfl, rfl, _, rfl⟩⟩
theorem pe_lst (h : PA X es t) : PE X (.List es pos) (tLst t) := by
  intro pins s σ H Q I hq
  refine wpAny_List_spliced (thn (h pos pins s σ H _ I hq) fun us s1 ⟨xs, H1, I1, r, z, q⟩ => ⟨by rw [← r.length]; exact z, ?_⟩)
  have hf : H1 s1.heap.objs.size = none := I1.hok.fresh (Nat.le_refl _)
  refine ⟨.ref s1.heap.objs.size, upd H1 s1.heap.objs.size (.lst xs), I1.laid (t' := s1.toks) (fun b u e => Heap.get?_push_of_some _ e) (Nat.le_refl _) ?_, rfl, q _ hf⟩
  exact ⟨z, us, 0, r, Heap.get?_push_size _ rfl⟩
end

/-! ### what a def promises -/
/-- a def's promise: the bound arguments in the parameters' order, the heap, the wanted end, the wanted exception -/
abbrev Sp := List V → Hp → VK → XK → Prop
/-- how an exception lies behind a call (file 08 gives it): the callers' frames, abstract heap and state ahead of the call, the wish, the exception, the state -/
abbrev CXT := List Env → Hp → Shared → XK → Value → Shared → Prop

/-- the state at a call -/
structure Env0 (P : Program) (w : World) (K : PySem.W.Frag) (mg : Str → Option Value) (base : Heap) (A : Around) (outer : List Env) (s : Shared) (H : Hp) : Prop where
  frames : A.frames = some outer
  mod : Mod K mg base
  bs : ∀ b o, base.get? b = some o → s.heap.get? b = some o ∧ H b = none
  bsz : base.objs.size ≤ s.heap.objs.size
  funs : s.heap.FunFrames base outer
  frf : ∀ b ∈ frs outer, H b = none
  hok : HOk P w H s.heap
  bare : AllBare s.gens
/-- a call's end -/
def CE (outer : List Env) (P : Program) (w : World) (H : Hp) (s : Shared) (Q : VK) (u : Value) (s' : Shared) : Prop :=
  ∃ v H', s'.os = s.os ∧ AllBare s'.gens ∧ Un (frs outer) [] H H' s.heap s'.heap ∧ HOk P w H' s'.heap ∧ RelV v u ∧ Q v H'
def CR (CX : CXT) (outer : List Env) (P : Program) (w : World) (H : Hp) (s : Shared) (Q : VK) (E : XK) (r : Result) (s' : Shared) : Prop :=
  match r with
  | .ok (.ret u) => CE outer P w H s Q u s'
  | .ok _ => False
  | .error e => CX outer H s E e s'
structure FnOk (P : Program) (w : World) (K : PySem.W.Frag) (mg : Str → Option Value) (base : Heap) (CX : CXT) (k : Nat) (f : Addr) (fd : FuncData) (ps : List Str) (sp : Sp) : Prop where
  len : ∀ vs H Q E, sp vs H Q E → vs.length = ps.length
  run : ∀ (A : Around) (outer : List Env) (s : Shared) (H : Hp) (args : Args) (us : List Value) (vs : List V) (Q : VK) (E : XK), Room k A → Env0 P w K mg base A outer s H → BindsTo s fd args (ps.zip us) → Vals vs us → sp vs H Q E →
    codeAny (model P w) A (.call (.ref f) args) (CR CX outer P w H s Q E) s
section
variable {X : Cx} {pins : List (Addr × Obj)} {σ : St} {H : Hp} {s s' : Shared}
/-- from a body: what a callee wants -/
theorem Inv.env0 (I : Inv X pins σ H s) : Env0 X.prog X.w X.K X.mg X.base X.A X.stack s H :=
  ⟨I.ok.frames, I.ok.mod, I.bs, Nat.le_trans I.ok.bsz I.sz, I.stack, I.stkFree, I.hok, I.bare⟩
/-- behind a call -/
theorem Inv.after {Q : VK} {u : Value} (I : Inv X pins σ H s) (h : CE X.stack X.prog X.w H s Q u s') : EP X pins σ Q u s' := by
  obtain ⟨v, H', os, bare, un, hok, r, q⟩ := h
  obtain ⟨hh, g, d, t, os'⟩ := s'
  obtain rfl : os' = s.os := os
  exact ⟨v, H', I.call (h' := hh) (g' := g) (d' := d) (t' := t) (ch := []) un hok bare (fun b z => absurd z (by simp)), r, q⟩
end

/-! ### calls -/
/-- f(..): the written arguments, then the defaults dvs; E: what is wanted of an exception -/
def tCall (sp : Sp) (dvs : List V) (E : XK) (t : TA) : TE := fun σ H Q => t σ H fun vs H1 => sp (vs ++ dvs) H1 Q E
/-- how the parameters are bound: us the positional arguments, kw the keywords' values by name, ds the defaults that fill up -/
def Binds (K : PySem.W.Frag) (fd : FuncData) (ps : List Str) (ds : List Value) : Prop :=
  ∀ (s : Shared) (us : List Value), K.In s.heap → (us ++ ds).length = ps.length → BindsTo s fd ⟨us, []⟩ (ps.zip (us ++ ds))
/-- every parameter is given -/
theorem Binds.all {K : PySem.W.Frag} {fd : FuncData} {ps : List Str} (h : ∀ us : List Value, us.length = ps.length → bindArgs fd ⟨us, []⟩ = pure (ps.zip us)) : Binds K fd ps [] := fun s us _ hl => by
  rw [List.append_nil] at hl ⊢
  exact .of_eq (h us hl)

/-- an exception of a callee reaches what this body wants of exceptions -/
def Passes (CX : CXT) (X : Cx) (E : XK) : Prop := ∀ (pins : List (Addr × Obj)) (σ : St) (H : Hp) (s : Shared) (e : Value) (s' : Shared), Inv X pins σ H s → CX X.stack H s E e s' → X.xe e s'

section
variable {X : Cx} {CX : CXT} {k : Nat} {f C : Addr} {fd : FuncData} {ps : List Str} {sp : Sp} {dvs : List V} {ds : List Value} {E : XK} {x m : Str} {p pos apos : Pos} {e o : Expr} {es : List Expr} {ta : TE} {t : TA}

/-- the callee runs -/
theorem run_fn {pins : List (Addr × Obj)} {σ : St} {H : Hp} {s : Shared} {Q : VK} {us : List Value} {vs : List V} (F : FnOk X.prog X.w X.K X.mg X.base CX k f fd ps sp) (hr : Room k X.A) (hb : Binds X.K fd ps ds) (hd : Vals dvs ds) (hx : Passes CX X E)
    (I : Inv X pins σ H s) (r : Vals vs us) (h : sp (vs ++ dvs) H Q E) : wpAny (model X.prog X.w) X.A (call (.ref f) us) (EP X pins σ Q) X.xe s := by
  have r2 : Vals (vs ++ dvs) (us ++ ds) := r.append hd
  have hl : (us ++ ds).length = ps.length := by rw [← r2.length]; exact F.len _ _ _ _ h
  refine wpAny_call (codeAny_mono (F.run X.A X.stack s H ⟨us, []⟩ (us ++ ds) (vs ++ dvs) Q E hr I.env0 (hb s us I.kIn hl) r2 h) fun r s' hq => ?_)
  cases r with
  | error e => exact hx pins σ H s e s' I hq
  | ok fl =>
    cases fl with
    | ret u => exact I.after hq
    | next => exact False.elim hq
    | brk => exact False.elim hq
    | cont => exact False.elim hq

theorem pe_call (F : FnOk X.prog X.w X.K X.mg X.base CX k f fd ps sp) (hr : Room k X.A) (hg : Gl X x) (hm : X.mg x = some (.ref f)) (hk : PySem.W.keepIn X.K (.ref f) = true) (hb : Binds X.K fd ps ds) (hd : Vals dvs ds) (hx : Passes CX X E)
    (ha : PA X (e :: es) t) (hdb : (x == ("__debug__" : Str)) = false := by decide) (he : starEach (e :: es) X.env = (false, eval e X.env) :: starEach es X.env := by rfl) (hpl : (backTo pos (starEach es X.env)).any (·.1) = false := by rfl) :
    PE X (.Call (.Name x p) (e :: es) [] pos) (tCall sp dvs E t) := by
  intro pins s σ H Q I h
  refine wpAny_Call_Name_kw (ld_glob I hg hm ?_ hdb)
  refine PySem.W.callWith_K (h₀ := X.base) I.ok.mod.kin hk (thn (ha pos pins s σ H _ I h) fun us s1 ⟨vs, H1, I1, r, q⟩ => ⟨I1.kIn, ?_⟩) he hpl
  exact run_fn F hr hb hd hx I1 r q
end

/-! ### keywords -/
section
variable {X : Cx} {CX : CXT} {k : Nat} {f C : Addr} {fd : FuncData} {ps ks : List Str} {sp : Sp} {E : XK} {x m : Str} {p pos apos kpos : Pos} {e o : Expr} {es : List Expr} {kws : List Keyword} {te ta : TE} {t tk : TA} {nm : Option Str}
variable {g : List Value → List Value → List Value} {gV : List V → List V → List V}
end

/-! ### a def's body keeps its promise -/
/-- names: the parameters first -/
structure FnScope (N P : List Str) (sc : Scope) : Prop where
  kind : sc.kind = .function
  co : sc.isCoroutine = false
  gen : sc.isGenerator = false
  nd : N.Nodup
  pre : N.take P.length = P
  par : ∀ x ∈ P, sc.names.lookup x = some .local ∨ sc.names.lookup x = some .cell
  nofree : ∀ y ∈ sc.names, y.2 ≠ .free

theorem bindL_out {kindOf : Str → Option NameKind} {x : Str} : ∀ {binds : List (Str × Value)} {m : Str → Option Value}, (∀ v, (x, v) ∉ binds) → bindL kindOf binds m x = m x
  | [], _, _ => rfl
  | (n, v) :: r, m, h => by
    unfold bindL
    rw [bindL_out fun w hw => h w (List.mem_cons_of_mem _ hw)]
    split
    · have : x ≠ n := by rintro rfl; exact h v List.mem_cons_self
      simp [this]
    · rfl
theorem bindC_out {kindOf : Str → Option NameKind} {x : Str} : ∀ {binds : List (Str × Value)} {m : Str → Option Value}, (∀ v, (x, v) ∉ binds) → bindC kindOf binds m x = m x
  | [], _, _ => rfl
  | (n, v) :: r, m, h => by
    unfold bindC
    rw [bindC_out fun w hw => h w (List.mem_cons_of_mem _ hw)]
    split
    · rfl
    · have : x ≠ n := by rintro rfl; exact h v List.mem_cons_self
      simp [this]
theorem bindL_get {kindOf : Str → Option NameKind} {x : Str} {v : Value} : ∀ {P : List Str} {vs : List Value} {i : Nat} {m : Str → Option Value}, P.Nodup → P[i]? = some x → vs[i]? = some v → kindOf x = some .local →
    bindL kindOf (P.zip vs) m x = some v
  | [], _, _, _, _, h, _, _ => by simp at h
  | _ :: _, [], _, _, _, _, h, _ => by simp at h
  | p :: P, w :: vs, 0, m, nd, h1, h2, hk => by
    simp at h1 h2; subst h1; subst h2
    show bindL kindOf ((p, w) :: P.zip vs) m p = _
    unfold bindL
    rw [bindL_out fun v hv => (List.nodup_cons.mp nd).1 (List.of_mem_zip hv).1, if_pos hk]
    simp
  | p :: P, w :: vs, i + 1, m, nd, h1, h2, hk => by
    show bindL kindOf ((p, w) :: P.zip vs) m x = _
    unfold bindL
    exact bindL_get (i := i) (List.nodup_cons.mp nd).2 (by simpa using h1) (by simpa using h2) hk
theorem bindC_get {kindOf : Str → Option NameKind} {x : Str} {v : Value} : ∀ {P : List Str} {vs : List Value} {i : Nat} {m : Str → Option Value}, P.Nodup → P[i]? = some x → vs[i]? = some v → kindOf x ≠ some .local →
    bindC kindOf (P.zip vs) m x = some v
  | [], _, _, _, _, h, _, _ => by simp at h
  | _ :: _, [], _, _, _, _, h, _ => by simp at h
  | p :: P, w :: vs, 0, m, nd, h1, h2, hk => by
    simp at h1 h2; subst h1; subst h2
    show bindC kindOf ((p, w) :: P.zip vs) m p = _
    unfold bindC
    rw [bindC_out fun v hv => (List.nodup_cons.mp nd).1 (List.of_mem_zip hv).1, if_neg hk]
    simp
  | p :: P, w :: vs, i + 1, m, nd, h1, h2, hk => by
    show bindC kindOf ((p, w) :: P.zip vs) m x = _
    unfold bindC
    exact bindC_get (i := i) (List.nodup_cons.mp nd).2 (by simpa using h1) (by simpa using h2) hk

/-- the names' values at the entry -/
def start (N : List Str) (vs : List V) : St := vs.map some ++ List.replicate (N.length - vs.length) none

/-- the context of a def's body, at its entry; an exception leaves the frame, then lies as CX says -/
def cxOf (CX : CXT) (P : Program) (w : World) (K : PySem.W.Frag) (mg : Str → Option Value) (base : Heap) (N : List Str) (qual : Str) (scope : Scope) (f : Addr) (cd : Value) (A : Around) (outer : List Env) (s : Shared) (H : Hp) (E : XK) : Cx where
  prog := P
  w := w
  K := K
  mg := mg
  base := base
  A := A.deeper (envOfC qual scope s.heap.objs.size f cd)
  N := N
  s₀ := s
  H₀ := H
  env := envOfC qual scope s.heap.objs.size f cd
  outer := outer
  stack := envOfC qual scope s.heap.objs.size f cd :: outer
  ex := []
  calm := true
  fn := fun _ => true
  pn := []
  xe := fun e s' => wpAny (model P w) (A.deeper (envOfC qual scope s.heap.objs.size f cd)) (leaving (envOfC qual scope s.heap.objs.size f cd) e) (fun _ s'' => CX outer H s E e s'') (fun e' s'' => CX outer H s E e' s'') s'

theorem cell_has {sc : Scope} {n : Nat} {x : Str} (h : sc.names.lookup x = some .cell) : ∃ c, (cellsFrom n sc.names []).lookup x = some c := by
  have q := PySem.W.cellsFrom_some sc.names n [] (.inl h)
  exact Option.isSome_iff_exists.mp q

theorem inv_start {CX : CXT} {P : Program} {w : World} {K : PySem.W.Frag} {mg : Str → Option Value} {base : Heap} {N ps : List Str} {qual : Str} {scope : Scope} {f : Addr} {cd : Value} {A : Around} {outer : List Env} {s s1 : Shared} {H : Hp} {E : XK} {us : List Value} {vs : List V}
    (S : FnScope N ps scope) (hd : A.handled = none) (e0 : Env0 P w K mg base A outer s H) (hl : vs.length = ps.length) (r : Vals vs us)
    (x : InCallC s s.heap.objs.size (bindL (envOfC qual scope s.heap.objs.size f cd).kindOf (ps.zip us) fun _ => none) (cellsFrom (s.heap.objs.size + 1) scope.names []) (bindC (envOfC qual scope s.heap.objs.size f cd).kindOf (ps.zip us) fun _ => none) s1) :
    Inv (cxOf CX P w K mg base N qual scope f cd A outer s H E) [] (start N vs) H s1 := by
  have hpl : ps.length ≤ N.length := by have := congrArg List.length S.pre; rw [List.length_take] at this; omega
  obtain ⟨h1, tk, rfl, hk⟩ := x.done
  have noA : ∀ b : Addr, b ∉ (cxOf CX P w K mg base N qual scope f cd A outer s H E).ex := fun b z => absurd (show b ∈ ([] : List Addr) from z) (by simp)
  refine ⟨⟨e0.mod, S.kind, rfl, rfl, Nat.le_refl _, fun y z c h1 h2 => ?_, fun y hy => ?_, fun y c _ h => ?_, fun _ => hd, Around.frames_deeper e0.frames, .inr ⟨rfl, rfl⟩, fun b z => absurd z (noA b), e0.bs, e0.bsz, fun b _ _ => noA b, fun b z => absurd z (noA b), e0.funs, e0.frf⟩,
    rfl, e0.bare, Un.kept hk, ⟨_, x.toInCall.ns, fun i y v h1 h2 h3 => ?_⟩, fun y c h => ⟨_, x.cell y c h⟩, e0.hok.fresh (Nat.le_refl _), fun y c h => ?_, fun p hp => absurd (show p ∈ ([] : List (Addr × Obj)) from hp) (by simp), e0.hok.kept hk, ?_⟩
  · exact name_of_addr x.apart (PySem.mem_of_lookup h1) (PySem.mem_of_lookup h2)
  · have hy : scope.names.lookup y = some .cell ∨ scope.names.lookup y = some .free := hy
    rcases hy with hy | hy
    · exact cell_has hy
    · exact absurd rfl (S.nofree _ (PySem.mem_of_lookup hy))
  · exact Nat.le_of_lt (x.above y c (PySem.mem_of_lookup h))
  · have hi : i < vs.length := by
      unfold start at h2
      by_cases hi : i < vs.length
      · exact hi
      · rw [List.getElem?_append_right (by simpa using hi)] at h2
        rw [List.getElem?_replicate] at h2
        split at h2 <;> cases h2
    have ha : vs[i]? = some v := by
      unfold start at h2
      rw [List.getElem?_append_left (by simpa using hi), List.getElem?_map] at h2
      cases e : vs[i]? with
      | none => rw [e] at h2; cases h2
      | some a => rw [e] at h2; cases h2; rfl
    obtain ⟨u, hu, rv⟩ := r.get ha
    have hp : ps[i]? = some y := by
      rw [← S.pre, List.getElem?_take_of_lt (by omega)]; exact h1
    have ndP : ps.Nodup := by rw [← S.pre]; exact S.nd.sublist (List.take_sublist _ _)
    refine ⟨u, rv, ?_⟩
    rcases S.par y (List.mem_of_getElem? hp) with k | k
    · exact .inl ⟨k, bindL_get ndP hp hu k⟩
    · obtain ⟨c, e⟩ := cell_has (n := s.heap.objs.size + 1) k
      refine .inr ⟨.inl k, c, e, ?_⟩
      have q := x.cell y c e
      rw [bindC_get ndP hp hu (by show scope.names.lookup y ≠ _; rw [k]; decide)] at q
      exact q
  · exact e0.hok.fresh (Nat.le_of_lt (x.above y c (PySem.mem_of_lookup h)))
  · unfold start
    show _ = N.length
    rw [List.length_append, List.length_map, List.length_replicate]
    omega

/-- THE RULE: a def (or a method) of the text, by its body. The body's reading t is chosen for each entry; it is run at the parameters' values -/
theorem fn_of {CX : CXT} {P : Program} {w : World} {K : PySem.W.Frag} {mg : Str → Option Value} {base : Heap} {k : Nat} {f : Addr} {name qual : Str} {params : Arguments} {body : List Stmt} {scope : Scope} {dV kV doc pm cdv ct oc : Value} {an od : Option Addr}
    {osl : Array (Option Value)} {N ps : List Str} {sp : Sp} (lk : K.lookup f = some ⟨oc, od, .func (PySem.W.fnOf name qual params body scope dV kV doc pm an cdv ct), osl⟩) (hcd : PySem.W.codeIn K cdv qual = true) (S : FnScope N ps scope)
    (len : ∀ vs H Q E, sp vs H Q E → vs.length = ps.length)
    (hbody : ∀ (A : Around) (outer : List Env) (s : Shared) (H : Hp) (vs : List V) (Q : VK) (E : XK), Room k (A.deeper (envOfC qual scope s.heap.objs.size f cdv)) → sp vs H Q E →
      ∃ t, PSs (cxOf CX P w K mg base N qual scope f cdv A outer s H E) body t ∧ t { nx := fun _ H' => Q .non H', rt := Q } (start N vs) H) :
    FnOk P w K mg base CX (k + 1) f (PySem.W.fnOf name qual params body scope dV kV doc pm an cdv ct) ps sp := by
  refine ⟨len, fun A outer s H args us vs Q E hr e0 hb r hsp => ?_⟩
  have hl := len _ _ _ _ hsp
  have KX : K.In s.heap := e0.mod.kin.keeps fun b o e => (e0.bs b o e).1
  have lim : s.heap.NoLimit := e0.mod.nolimit.keeps fun b o e => (e0.bs b o e).1
  have hkind : ∀ y ∈ ps.zip us, scope.names.lookup y.1 = some .local ∨ (scope.names.lookup y.1 = some .cell ∧ ((cellsFrom (s.heap.objs.size + 1) scope.names []).lookup y.1).isSome = true) := fun ⟨n, v⟩ hy => by
    rcases S.par n (List.of_mem_zip hy).1 with q | q
    · exact .inl q
    · exact .inr ⟨q, PySem.W.cellsFrom_some _ _ _ (.inl q)⟩
  refine codeAny_call_function hr.depth (KX _ _ lk) rfl S.co S.gen rfl (PySem.W.codeRec_of KX hcd) (hb _ _ _ _ ?_)
  refine wpAny_newFunctionEnv_cells S.kind hkind fun env he s1 x => ?_
  subst he
  refine ⟨lim.keeps x.toInCall.keep, codeAny_func ?_⟩
  obtain ⟨t, ht, hq⟩ := hbody A outer s H vs Q E (hr.deeper _) hsp
  have I : Inv (cxOf CX P w K mg base N qual scope f cdv A outer s H E) [] (start N vs) H s1 := inv_start S hr.hd e0 hl r x
  refine wpAny_mono (ht [] s1 (start N vs) H _ I hq) (fun fl s' hs => ?_) fun e s' hs => hs
  have fin : ∀ {σ' : St} {H' : Hp} {v : V} {u : Value}, Inv (cxOf CX P w K mg base N qual scope f cdv A outer s H E) [] σ' H' s' → RelV v u → Q v H' → CE outer P w H s Q u s' :=
    fun {σ' H' v u} J rv q => ⟨v, H', J.os, J.bare, J.base, J.hok, rv, q⟩
  cases fl with
  | ret u =>
    obtain ⟨v, σ', H', J, rv, q⟩ := hs
    exact fin J rv q
  | next =>
    obtain ⟨σ', H', J, q⟩ := hs
    exact fin (v := V.non) (u := Value.none) J rfl q
  | brk =>
    obtain ⟨_, _, _, q⟩ := hs
    exact False.elim q
  | cont =>
    obtain ⟨_, _, _, q⟩ := hs
    exact False.elim q
end L2

namespace L2
open PySem PySem.Spec PyProof.Rows
section
variable {X : Cx} {x : Str} {p pos : Pos} {e : Expr} {es : List Expr} {t : TA} {id T : String} {r : List V → Hp → VK → Prop}

def tCB (r : List V → Hp → VK → Prop) (t : TA) : TE := fun σ H Q => t σ H fun vs H1 => r vs H1 Q
/-- f(e, ..), f a built-in function -/
theorem pe_callB (hc : CallR X (.builtin id) r) (hg : Gl X x) (hm : X.mg x = none) (hv : bootBuiltins x = some (.builtin id)) (ha : PA X (e :: es) t) (hn : x ≠ "__name__" := by decide) (hdb : (x == ("__debug__" : Str)) = false := by decide)
    (he : starEach (e :: es) X.env = (false, eval e X.env) :: starEach es X.env := by rfl) (hpl : (backTo pos (starEach es X.env)).any (·.1) = false := by rfl) : PE X (.Call (.Name x p) (e :: es) [] pos) (tCB r t) := by
  intro pins s σ H Q I h
  refine wpAny_Call_Name_kw (ld_blt I hg hm hv ?_ hn hdb)
  exact PyProof.Rows.callWith_builtin1 (thn (ha pos pins s σ H _ I h) fun us s1 ⟨vs, H1, I1, r1, q1⟩ => hc pins s1 σ H1 vs us Q I1 r1 q1) he hpl
end
end L2

namespace HT
open PySem PyProof.Rows

section
open PySem.SeqAt
open PySem.AutoSeq1 (wpAny_loadPart')
open PySem.MeetsSeq PySem.MeetsSeq2 PySem.MeetsSeq3

end

section
variable {prog : Program} {w : World} {A : Around} {E : Value → Shared → Prop} {s : Shared}

/-! ### t[a:b], not the whole -/
/-- a slice's bound as a place among n (d where it is left out) -/
def sIx (n d : Nat) : Option Int → Nat
  | none => d
  | some v => if v < 0 then (v + (n : Int)).toNat else min v.toNat n
theorem sIx_none (n d : Nat) : sIx n d none = d := rfl
theorem sIx_nat (n d k : Nat) : sIx n d (some (k : Int)) = min k n := by
  show (if (k : Int) < 0 then ((k : Int) + (n : Int)).toNat else min (k : Int).toNat n) = min k n
  rw [if_neg (by omega), Int.toNat_natCast]
end
end HT

namespace L2
open PySem PySem.Spec PyProof.Rows

/-! ### the parts of a slice -/
abbrev TO := St → Hp → (Option Int → Hp → Prop) → Prop
/-- a slice's part (left out, or an int) -/
def PO (X : Cx) (e : Option Expr) (t : TO) : Prop :=
  ∀ (pins : List (Addr × Obj)) (s : Shared) (σ : St) (H : Hp) (Q : Option Int → Hp → Prop), Inv X pins σ H s → t σ H Q →
    wpAny (model X.prog X.w) X.A (evalPart e X.env) (fun u s' => ∃ o H', Inv X pins σ H' s' ∧ IsPart u o ∧ Q o H') X.xe s
def tNoPart : TO := fun _ H Q => Q none H
def tPart (t : TE) : TO := fun σ H Q => t σ H fun x H1 => ∃ i, x = .int i ∧ Q (some i) H1

section
variable {X : Cx} {e : Expr} {te : TE} {lo hi : Option Expr} {tl th : TO} {pos p2 : Pos}

theorem po_none : PO X none tNoPart := by
  intro pins s σ H Q I h
  rw [evalPart_none]
  exact wpAny_pure ⟨none, H, I, .none, h⟩
theorem po_some (h : PE X e te) : PO X (some e) (tPart te) := by
  intro pins s σ H Q I hw
  rw [evalPart_some]
  refine thn (h pins s σ H _ I hw) fun u s1 ⟨x, H1, I1, r1, q1⟩ => ?_
  obtain ⟨i, rfl, q⟩ := q1
  obtain ⟨t, rfl⟩ := r1
  exact ⟨some i, H1, I1, .int i t, q⟩

/-- what a slice of a value is, by values: the slice object stands at sl -/
def SlR (X : Cx) (r : V → Option Int → Option Int → Hp → VK → Prop) : Prop :=
  ∀ (pins : List (Addr × Obj)) (s : Shared) (σ : St) (H : Hp) (x : V) (v vl vu : Value) (lo hi : Option Int) (sl : Addr) (Q : VK), Inv X pins σ H s → RelV x v → s.heap.IsSliceOf sl vl vu .none → IsPart vl lo → IsPart vu hi → r x lo hi H Q →
    ∃ T id, typeLookup (.type T) "__getitem__" = pure (some (.builtin id)) ∧ s.TypeIs v T ∧ wpAny (model X.prog X.w) X.A (getItem v (.ref sl)) (EP X pins σ Q) X.xe s
def tSl (r : V → Option Int → Option Int → Hp → VK → Prop) (te : TE) (tl th : TO) : TE := fun σ H Q => te σ H fun x H1 => tl σ H1 fun l H2 => th σ H2 fun u H3 => r x l u H3 Q
/-- a[lo:hi], any a -/
theorem pe_slice {r : V → Option Int → Option Int → Hp → VK → Prop} (hr : SlR X r) (he : PE X e te) (hl : PO X lo tl) (hu : PO X hi th) : PE X (.Subscript e (.Slice lo hi none p2) pos) (tSl r te tl th) := by
  intro pins s σ H Q I h
  refine Subscript_ (thn (he pins s σ H _ I h) fun v s1 ⟨x, H1, I1, r1, q1⟩ => ?_)
  refine wpAny_Slice (thn (hl pins s1 σ H1 _ I1 q1) fun vl s2 ⟨l, H2, I2, pl, q2⟩ => thn (hu pins s2 σ H2 _ I2 q2) fun vu s3 ⟨u, H3, I3, pu, q3⟩ => ?_)
  rw [evalPart_none]
  refine wpAny_pure ?_
  have I4 : Inv X pins σ H3 { s3 with heap := s3.heap.push { cls := .type "slice", data := .fields #[vl, vu, .none] } } := I3.kept (t' := s3.toks) fun b ob q => Heap.get?_push_of_some _ q
  obtain ⟨T, id, hT, ht, hg⟩ := hr pins { s3 with heap := s3.heap.push { cls := .type "slice", data := .fields #[vl, vu, .none] } } σ H3 x v vl vu l u s3.heap.objs.size Q I4 r1 (Heap.IsSliceOf.new ..) pl pu q3
  show wpAny (model X.prog X.w) X.A (subscriptTail e (.Slice lo hi none p2) v (.ref s3.heap.objs.size)) (EP X pins σ Q) X.xe { s3 with heap := s3.heap.push { cls := .type "slice", data := .fields #[vl, vu, .none] } }
  exact tail_any (ops := [.ref s3.heap.objs.size, v]) ht hT hg (by with_unfolding_all rfl)

/-- the items of xs[lo:hi] -/
def cutV (xs : List V) (lo hi : Option Int) : List V := (xs.drop (HT.sIx xs.length 0 lo)).take (HT.sIx xs.length xs.length hi - HT.sIx xs.length 0 lo)
theorem cutV_length (xs : List V) (lo hi : Option Int) : (cutV xs lo hi).length ≤ xs.length := by
  unfold cutV
  rw [List.length_take, List.length_drop]
  omega
/-! ### t < u, t + u -/
end
end L2

namespace L2
open PySem PySem.Spec PyProof.Rows

/-! ### places -/
/-- the place that an index of any sign means -/
def ixN (n : Nat) (i : Int) : Option Nat := if 0 ≤ i then (if i < n then some i.toNat else none) else if -(n : Int) ≤ i then some (i + n).toNat else none
def atI {α : Type} (xs : List α) (i : Int) : Option α := (ixN xs.length i).bind fun j => xs[j]?
theorem ixN_seq {n : Nat} {i : Int} {j : Nat} (h : ixN n i = some j) : seqIndex? i n = some j ∧ j < n ∧ -(n : Int) ≤ i ∧ i < n := by
  unfold ixN at h
  by_cases h0 : 0 ≤ i
  · rw [if_pos h0] at h
    by_cases h1 : i < n
    · rw [if_pos h1] at h
      have e : i.toNat = j := Option.some.inj h
      exact ⟨by rw [seqIndex_of h0 h1, e], by omega, by omega, h1⟩
    · rw [if_neg h1] at h; cases h
  · rw [if_neg h0] at h
    by_cases h1 : -(n : Int) ≤ i
    · rw [if_pos h1] at h
      have e : (i + n).toNat = j := Option.some.inj h
      exact ⟨by rw [seqIndex_neg (by omega) h1, e], by omega, h1, by omega⟩
    · rw [if_neg h1] at h; cases h
theorem atI_get {α : Type} {xs : List α} {i : Int} {v : α} (h : atI xs i = some v) : ∃ j, seqIndex? i xs.length = some j ∧ xs[j]? = some v ∧ j < xs.length ∧ -(xs.length : Int) ≤ i ∧ i < xs.length := by
  unfold atI at h
  cases e : ixN xs.length i with
  | none => rw [e] at h; cases h
  | some j =>
    rw [e] at h
    obtain ⟨h1, h2, h3, h4⟩ := ixN_seq e
    exact ⟨j, h1, h, h2, h3, h4⟩
theorem atI_nat {α : Type} {xs : List α} {j : Nat} {v : α} (h : xs[j]? = some v) : atI xs (j : Int) = some v := by
  have hj : j < xs.length := (List.getElem?_eq_some_iff.mp h).1
  have e : ixN xs.length (j : Int) = some j := by
    unfold ixN
    rw [if_pos (by omega), if_pos (by omega)]; simp
  unfold atI; rw [e]; exact h
/-! ### what may be subscripted -/
/-- what stands as an index of a plain subscript -/
def PlainIx (b : Expr) : Prop := ∀ o i, subscripted b false o i = operate [o, i] (getItem o i)
/-- a subscript by values -/
def IxR (X : Cx) (r : R2) : Prop :=
  ∀ (value slice : Expr) (pins : List (Addr × Obj)) (s : Shared) (σ : St) (H : Hp) (x y : V) (v u : Value) (Q : VK), Inv X pins σ H s → RelV x v → RelV y u → r x y H Q →
    subscripted slice false v u = operate [v, u] (getItem v u) → wpAny (model X.prog X.w) X.A (subscriptTail value slice v u) (EP X pins σ Q) X.xe s
/-- a call of a builtin's method by values: the receiver, the arguments -/
def MtR (X : Cx) (id : String) (r : V → List V → Hp → VK → Prop) : Prop :=
  ∀ (pins : List (Addr × Obj)) (s : Shared) (σ : St) (H : Hp) (x : V) (xs : List V) (v : Value) (us : List Value) (Q : VK), Inv X pins σ H s → RelV x v → Vals xs us → r x xs H Q →
    wpAny (model X.prog X.w) X.A (call (.builtin id) (v :: us)) (EP X pins σ Q) X.xe s
section
variable {X : Cx} {a b : Expr} {ta tb : TE} {pos : Pos}
/-- a[b] -/
theorem pe_ix {r : R2} (hr : IxR X r) (ha : PE X a ta) (hb : PE X b tb) (hs : PlainIx b) : PE X (.Subscript a b pos) (tOp r ta tb) := by
  intro pins s σ H Q I h
  exact Subscript_ (binT ha hb I h fun v u s2 x y H2 I2 rx ry q => hr a b pins s2 σ H2 x y v u Q I2 rx ry q (hs _ _))

def rIxL (K : PySem.W.Frag) : R2 := fun x y H Q => ∃ p xs i v, x = .ref p ∧ y = .int i ∧ SqL K H p xs ∧ atI xs i = some v ∧ Q v H
def rIxT (K : PySem.W.Frag) : R2 := fun x y H Q => ∃ p xs i v, x = .ref p ∧ y = .int i ∧ SqT K H p xs ∧ atI xs i = some v ∧ Q v H
theorem ix_list : IxR X (rIxL X.K) := by
  intro value slice pins s σ H x y v u Q I rx ry h hs
  obtain ⟨p, xs, i, z, rfl, rfl, hq, he, q⟩ := h
  cases rx
  obtain ⟨t, rfl⟩ := ry
  obtain ⟨its, r, pl, hz⟩ := I.list hq
  obtain ⟨j, h1, h2, h3, h4, h5⟩ := atI_get he
  obtain ⟨w, ew, rw'⟩ := r.get h2
  have hl := r.length
  have hn := line63
  have fin : EP X pins σ Q w s := ⟨z, H, I, rw', q⟩
  by_cases h0 : 0 ≤ i
  · have hj : i.toNat = j := by
      rw [seqIndex_of h0 h5] at h1
      exact Option.some.inj h1
    exact item_listR pl.isList h0 (by omega) (by rw [hj]; simpa using ew) fin hs
  · have hj : (i + (its.toArray.size : Int)).toNat = j := by
      rw [seqIndex_neg (by omega) h4] at h1
      rw [List.size_toArray, ← hl]
      exact Option.some.inj h1
    exact subscriptTail_builtinR (x := w) pl.isList.typeIs slot_list_getitem.lookup
      (wpAny_getItem_list_neg (Q := fun r s' => r = w ∧ EP X pins σ Q r s') pl.isList (by omega) (by rw [List.size_toArray] <;> omega) (by omega) (by rw [hj]; simpa using ew) ⟨rfl, fin⟩) hs
theorem ix_tup : IxR X (rIxT X.K) := by
  intro value slice pins s σ H x y v u Q I rx ry h hs
  obtain ⟨p, xs, i, z, rfl, rfl, hq, he, q⟩ := h
  cases rx
  obtain ⟨t, rfl⟩ := ry
  obtain ⟨its, r, pl, hz⟩ := I.tuple hq
  obtain ⟨j, h1, h2, h3, h4, h5⟩ := atI_get he
  obtain ⟨w, ew, rw'⟩ := r.get h2
  have hl := r.length
  have hn := line63
  have fin : EP X pins σ Q w s := ⟨z, H, I, rw', q⟩
  exact subscriptTail_builtinR (x := w) pl.typeIs slot_tuple_getitem.lookup
    (getItem_tuple (j := j) (Q := fun r s' => r = w ∧ EP X pins σ Q r s') pl (by omega) (by omega) (by rw [List.size_toArray, ← hl]; exact h1) (by simpa using ew) ⟨rfl, fin⟩) hs
/-! ### xs[i] = v, any sign -/
/-! ### slices -/
theorem slice_bounds (lo hi : Option Int) (n : Nat) : (sliceBounds lo hi none n).1 = ((HT.sIx n 0 lo : Nat) : Int) ∧ (sliceBounds lo hi none n).2.1 = ((HT.sIx n n hi : Nat) : Int) ∧ (sliceBounds lo hi none n).2.2 = 1 := by
  refine ⟨?_, ?_, rfl⟩
  · cases lo with
    | none => simp [sliceBounds, HT.sIx]
    | some i =>
      simp only [sliceBounds, HT.sIx, Option.getD_none, show (1 : Int) > 0 by decide, if_true]
      by_cases h : i < 0
      · simp only [h, if_true] <;> omega
      · simp only [h, if_false] <;> omega
  · cases hi with
    | none => simp [sliceBounds, HT.sIx]
    | some i =>
      simp only [sliceBounds, HT.sIx, Option.getD_none, show (1 : Int) > 0 by decide, if_true]
      by_cases h : i < 0
      · simp only [h, if_true] <;> omega
      · simp only [h, if_false] <;> omega
theorem slicePick_cut (its : List Value) (lo hi : Option Int) : slicePick its.toArray lo hi none = ((its.drop (HT.sIx its.length 0 lo)).take (HT.sIx its.length its.length hi - HT.sIx its.length 0 lo)).toArray := by
  obtain ⟨h1, h2, h3⟩ := slice_bounds lo hi its.toArray.size
  unfold slicePick
  rw [h1, h2, h3]
  simp only [sliceRange_one, pick_run, List.size_toArray] <;> rfl
/-- xs[lo:hi] of a list: a new list -/
def rSlL (K : PySem.W.Frag) : V → Option Int → Option Int → Hp → VK → Prop := fun x lo hi H Q => ∃ a xs, x = .ref a ∧ SqL K H a xs ∧ ∀ p, H p = none → Q (.ref p) (upd H p (.lst (cutV xs lo hi)))
theorem sl_list : SlR X (rSlL X.K) := by
  intro pins s σ H x v vl vu lo hi sl Q I rx hs pl pu h
  obtain ⟨a, xs, rfl, hx, q⟩ := h
  cases rx
  obtain ⟨its, r, ht, hz⟩ := I.list hx
  have hlen := r.length
  refine ⟨"list", _, slot_list_getitem.lookup, ht.isList.typeIs, ?_⟩
  refine wpAny_getItem_list_slice ht.isList hs pl pu .none (by simp) ?_ (by rw [List.size_toArray] <;> omega)
  rw [slicePick_cut, ← hlen]
  refine ⟨.ref s.heap.objs.size, _, I.laid (t' := s.toks) (o := .lst (cutV xs lo hi)) (fun b ob q => Heap.get?_push_of_some _ q) (Nat.le_refl _) ?_, rfl, q _ (I.hok.fresh (Nat.le_refl _))⟩
  exact ⟨Nat.le_trans (cutV_length xs lo hi) hz, _, 0, (r.drop (HT.sIx xs.length 0 lo)).take (HT.sIx xs.length xs.length hi - HT.sIx xs.length 0 lo), Heap.get?_push_size _ rfl⟩

/-! ### in, not in: flat items -/
def flatV : V → Bool
  | .non => true
  | .bl _ => true
  | .int _ => true
  | .str _ => true
  | _ => false
/-- == of flat values -/
def eqV : V → V → Bool
  | .non, .non => true
  | .bl a, .bl b => a == b
  | .bl a, .int b => (if a then 1 else 0) == b
  | .int a, .bl b => a == (if b then 1 else 0)
  | .int a, .int b => a == b
  | .str a, .str b => a == b
  | _, _ => false
theorem eqAt_V {A : Around} {s : Shared} {y x : V} {u v : Value} (ry : RelV y u) (rx : RelV x v) (fy : flatV y = true) (fx : flatV x = true) : SeqAt.EqAt A s u v (eqV y x) := by
  cases y with
  | non =>
    cases ry
    cases x with
    | non => cases rx; exact SeqAt.EqAt.same _
    | bl b => cases rx; exact SeqAt.EqAt.none_bool b
    | int b => obtain ⟨t, rfl⟩ := rx; exact SeqAt.EqAt.none_int b t
    | str b => obtain ⟨t, rfl⟩ := rx; exact SeqAt.EqAt.none_str b t
    | _ => exact absurd (show false = true from fx) Bool.false_ne_true
  | bl a =>
    cases ry
    cases x with
    | non => cases rx; exact SeqAt.EqAt.bool_none a
    | bl b => cases rx; exact SeqAt.EqAt.bool_bool a b
    | int b => obtain ⟨t, rfl⟩ := rx; exact SeqAt.EqAt.bool_int a b t
    | str b => obtain ⟨t, rfl⟩ := rx; exact SeqAt.EqAt.bool_str a b t
    | _ => exact absurd (show false = true from fx) Bool.false_ne_true
  | int a =>
    obtain ⟨t', rfl⟩ := ry
    cases x with
    | non => cases rx; exact SeqAt.EqAt.int_none a t'
    | bl b => cases rx; exact SeqAt.EqAt.int_bool a t' b
    | int b => obtain ⟨t, rfl⟩ := rx; exact SeqAt.EqAt.int_int a t' b t
    | str b => obtain ⟨t, rfl⟩ := rx; exact SeqAt.EqAt.int_str a t' b t
    | _ => exact absurd (show false = true from fx) Bool.false_ne_true
  | str a =>
    obtain ⟨t', rfl⟩ := ry
    cases x with
    | non => cases rx; exact SeqAt.EqAt.str_none a t'
    | bl b => cases rx; exact SeqAt.EqAt.str_bool a t' b
    | int b => obtain ⟨t, rfl⟩ := rx; exact SeqAt.EqAt.str_int a t' b t
    | str b => obtain ⟨t, rfl⟩ := rx; exact SeqAt.EqAt.str_str a t' b t
    | _ => exact absurd (show false = true from fx) Bool.false_ne_true
  | _ => exact absurd (show false = true from fy) Bool.false_ne_true
/-! ### len, list(x), tuple(x) of any list or tuple that is read -/
theorem call_len_seq : CallR X (.builtin "len") (fun xs H Q => ∃ p ys, xs = [.ref p] ∧ (SqL X.K H p ys ∨ SqT X.K H p ys) ∧ Q (.int ys.length) H) := by
  intro pins s σ H xs us Q I r h
  obtain ⟨p, ys, rfl, hq, q⟩ := h
  obtain ⟨u, rfl, rx⟩ := vals1 r
  cases rx
  have hn := line63
  rcases hq with hq | hq
  · obtain ⟨its, r', pl, hz⟩ := I.list hq
    have hlen := r'.length
    exact Calls.call_len_list pl.isList (by simp only [List.size_toArray] <;> omega) ⟨.int ys.length, H, I.tok _, ⟨s.toks + 1, by rw [List.size_toArray, hlen]⟩, q⟩
  · obtain ⟨its, r', pl, hz⟩ := I.tuple hq
    have hlen := r'.length
    exact len_tuple pl (by simp only [List.size_toArray] <;> omega) ⟨.int ys.length, H, I.tok _, ⟨s.toks + 1, by rw [List.size_toArray, hlen]⟩, q⟩
/-! ### the call of a builtin's method: o.m(..) -/
/-- the value is of that builtin type -/
def tyV (K : PySem.W.Frag) (T : String) (x : V) (H : Hp) : Prop := match x with
  | .str _ => T = "str"
  | .int _ => T = "int"
  | .ref p => (T = "list" ∧ ∃ xs, SqL K H p xs) ∨ (T = "tuple" ∧ ∃ o, K.lookup p = some o ∧ o.cls = .type "tuple" ∧ o.dict = none) ∨
      (T = "dict" ∧ ((∃ kvs, H p = some (.dK kvs)) ∨ ∃ kvs, H p = some (.dT kvs))) ∨ (T = "set" ∧ ∃ S n, H p = some (.set S n))
  | _ => False
theorem tyV_is {pins : List (Addr × Obj)} {σ : St} {H : Hp} {s : Shared} {T : String} {x : V} {v : Value} (I : Inv X pins σ H s) (r : RelV x v) (ty : tyV X.K T x H) :
    s.TypeIs v T ∧ ∀ a, v = .ref a → ∃ ob, s.heap.get? a = some ob ∧ ob.dict = none := by
  cases x with
  | str z =>
    obtain ⟨t, rfl⟩ := r
    cases (show T = "str" from ty)
    exact ⟨typeIs_str s z t, fun _ e => nomatch e⟩
  | int i =>
    obtain ⟨t, rfl⟩ := r
    cases (show T = "int" from ty)
    exact ⟨typeIs_int s i t, fun _ e => nomatch e⟩
  | ref p =>
    cases r
    rcases ty with ⟨rfl, xs, hq⟩ | ⟨rfl, o, hk, hc, hd⟩ | ⟨rfl, hk⟩ | ⟨rfl, S, n, hk⟩
    · obtain ⟨its, _, pl, _⟩ := I.list hq
      refine ⟨pl.isList.typeIs, fun a e => ?_⟩
      cases e
      obtain ⟨o, n, e, c, hd, _⟩ := pl
      exact ⟨o, e, hd⟩
    · refine ⟨⟨o, I.kIn p o hk, hc⟩, fun a e => ?_⟩
      cases e
      exact ⟨o, I.kIn _ o hk, hd⟩
    · have z : ∃ o, s.heap.get? p = some o ∧ o.ExactDict := by
        rcases hk with ⟨kvs, hk⟩ | ⟨kvs, hk⟩
        · obtain ⟨_, _, _, _, o, _, _, e, ex, _⟩ := I.hok p _ hk
          exact ⟨o, e, ex⟩
        · obtain ⟨_, _, _, _, o, _, _, e, ex, _⟩ := I.hok p _ hk
          exact ⟨o, e, ex⟩
      obtain ⟨o, e, ex⟩ := z
      refine ⟨⟨o, e, ex.1⟩, fun a e2 => ?_⟩
      cases e2
      exact ⟨o, e, ex.2.1⟩
    · obtain ⟨o, _, _, _, e, ex, _⟩ := I.hok p _ hk
      refine ⟨⟨o, e, ex.1⟩, fun a e2 => ?_⟩
      cases e2
      exact ⟨o, e, ex.2.1⟩
  | _ => exact False.elim ty
def tBM0 (K : PySem.W.Frag) (T : String) (r : V → List V → Hp → VK → Prop) (to : TE) : TE := fun σ H Q => to σ H fun x H1 => tyV K T x H1 ∧ r x [] H1 Q
def tBM (K : PySem.W.Frag) (T : String) (r : V → List V → Hp → VK → Prop) (to : TE) (t : TA) : TE := fun σ H Q => to σ H fun x H1 => tyV K T x H1 ∧ t σ H1 fun xs H2 => r x xs H2 Q
variable {o e : Expr} {es : List Expr} {to : TE} {t : TA} {name : Str} {apos cpos : Pos} {T id : String} {r : V → List V → Hp → VK → Prop}
theorem pe_bm0 (pa : PlainAttrs T) (slot : Slot T name id) (hty : typeOf (.builtin id) = pure (.type "method_descriptor")) (hm : MtR X id r) (ho : PE X o to)
    (hbase : attributeBase o name X.env (eval o X.env) = eval o X.env := by rfl) (hline : (apos.endLine == cpos.line) = true := by rfl) : PE X (.Call (.Attribute o name apos) [] [] cpos) (tBM0 X.K T r to) := by
  intro pins s σ H Q I h
  refine wpAny_Call_method0_late hbase hline (thn (ho pins s σ H _ I h) fun v s1 ⟨x, H1, I1, r1, ty, q1⟩ => ?_)
  obtain ⟨h1, h2⟩ := tyV_is I1 r1 ty
  exact ⟨T, id, pa, slot, hty, h1, h2, Calls.callWith_builtin rfl (PySem.evalArgs_none (hm pins s1 σ H1 x [] v [] Q I1 r1 .nil q1))⟩
theorem pe_bm (pa : PlainAttrs T) (slot : Slot T name id) (hty : typeOf (.builtin id) = pure (.type "method_descriptor")) (hm : MtR X id r) (ho : PE X o to) (ha : PA X (e :: es) t)
    (hbase : attributeBase o name X.env (eval o X.env) = eval o X.env := by rfl)
    (hfew : ((backTo cpos (starEach (e :: es) X.env)).all (fun x => !x.1) && (backToKw cpos (keywordEach [] X.env)).all (fun x => x.1.isSome)
      && decide ((e :: es).length + ([] : List Keyword).length + (if ([] : List Keyword).isEmpty then 0 else 1) < 30)) = true := by rfl)
    (hline : (apos.endLine == cpos.line) = true := by rfl) (hs : starEach (e :: es) X.env = (false, eval e X.env) :: starEach es X.env := by rfl) (hplain : (backTo cpos (starEach es X.env)).any (·.1) = false := by rfl) :
    PE X (.Call (.Attribute o name apos) (e :: es) [] cpos) (tBM X.K T r to t) := by
  intro pins s σ H Q I h
  refine wpAny_Call_method_late hbase hfew hline rfl (thn (ho pins s σ H _ I h) fun v s1 ⟨x, H1, I1, r1, ty, q1⟩ => ?_)
  obtain ⟨h1, h2⟩ := tyV_is I1 r1 ty
  refine ⟨T, id, pa, slot, hty, h1, h2, ?_⟩
  have hA := ha cpos pins s1 σ H1 _ I1 q1
  rw [hs] at hA ⊢
  refine Calls.callWith_builtin (by show (false || (backTo cpos (starEach es X.env)).any (·.1)) = false; rw [hplain] <;> rfl) (Calls.evalArgs_plain ?_)
  exact thn hA fun us s2 ⟨vs, H2, I2, r2, q2⟩ => hm pins s2 σ H2 x vs v us Q I2 r1 r2 q2
/- xs.append(e), list.index on a module's tuple .. are MtR facts of 06m -/
end
end L2

namespace L2
open PySem PySem.Spec PyProof.Rows

def MtM (X : Cx) (id : String) (r : V → List V → Hp → VK → Prop) : Prop :=
  ∀ (pins : List (Addr × Obj)) (s : Shared) (σ : St) (H : Hp) (x : V) (xs : List V) (v : Value) (us : List Value) (Q : VK), Inv X pins σ H s → RelV x v → Vals xs us → r x xs H Q →
    wpAny (model X.prog X.w) X.A (call (.builtin id) (v :: us)) (EP X pins σ Q) X.xe s

/-! ### lists of values -/
theorem Vals.one : ∀ {x : V} {us : List Value}, Vals [x] us → ∃ u, us = [u] ∧ RelV x u
  | _, _, .cons r .nil => ⟨_, rfl, r⟩
theorem Vals.reverse {xs : List V} {us : List Value} (h : Vals xs us) : Vals xs.reverse us.reverse := by
  induction h with
  | nil => exact .nil
  | cons r t ih => rw [List.reverse_cons, List.reverse_cons]; exact Vals.append ih (.cons r .nil)
section
variable {X : Cx} {pins : List (Addr × Obj)} {σ : St} {H : Hp} {s : Shared} {l b : Addr} {xs ys zs : List V}

/-! ### the two steps: a tracked list is rewritten, a new list is laid -/
theorem Inv.lset {its its' : List Value} {n : Nat} {f : Array Value → Array Value} {t' : Nat} (I : Inv X pins σ H s) (hH : H l = some (.lst xs))
    (e : s.heap.get? l = some { cls := .type "list", data := .seq its.toArray n }) (hf : f its.toArray = its'.toArray) (hv : Vals ys its') (hz : ys.length ≤ sizeLine) :
    Inv X pins σ (upd H l (.lst ys)) { s with heap := s.heap.update l (Obj.mapSeq f), toks := t' } := by
  have q := PySem.IsL.update e f
  rw [hf] at q
  refine I.write (x := l) (e := l) (by rw [hH]; exact trivial) (.inl rfl) (fun b' u hb hu => (Heap.get?_update_other s.heap (Obj.mapSeq f) (Ne.symm hb)).trans hu) ⟨_, q⟩ ?_
  exact ⟨hz, its', _, hv, q⟩
theorem Inv.lnew {its : List Value} {t' : Nat} (I : Inv X pins σ H s) (hv : Vals ys its) (hz : ys.length ≤ sizeLine) :
    Inv X pins σ (upd H s.heap.objs.size (.lst ys)) { s with heap := s.heap.push { cls := .type "list", data := .seq its.toArray }, toks := t' } :=
  I.laid (fun _ _ q => Heap.get?_push_of_some _ q) (Nat.le_refl _) ⟨hz, its, 0, hv, Heap.get?_push_size _ rfl⟩
theorem Inv.fresh (I : Inv X pins σ H s) : H s.heap.objs.size = none := I.hok.fresh (Nat.le_refl _)
theorem Inv.lstM (I : Inv X pins σ H s) (hH : H l = some (.lst xs)) : xs.length ≤ sizeLine ∧ ∃ (its : List Value) (n : Nat), Vals xs its ∧ xs.length = its.length ∧ s.heap.get? l = some { cls := .type "list", data := .seq its.toArray n } := by
  obtain ⟨z, its, n, r, e⟩ := I.hok l _ hH
  exact ⟨z, its, n, r, r.length, e⟩

end

section
variable {X : Cx}

/-! ### methods -/
def rAppend : V → List V → Hp → VK → Prop := fun x vs H Q => ∃ l xs y, x = .ref l ∧ vs = [y] ∧ H l = some (.lst xs) ∧ xs.length < sizeLine ∧ Q .non (upd H l (.lst (xs ++ [y])))
theorem mt_append : MtM X "list.append" rAppend := by
  intro pins s σ H x vs v us Q I rx rv h
  obtain ⟨l, xs, y, rfl, rfl, hH, hz, q⟩ := h
  cases rx
  obtain ⟨u, rfl, ru⟩ := rv.one
  obtain ⟨z, its, n, r, hl, e⟩ := I.lstM hH
  refine call_meets F.slot_list_append ⟨_, e, rfl⟩ F.entry_list_append (F.args_list_append_2 _ _) (PySem.list_append l its.toArray n u (by rw [List.size_toArray]; omega)) ⟨e, ?_⟩
  refine ⟨.non, _, I.lset (its' := its ++ [u]) hH e (by simp) (r.append (.cons ru .nil)) ?_, rfl, q⟩
  rw [List.length_append, List.length_singleton]
  omega

/-! ### list + list, list += list, list * int -/
def rCat : R2 := fun x y H Q => ∃ l b xs zs, x = .ref l ∧ y = .ref b ∧ H l = some (.lst xs) ∧ H b = some (.lst zs) ∧ xs.length + zs.length ≤ sizeLine ∧ ∀ p, H p = none → Q (.ref p) (upd H p (.lst (xs ++ zs)))
theorem op_cat : OpR X (binaryOp .Add) rCat := by
  intro pins s σ H x y v u Q I rx ry h
  obtain ⟨l, b, xs, zs, rfl, rfl, hH, hB, hz, q⟩ := h
  cases rx
  cases ry
  obtain ⟨z, its, n, r, hl, e⟩ := I.lstM hH
  obtain ⟨z2, its2, n2, r2, hl2, e2⟩ := I.lstM hB
  refine PySem.P.add_list e e2 ?_ (by rw [List.size_toArray, List.size_toArray]; omega)
  have ea : its.toArray ++ its2.toArray = (its ++ its2).toArray := by simp
  rw [ea]
  exact ⟨.ref _, _, I.lnew (t' := s.toks) (r.append r2) (by rw [List.length_append]; omega), rfl, q _ I.fresh⟩
/-! ### del xs[i] -/
end

/-! ### xs[a:b] = ys -/
section
variable {prog : Program} {w : World} {A : Around} {E : Value → Shared → Prop} {s : Shared}
set_option maxRecDepth 100000 in
end

section
variable {X : Cx}
end
end L2

namespace Att
open PySem PySem.W PySem.Calls PyProof.Rows

/-! ### the script -/
theorem ints_of_wellAll {P : Params} {h : Heap} : ∀ (ns : List Int) (vs : List Value), WellAll P h vs (ns.map WData.int) → IntsAre vs ns := by
  intro ns
  induction ns with
  | nil =>
    intro vs w
    rw [List.map_nil] at w
    cases w
    exact .nil
  | cons n ns ih =>
    intro vs w
    rw [List.map_cons] at w
    cases w with
    | cons a b =>
      cases a
      exact .cons _ _ (ih _ b)

theorem script_of {l : OpenLaw} {n : Nat} (hn : l.most = some n) {P : Params} {h : Heap} {args : List WData} {vals : List Value}
    (hpre : l.row.toRowW.claim.pre args = true) (hwl : WellAll P h vals args) :
    ∃ a vs ns, vals = [Value.ref a] ∧ args = [WData.list (ns.map WData.int)] ∧ h.get? a = some { cls := .type "list", data := .seq vs.toArray } ∧ IntsAre vs ns ∧ ns.length ≤ n := by
  have hsh : WShape.hasAll [] args [.list .int] = true := (pre_splitW hpre).1
  have hc : l.pre.holds [] { args := args } = true := (pre_splitW hpre).2
  obtain ⟨d, r, rfl, h1, h2⟩ := hasAllW_cons hsh
  obtain rfl := hasAllW_nil h2
  obtain ⟨xs, rfl, h3⟩ := hasW_list h1
  obtain ⟨ns, rfl⟩ := items_int h3
  have hlen : ns.length ≤ n := by
    unfold OpenLaw.pre at hc
    have h4 : (WTm.not (.lt (.lit (.int (n : Int))) (.len (.arg 0)))).holds [] { args := [.list (ns.map .int)] } = true := by
      have h4 := (holds_andW hc).1
      rw [hn] at h4
      exact h4
    have h5 := condW_of h4 (w_not (w_lt w_lit (w_len_list (w_arg rfl))))
    rw [List.length_map] at h5
    refine Nat.le_of_not_lt fun q => ?_
    have q' : (n : Int) < ((ns.length : Nat) : Int) := by omega
    first
      | (rw [decide_eq_true q'] at h5; exact absurd h5 (by decide))
      | (simp at h5; omega)
  cases hwl with
  | cons w1 w2 =>
    cases w2
    cases w1 with
    | list ho hall => exact ⟨_, _, ns, rfl, rfl, ho, ints_of_wellAll ns _ hall, hlen⟩

theorem post_true (l : OpenLaw) (args : List WData) : l.row.toRowW.claim.post args (.bool true) args = true :=
  postW_of (r := l.row.toRowW) (X := (true == true))
    (show WShape.has [] (.bool true) .bool = true by first | rfl | decide | simp [WShape.has, WShape.arms, WShape.armsAll])
    (show (WTm.eq .res (.lit (.bool true))).value [] { args := args, res := some (.bool true), after := args } = some (.bool (true == true)) from w_eq_bool (w_res rfl) w_lit) rfl

/-! ### the attachment: holds_open's last premise (the goal 'hc' behind k_head) from a wpAny of the law's body -/
/-- the same from a codeAny of the CALL (for a layer whose function contracts speak of calls) -/
theorem attach_call {l : OpenLaw} {n : Nat} {q : Program} {loose : List Str} {XP : (Str → Option Value) → Heap → Prop} {YP : World → Heap → Prop} {d : DefRec}
    (hn : l.most = some n) (hdf : d.params.defaults = [])
    (call : ∀ (w : World) (s₀ s₁ : Shared) (mg mb : Str → Option Value) (fa : Addr) (o : Obj) (pm cd doc : Value) (a : Addr) (vs : List Value) (ns : List Int),
      Ground q loose [] XP w s₀ mg mb s₁.heap → YP w s₁.heap →
      s₁.heap.get? fa = some o → o.data = .func (docDef d.name d.params d.body d.scope pm cd doc) → s₁.heap.CodeRec cd d.name → mg d.name = some (.ref fa) →
      s₁.heap.get? a = some { cls := .type "list", data := .seq vs.toArray } → IntsAre vs ns → ns.length ≤ n → s₁.gens = #[] →
      codeAny (model l.prog w) callerA (.call (.ref fa) ⟨[.ref a], []⟩) (fun r s' => r = .ok (.ret (.bool true)) ∧ OldK s₁.heap s'.heap ∧ s'.os = s₁.os ∧ AllBare s'.gens) s₁) :
    WalkO q loose XP YP l.row.toRowW d [] (fun f vs => PySem.call f vs) := by
  intro w s₀ s₁ mg mb G Y fa o pm cd doc dV kV ho hd hcd hD hmg hg args vals as hpre hlay hrd hwl hlo
  obtain rfl : dV = .none := Dflts.none hD hdf
  obtain rfl : kV = .none := Dflts.noKw hD
  obtain ⟨a, vs, ns, rfl, rfl, hobj, hints, hlen⟩ := script_of hn hpre hwl
  refine enter_call (codeAny_mono (call w s₀ s₁ mg mb fa o pm cd doc a vs ns G Y ho (fd_plain hd) hcd hmg hobj hints hlen hg) fun r s' hq => ?_)
  obtain ⟨rfl, h2, h3, h4⟩ := hq
  exact ⟨.inl ⟨.bool true, .bool true, [], rfl, fun _ => rfl, .bool true, post_true l _, fun _ => ⟨List.Pairwise.nil, fun _ hm => (nomatch hm)⟩⟩, h2, h3, h4⟩

/-! ### rules over ANY heap (no ledger) from facts about the written part K: the library's own take a ledger (News) for what they write -/
section
variable {prog : Program} {w : World} {A : Around} {E : Value → Shared → Prop} {s : Shared} {K : Frag}

/-! the whole heap as the ledger: makes every rule that writes through a ledger a rule over any heap -/
end
end Att

namespace L2
open PySem PySem.Spec PyProof.Rows

theorem vals_ints : ∀ {vs : List Value} {ns : List Int}, IntsAre vs ns → Vals (ns.map V.int) vs
  | _, _, .nil => .nil
  | _, _, .cons n t h => .cons ⟨t, rfl⟩ (vals_ints h)

/-- nothing is tracked but the script, known to the object (or it is an object of the module) -/
def Only (H : Hp) : Prop := ∀ b, H b = none ∨ ∃ o xs, H b = some (.frz o (.lst xs))

/-- THE HEAD: the law's promise, at the heap behind the top. F, the promise of the law's def, may use that base is part of the heap (so K.In base, base.Ns mainGlobals mg stand in Mod) -/
theorem law_call {P : Program} {w : World} {K : PySem.W.Frag} {mg mb : Str → Option Value} {CX : CXT} {k : Nat} {fa a : Addr} {fd : FuncData} {x : Str} {sp : Sp} {s₁ : Shared} {vs : List Value} {ns : List Int}
    (KX : K.In s₁.heap) (hns : s₁.heap.Ns mainGlobals mg) (hb : s₁.heap.Ns builtinsNs mb) (hbb : ∀ x : Str, x ≠ "__name__" → mb x = bootBuiltins x) (hlim : s₁.heap.NoLimit) (hg : s₁.gens = #[])
    (ha : s₁.heap.get? a = some { cls := .type "list", data := .seq vs.toArray }) (hi : IntsAre vs ns) (hl : ns.length ≤ sizeLine) (hr : Room k callerA)
    (F : ∀ base : Heap, K.In base → base.Ns mainGlobals mg → FnOk P w K mg base CX k fa fd [x] sp) (hbind : ∀ (s : Shared) (u : Value), BindsTo s fd ⟨[u], []⟩ [(x, u)])
    (hsp : ∀ H : Hp, Only H → SqL K H a (ns.map V.int) → sp [.ref a] H (fun v _ => v = .bl true) fun _ _ _ => False)
    (hCX : ∀ H e s', CX [] H s₁ (fun _ _ _ => False) e s' → False) :
    codeAny (model P w) callerA (.call (.ref fa) ⟨[.ref a], []⟩) (fun r s' => r = .ok (.ret (.bool true)) ∧ OldK s₁.heap s'.heap ∧ s'.os = s₁.os ∧ AllBare s'.gens) s₁ := by
  have rv := vals_ints hi
  have lenV := hi.length
  -- from an abstract heap in which nothing but the script may be tracked
  have core : ∀ H : Hp, Only H → SqL K H a (ns.map V.int) → HOk P w H s₁.heap → (∀ b, H b ≠ none → b = a) → (H a ≠ none → K.lookup a = none) →
      codeAny (model P w) callerA (.call (.ref fa) ⟨[.ref a], []⟩) (fun r s' => r = .ok (.ret (.bool true)) ∧ OldK s₁.heap s'.heap ∧ s'.os = s₁.os ∧ AllBare s'.gens) s₁ := by
    intro H hO hS hok hA hK
    have base_of : ∀ {b : Addr} {o : Obj}, s₁.heap.get? b = some o → H b = none → (hidT s₁.heap H).get? b = some o := fun e n => hidT_get e n
    have noA : ∀ {b : Addr} {o : Obj} {es : Array DictEntry} {ep : Nat}, s₁.heap.get? b = some o → o.data = .dict es ep → H b = none := fun {b o es ep} e d => by
      cases q : H b with
      | none => rfl
      | some u =>
        have e' : b = a := hA b (by rw [q]; simp)
        subst e'
        rw [ha] at e; cases e
        have d' : Data.seq vs.toArray _ = Data.dict es ep := d
        cases d'
    have nsK : ∀ {b : Addr} {m : Str → Option Value}, s₁.heap.Ns b m → (hidT s₁.heap H).Ns b m := fun {b m} ⟨o, es, ep, e, d, r⟩ => ⟨o, es, ep, base_of e (noA e d), d, r⟩
    have hKb : K.In (hidT s₁.heap H) := fun b o e => base_of (KX b o e) (by
      cases q : H b with
      | none => rfl
      | some u =>
        have e' : b = a := hA b (by rw [q]; simp)
        subst e'
        rw [hK (by rw [q]; simp)] at e; cases e)
    have hM : Mod K mg (hidT s₁.heap H) := ⟨hKb, nsK hns, ⟨mb, nsK hb, hbb⟩, let ⟨mc, h1, h2⟩ := hlim; ⟨mc, nsK h1, h2⟩⟩
    have e0 : Env0 P w K mg (hidT s₁.heap H) callerA [] s₁ H := ⟨rfl, hM, fun b o e => of_hidT e, Nat.le_of_eq (hidT_size _ _), trivial, fun b hb => absurd (show b ∈ ([] : List Addr) from hb) (by simp), hok, .of_eq hg⟩
    refine codeAny_mono ((F _ hKb (nsK hns)).run callerA [] s₁ H ⟨[.ref a], []⟩ [.ref a] [.ref a] _ _ hr e0 (hbind s₁ (.ref a)) (.cons rfl .nil) (hsp H hO hS)) fun r s' h => ?_
    cases r with
    | error e => exact (hCX H e s' h).elim
    | ok fl =>
      cases fl with
      | next => exact False.elim h
      | brk => exact False.elim h
      | cont => exact False.elim h
      | ret u =>
        obtain ⟨v, H', os, bare, un, hok', r', q⟩ := h
        have q' : v = .bl true := q
        subst q'
        obtain rfl : u = Value.bool true := r'
        refine ⟨rfl, OldK.of_keep fun b o e => ?_, os, bare⟩
        cases q : H b with
        | none => exact un.keep b o e q (by intro z; exact absurd (show b ∈ ([] : List Addr) from z) (by simp)) (by simp)
        | some u =>
          rcases hO b with z | ⟨ob, xs, z⟩
          · rw [q] at z; cases z
          · have z2 := un.frzs b ob _ z
            obtain ⟨e1, _⟩ := hok b _ z
            obtain ⟨e2, _⟩ := hok' b _ z2
            rw [e] at e1; cases e1
            exact e2
  cases hk : K.lookup a with
  | some o =>
    -- the script is one of the module's own objects
    have e := KX a o hk
    rw [ha] at e
    cases e
    refine core (fun _ => none) (fun _ => .inl rfl) (.inr ⟨_, vs.toArray, _, hk, rfl, rfl, rfl, by rw [List.size_toArray, lenV]; exact hl, by simpa using rv⟩) (fun b u z => by have z' : (none : Option HO) = some u := z; cases z') (fun b z => absurd rfl z) fun z => absurd rfl z
  | none =>
    refine core (fun b => if b = a then some (.frz { cls := .type "list", data := .seq vs.toArray } (.lst (ns.map V.int))) else none) (fun b => ?_) (.inl (.inr ⟨{ cls := .type "list", data := .seq vs.toArray }, if_pos rfl⟩)) (fun b u z => ?_) (fun b z => ?_) fun _ => hk
    · by_cases hb : b = a
      · exact .inr ⟨_, _, if_pos hb⟩
      · exact .inl (if_neg hb)
    · by_cases hb : b = a
      · have z' := (if_pos hb).symm.trans z
        cases z'
        subst hb
        exact ⟨ha, by rw [List.length_map]; exact hl, vs, _, rv, ha⟩
      · have z' := (if_neg hb).symm.trans z
        cases z'
    · by_cases hb : b = a
      · exact hb
      · exact absurd (if_neg hb) z
end L2

namespace L2
open PySem PySem.Spec PyProof.Rows

/-- the goal that k_head leaves (case hc), from the law's promise. F gives the function object fd (K's own) once, then the promise over every base -/
theorem walk_of {l : PySem.W.OpenLaw} {n k : Nat} {q : Program} {loose : List Str} {XP : (Str → Option Value) → Heap → Prop} {YP : World → Heap → Prop} {d : DefRec} {K : Params → PySem.W.Frag} {CX : World → CXT} {sp : World → Sp} {x : Str}
    (hn : l.most = some n) (hn2 : n ≤ sizeLine) (hdf : d.params.defaults = []) (hr : Room k callerA)
    (hY : ∀ (w : World) (h : Heap), YP w h → (K w.params).In h)
    (F : ∀ (w : World) (mg : Str → Option Value) (fa : Addr) (h : Heap), (K w.params).In h → h.Ns mainGlobals mg → mg d.name = some (.ref fa) →
      ∃ fd : FuncData, (∀ (s : Shared) (u : Value), BindsTo s fd ⟨[u], []⟩ [(x, u)]) ∧
        ∀ base : Heap, (K w.params).In base → base.Ns mainGlobals mg → FnOk l.prog w (K w.params) mg base (CX w) k fa fd [x] (sp w))
    (hsp : ∀ (w : World) (H : Hp) (a : Addr) (ns : List Int), ns.length ≤ n → Only H → SqL (K w.params) H a (ns.map V.int) → sp w [.ref a] H (fun v _ => v = .bl true) fun _ _ _ => False)
    (hCX : ∀ (w : World) (H : Hp) (s : Shared) (e : Value) (s' : Shared), CX w [] H s (fun _ _ _ => False) e s' → False) :
    PySem.W.WalkO q loose XP YP l.row.toRowW d [] (fun f vs => PySem.call f vs) := by
  refine Att.attach_call hn hdf fun w s₀ s₁ mg mb fa o pm cd doc a vs ns G Y ho hd hcd hmg hobj hints hlen hg => ?_
  have KX := hY w _ Y
  obtain ⟨fd, hb, hF⟩ := F w mg fa _ KX G.T.g hmg
  exact law_call KX G.T.g G.T.b G.T.builtins G.T.nolimit hg hobj hints (Nat.le_trans hlen hn2) hr hF hb (fun H hO hS => hsp w H a ns hlen hO hS) fun H e s' => hCX w H s₁ e s'
end L2

/- THE LAST THEOREM (shape; LID, My.* are yours):
   My.Adr: a structure of the addresses that your layer names (classes, functions); My.Txt K t: a structure (Prop) of the equations over K;
   My.txt_mk : {K} {implicit addresses ..} (e1 : nsIn K mainGlobals "law" = some (some (.ref f))) (e2 : K.lookup f = some ⟨oc, od, .func (fnOf "law" "law" params body scope dV kV doc pm an cdv ct), sl⟩) (e3 : codeIn K cdv "law" = true) .. : ∃ t, My.Txt K t

set_option maxRecDepth 100000 in
set_option maxHeartbeats 0 in
theorem PySem.Challenge.cw_LID_holds : PySem.Challenge.rw_LID.Holds := by
  w_on; o_law; k_head; (case hw => w_witness2)
  k_fill
  refine L2.walk_of (l := PySem.Challenge.rw_LID) (n := 63) (k := 40) (x := "script") (CX := fun w => ..) (sp := fun _ => My.sp_law) rfl (by decide) rfl ⟨rfl, by decide, by decide⟩ (fun w h Y => PySem.W.kIn_of Y) ?F ?S ?C
  case F =>
    intro w mg fa h KX G hmg
    have T : ∃ t, My.Txt (L2.KOf KX) t := by
      dsimp only [L2.KOf]                          -- K must stand as «<heap const> w.params» for k_is
      refine' My.txt_mk ?e1 ?e2 ?e3 ..
      (case e1 => PySem.W.k_is)                    -- in the order: a name -> its address -> its object -> its parts
      (case e2 => PySem.W.k_is)
      ..
    obtain ⟨t, T⟩ := T
    have e0 := hmg.symm.trans (PySem.W.mg_of KX G T.law)
    cases e0                                       -- fa is the law's own address
    exact ⟨_, fun s u => .of_eq rfl, fun base kb nb => My.law_fn T kb nb⟩     -- if «.of_eq rfl» comes too early: refine' ⟨_, ?b, fun base kb nb => My.law_fn T kb nb⟩; exact fun s u => .of_eq rfl
  case S => exact fun w H a ns hl hO hS => ..
  case C => exact ..
(the tactic k_is has no namespace: write k_is) -/

/-! SHORT WORDS over the layer: a def of the text, its body, what a loop and a test want. -/
namespace L2
open PySem PySem.Spec PyProof.Rows

/-! ### the text by places -/
def defArgs (s : Stmt) : Arguments := match s with
  | .FunctionDef _ a _ _ _ _ _ _ _ _ => a
  | _ => { posonlyargs := [], args := [], vararg := none, kwonlyargs := [], kw_defaults := [], kwarg := none, defaults := [] }
def defBody (s : Stmt) : List Stmt := match s with
  | .FunctionDef _ _ b _ _ _ _ _ _ _ => b
  | _ => []
def defScope (s : Stmt) : Scope := match s with
  | .FunctionDef _ _ _ _ _ _ sc _ _ _ => sc
  | _ => { kind := .function, names := [], isGenerator := false, isCoroutine := false }

/-! ### no exception leaves a def -/
abbrev CX0 : CXT := fun _ _ _ _ _ _ => False
abbrev E0 : XK := fun _ _ _ => False
theorem pass0 {X : Cx} : Passes CX0 X E0 := fun _ _ _ _ _ _ _ h => h.elim

/-! ### a def (or method) of the text as it stands behind the top -/
section
variable {P : Program} {w : World} {K : PySem.W.Frag} {mg : Str → Option Value} {base : Heap}
end
theorem small1000 {n : Nat} (h : n ≤ 1000) : n < sizeLine := Nat.lt_of_le_of_lt h (by decide)

/-! ### expressions in short: the name that stands in the i-th slot -/
section
variable {X : Cx}
theorem pv (i : Nat) {x : Str} {pos : Pos} (hN : X.N[i]? = some x := by rfl) (hv : Vis X.env.scope x := by first | exact Or.inl rfl | exact Or.inr (Or.inl rfl) | exact Or.inr (Or.inr rfl)) (hd : (x == ("__debug__" : Str)) = false := by decide)
    (hcd : (x == ("__classdict__" : Str)) = false := by decide) : PE X (.Name x pos) (tVar i) := pe_var hN hv hd hcd
end

/-! ### tests -/
theorem iteF {A B : Prop} (h : B) : if false = true then A else B := by
  rw [if_neg Bool.false_ne_true]
  exact h
theorem iteT {A B : Prop} (h : A) : if true = true then A else B := by
  rw [if_pos rfl]
  exact h
/-! ### heaps -/
/-- all that was tracked is as it was -/
def Same (H H' : Hp) : Prop := ∀ b o, H b = some o → H' b = some o
theorem Same.refl (H : Hp) : Same H H := fun _ _ h => h
theorem Same.trans {H H1 H2 : Hp} (a : Same H H1) (b : Same H1 H2) : Same H H2 := fun c o h => b c o (a c o h)
theorem Same.seq {K : PySem.W.Frag} {H H' : Hp} {a : Addr} {xs : List V} (e : Same H H') (h : SqL K H a xs) : SqL K H' a xs := by
  rcases h with (h | ⟨o, h⟩) | h
  · exact .inl (.inl (e _ _ h))
  · exact .inl (.inr ⟨o, e _ _ h⟩)
  · exact .inr h

end L2
end
section
set_option Elab.async false
set_option linter.all false
set_option maxRecDepth 100000
set_option maxHeartbeats 4000000
namespace Mth
theorem gcd_step {a b : Int} (ha : 0 ≤ a) (hb : 0 < b) : Int.gcd b (a % b) = Int.gcd a b := by
  obtain ⟨m, rfl⟩ := Int.eq_ofNat_of_zero_le ha
  obtain ⟨n, rfl⟩ := Int.eq_ofNat_of_zero_le (Int.le_of_lt hb)
  rw [← Int.natCast_emod]
  show Nat.gcd (n : Int).natAbs ((m % n : Nat) : Int).natAbs = Nat.gcd (m : Int).natAbs (n : Int).natAbs
  simp only [Int.natAbs_natCast]
  rw [Nat.gcd_comm m n, Nat.gcd_comm n (m % n)]
  exact (Nat.gcd_rec n m).symm
theorem gcd_abs (a b : Int) : Int.gcd (if a < 0 then -a else a) b = Int.gcd a b := by
  split
  · exact Int.neg_gcd
  · rfl
theorem gcd_abs' (a b : Int) : Int.gcd a (if b < 0 then -b else b) = Int.gcd a b := by
  rw [Int.gcd_comm, gcd_abs, Int.gcd_comm]
theorem gcd_zero {a : Int} (ha : 0 ≤ a) : (Int.gcd a 0 : Int) = a := by
  rw [Int.gcd_zero]; omega
/-- lowest terms -/
structure Low (t b : Int) : Prop where
  pos : 1 ≤ b
  one : Int.gcd t b = 1
theorem gcd_pos {a b : Int} (h : b ≠ 0) : 0 < (Int.gcd a b : Int) := by
  have := Int.gcd_pos_of_ne_zero_right a h
  omega
/-- exact division -/
theorem div_eq (a b : Int) : a = a / (Int.gcd a b : Int) * (Int.gcd a b : Int) := (Int.ediv_mul_cancel (Int.gcd_dvd_left a b)).symm
theorem div_eq' (a b : Int) : b = b / (Int.gcd a b : Int) * (Int.gcd a b : Int) := (Int.ediv_mul_cancel (Int.gcd_dvd_right a b)).symm
theorem div_low {a b : Int} (hb : 0 < b) : Low (a / (Int.gcd a b : Int)) (b / (Int.gcd a b : Int)) := by
  have hg := gcd_pos (a := a) (b := b) (by omega)
  refine ⟨?_, ?_⟩
  · have h1 := div_eq' a b
    have h2 : 0 < b / (Int.gcd a b : Int) := Int.ediv_pos_of_pos_of_dvd hb (by omega) (Int.gcd_dvd_right a b)
    omega
  · rw [Int.gcd_ediv (Int.gcd_dvd_left a b) (Int.gcd_dvd_right a b)]
    simp only [Int.natAbs_natCast]
    exact Nat.div_self (by omega)
theorem low_dvd {t b t' b' : Int} (h : Low t b) (e : t * b' = t' * b) : b ∣ b' := by
  have h1 : b.natAbs ∣ t.natAbs * b'.natAbs := by
    rw [← Int.natAbs_mul, e, Int.natAbs_mul]
    exact Nat.dvd_mul_left _ _
  have h2 : Nat.Coprime b.natAbs t.natAbs := by
    have := h.one
    unfold Nat.Coprime
    rw [Nat.gcd_comm]
    exact this
  exact Int.natAbs_dvd_natAbs.mp (h2.dvd_of_dvd_mul_left h1)
theorem low_unique {t b t' b' : Int} (h : Low t b) (h' : Low t' b') (e : t * b' = t' * b) : t = t' ∧ b = b' := by
  have d1 := low_dvd h e
  have d2 := low_dvd h' e.symm
  have p1 := h.pos
  have p2 := h'.pos
  have eb : b = b' := Int.le_antisymm (Int.le_of_dvd (by omega) d1) (Int.le_of_dvd (by omega) d2)
  subst eb
  exact ⟨Int.eq_of_mul_eq_mul_right (by omega) e, rfl⟩
/-- the fraction of two numbers -/
structure Frac (top bottom t b : Int) : Prop where
  low : Low t b
  eq : top * b = t * bottom
theorem frac_pos {a b : Int} (hb : 0 < b) : Frac a b (a / (Int.gcd a b : Int)) (b / (Int.gcd a b : Int)) := by
  refine ⟨div_low hb, ?_⟩
  have h1 := div_eq a b
  have h2 := div_eq' a b
  generalize a / (Int.gcd a b : Int) = x at *
  generalize b / (Int.gcd a b : Int) = y at *
  generalize (Int.gcd a b : Int) = g at *
  subst h1 h2
  grind
/-- ratio's two parts: the divisor has the bottom's sign -/
theorem frac_fdiv {a b : Int} (hb : b ≠ 0) (d : Int) (hd : d = if b < 0 then -(Int.gcd a b : Int) else (Int.gcd a b : Int)) : Frac a b (a.fdiv d) (b.fdiv d) := by
  have hg := gcd_pos (a := a) (b := b) hb
  by_cases h : b < 0
  · rw [if_pos h] at hd
    have f := frac_pos (a := -a) (b := -b) (by omega)
    rw [Int.gcd_neg, Int.neg_gcd] at f
    subst hd
    have e1 : a.fdiv (-(Int.gcd a b : Int)) = -a / (Int.gcd a b : Int) := by
      rw [← Int.neg_fdiv_neg, Int.neg_neg]; exact Int.fdiv_eq_ediv_of_nonneg _ (by omega)
    have e2 : b.fdiv (-(Int.gcd a b : Int)) = -b / (Int.gcd a b : Int) := by
      rw [← Int.neg_fdiv_neg, Int.neg_neg]; exact Int.fdiv_eq_ediv_of_nonneg _ (by omega)
    rw [e1, e2]
    exact ⟨f.low, by have := f.eq; grind⟩
  · rw [if_neg h] at hd
    subst hd
    rw [Int.fdiv_eq_ediv_of_nonneg _ (by omega), Int.fdiv_eq_ediv_of_nonneg _ (by omega)]
    exact frac_pos (by omega)
end Mth
/-! WORDS OF OUR OWN over the hand layer. -/
namespace L2
open PySem PySem.Spec PyProof.Rows

/-! ### sizes -/
abbrev bits (i : Int) : Nat := Builtin.Int.intBits i
theorem bits_of {i : Int} {n : Nat} (h : i.natAbs < 2 ^ n) : bits i ≤ n := intBits_le h
theorem bits_lt {i : Int} {n : Nat} (h : bits i ≤ n) : i.natAbs < 2 ^ n := by
  unfold bits Builtin.Int.intBits at h
  by_cases h0 : i = 0
  · subst h0
    exact Nat.pos_of_ne_zero (by simp)
  · rw [if_neg (by simpa using h0)] at h
    have h1 : i.natAbs ≠ 0 := by omega
    exact (Nat.log2_lt h1).mp (by omega)
theorem bits_mono {i j : Int} {n : Nat} (h : i.natAbs ≤ j.natAbs) (hj : bits j ≤ n) : bits i ≤ n := bits_of (Nat.lt_of_le_of_lt h (bits_lt hj))
theorem bits_mul {i j : Int} {m n : Nat} (hi : bits i ≤ m) (hj : bits j ≤ n) : bits (i * j) ≤ m + n := by
  refine bits_of ?_
  rw [Int.natAbs_mul, Nat.pow_add]
  exact Nat.mul_lt_mul'' (bits_lt hi) (bits_lt hj)
theorem bits_add {i j : Int} {n : Nat} (hi : bits i ≤ n) (hj : bits j ≤ n) : bits (i + j) ≤ n + 1 := by
  refine bits_of ?_
  have h1 := bits_lt hi
  have h2 := bits_lt hj
  have h3 : (2 : Nat) ^ (n + 1) = 2 * 2 ^ n := by rw [Nat.pow_succ, Nat.mul_comm]
  omega
theorem bits_sub {i j : Int} {n : Nat} (hi : bits i ≤ n) (hj : bits j ≤ n) : bits (i - j) ≤ n + 1 := by
  refine bits_of ?_
  have h1 := bits_lt hi
  have h2 := bits_lt hj
  have h3 : (2 : Nat) ^ (n + 1) = 2 * 2 ^ n := by rw [Nat.pow_succ, Nat.mul_comm]
  omega
theorem bits_neg {i : Int} {n : Nat} (hi : bits i ≤ n) : bits (-i) ≤ n := bits_mono (by omega) hi
theorem bits_ediv {i j : Int} {n : Nat} (hj : 0 < j) (hi : bits i ≤ n) : bits (i / j) ≤ n := by
  refine bits_mono ?_ hi
  exact Int.natAbs_ediv_le_natAbs i j
theorem bits_fdiv {i j : Int} {n : Nat} (hi : bits i ≤ n) : bits (i.fdiv j) ≤ n := PySem.intBits_fdiv_le hi
theorem bits_range {i b : Int} {n : Nat} (h0 : 0 ≤ i) (h1 : i ≤ b) (hb : bits b ≤ n) : bits i ≤ n := bits_mono (by omega) hb
theorem bits_le {i : Int} {m n : Nat} (h : bits i ≤ m) (hm : m ≤ n) : bits i ≤ n := Nat.le_trans h hm

/-! ### products, quotients -/
section
variable {X : Cx} {pos : Pos}
def CM (i j : Int) : Prop := IntMulOk i j
theorem CM.b {i j : Int} {m n : Nat} (hi : bits i ≤ m) (hj : bits j ≤ n) (hm : m ≤ 2 ^ 20) (hn : n ≤ 2 ^ 20) : CM i j := IntMulOk.of_bits (Nat.le_trans hi hm) (Nat.le_trans hj hn)
theorem CM.l {i j : Int} (h : -(2 ^ 64) < i ∧ i < 2 ^ 64) : CM i j := CMul.ok (.inl h)
theorem CM.r {i j : Int} (h : -(2 ^ 64) < j ∧ j < 2 ^ 64) : CM i j := CMul.ok (.inr h)
theorem op_mulX : OpR X (binaryOp .Mult) (rI CM fun i j => .int (i * j)) := opI fun _ _ _ _ _ _ _ hc q => mul_int q hc
def CD (_ j : Int) : Prop := 0 < j ∧ bits j ≤ 8000
theorem log2_of_bits {j : Int} {n : Nat} (hj : j ≠ 0) (h : bits j ≤ n) (hn : n ≤ 9000) : j.natAbs.log2 < 9000 := by
  have h1 : j.natAbs ≠ 0 := by omega
  have h2 := (Nat.log2_lt h1).mpr (bits_lt h)
  omega
theorem op_fdivP : OpR X (binaryOp .FloorDiv) (rI CD fun i j => .int (i / j)) := opI fun i j _ _ _ _ _ hc q => by
  have h1 : (0 : Int) < j := hc.1
  exact floordiv_int (by omega) (by rw [Int.fdiv_eq_ediv_of_nonneg i (by omega)]; exact q) (.inl (PyProof.noPylong_of_log2 (log2_of_bits (by omega) hc.2 (by decide))))
def CDZ (_ j : Int) : Prop := j ≠ 0 ∧ bits j ≤ 8000
theorem op_fdivZ : OpR X (binaryOp .FloorDiv) (rI CDZ fun i j => .int (i.fdiv j)) := opI fun i j _ _ _ _ _ hc q =>
  floordiv_int hc.1 q (.inl (PyProof.noPylong_of_log2 (log2_of_bits hc.1 hc.2 (by decide))))

/-! ### bit_length -/
theorem mt_bitlen : MtR X "int.bit_length" (fun x xs H Q => ∃ i, x = .int i ∧ xs = [] ∧ Q (.int ((bits i : Nat) : Int)) H) := by
  intro pins s σ H x xs v us Q I rx rs h
  obtain ⟨i, rfl, rfl, q⟩ := h
  obtain ⟨t, rfl⟩ := rx
  cases rs
  exact call_int_bit_length ⟨.int _, H, I.tok _, ⟨_, rfl⟩, q⟩
end

/-! ### the built-in names -/
theorem bt_int : bootBuiltins "int" = some (.type "int") := by decide +kernel
theorem bt_bool : bootBuiltins "bool" = some (.type "bool") := by decide +kernel
theorem bt_tuple : bootBuiltins "tuple" = some (.type "tuple") := by decide +kernel
theorem bt_isinstance : bootBuiltins "isinstance" = some (.builtin "isinstance") := by decide +kernel
theorem bt_abs : bootBuiltins "abs" = some (.builtin "abs") := by decide +kernel
theorem bt_len : bootBuiltins "len" = some (.builtin "len") := by decide +kernel
theorem bt_min : bootBuiltins "min" = some (.builtin "min") := by decide +kernel
theorem pe_ty {X : Cx} {x : Str} {T : String} {pos : Pos} (hm : X.mg x = none) (hv : bootBuiltins x = some (.type T)) (hg : Gl X x := by rfl) (hn : x ≠ "__name__" := by decide) (hd : (x == ("__debug__" : Str)) = false := by decide) :
    PE X (.Name x pos) (tC (.ty T)) := pe_bltn hg hm hv rfl hn hd

/-! ### the kinds of things, and isinstance -/
inductive Kn (H : Hp) : V → String → Prop where
  | non : Kn H .non "NoneType"
  | bl (b : Bool) : Kn H (.bl b) "bool"
  | int (i : Int) : Kn H (.int i) "int"
  | str (x : Str) : Kn H (.str x) "str"
  | lst {a : Addr} {xs : List V} (e : H a = some (.lst xs)) : Kn H (.ref a) "list"
  | tup {a : Addr} {xs : List V} (e : H a = some (.tup xs)) : Kn H (.ref a) "tuple"
  | dict {a : Addr} {kvs : List (Key × V)} (e : H a = some (.dK kvs)) : Kn H (.ref a) "dict"
theorem Kn.ty {K : PySem.W.Frag} {H : Hp} {x : V} {t : String} (k : Kn H x t) : TyOf K H x (.type t) := by
  cases k with
  | non => exact .non
  | bl b => exact .bl b
  | int i => exact .int i
  | str x => exact .str x
  | lst e => exact .lst e
  | tup e => exact .tup e
  | dict e => exact .dK e
theorem Kn.mono {H H' : Hp} {x : V} {t : String} (k : Kn H x t) (s : Same H H') : Kn H' x t := by
  cases k with
  | non => exact .non
  | bl b => exact .bl b
  | int i => exact .int i
  | str x => exact .str x
  | lst e => exact .lst (s _ _ e)
  | tup e => exact .tup (s _ _ e)
  | dict e => exact .dict (s _ _ e)
def isSub (t T : String) : Bool := t == T || (t == "bool" && T == "int")
def Nice (T : String) : Prop := T = "int" ∨ T = "bool" ∨ T = "tuple" ∨ T = "list" ∨ T = "str"
theorem kit_of (K : PySem.W.Frag) {H : Hp} {x : V} {t T : String} (k : Kn H x t) (n : Nice T) : PySem.W.kitOne K (.type t) (.type T) = some (isSub t T) := by
  rcases n with rfl | rfl | rfl | rfl | rfl <;> cases k <;> kernel_rfl
theorem call_isinst {X : Cx} : CallR X (.builtin "isinstance") (fun xs H Q => ∃ x t T, xs = [x, .ty T] ∧ Kn H x t ∧ Nice T ∧ Q (.bl (isSub t T)) H) := by
  intro pins s σ H xs us Q I rs h
  obtain ⟨x, t, T, rfl, k, n, q⟩ := h
  obtain ⟨u, v, rfl, ru, rv⟩ := vals2 rs
  cases (show v = Value.type T from rv)
  exact isinst_ok I ru k.ty (kit_of X.K k n) fun tk => ⟨.bl _, H, I.tok _, rfl, q⟩

/-! ### defs -/
/-- a def of the text, with what it keeps -/
structure Fn (P : Program) (w : World) (K : PySem.W.Frag) (mg : Str → Option Value) (base : Heap) (x : Str) (ps : List Str) (k : Nat) (sp : Sp) : Prop where
  ex : ∃ (f : Addr) (fd : FuncData) (o : Obj), mg x = some (.ref f) ∧ PySem.W.keepIn K (.ref f) = true ∧ (∀ us : List Value, us.length = ps.length → bindArgs fd ⟨us, []⟩ = pure (ps.zip us)) ∧ (K.lookup f = some o ∧ o.data = .func fd) ∧ FnOk P w K mg base CX0 k f fd ps sp
theorem pe_fn {X : Cx} {x : Str} {ps : List Str} {k : Nat} {sp : Sp} {p pos : Pos} {e : Expr} {es : List Expr} {t : TA} (F : Fn X.prog X.w X.K X.mg X.base x ps k sp) (hr : Room k X.A) (hg : Gl X x) (ha : PA X (e :: es) t)
    (hdb : (x == ("__debug__" : Str)) = false := by decide) (he : starEach (e :: es) X.env = (false, eval e X.env) :: starEach es X.env := by rfl) (hpl : (backTo pos (starEach es X.env)).any (·.1) = false := by rfl) :
    PE X (.Call (.Name x p) (e :: es) [] pos) (tCall sp [] E0 t) := by
  obtain ⟨f, fd, o, hm, hk, hb, _, G⟩ := F.ex
  exact pe_call G hr hg hm hk (.all hb) .nil pass0 ha hdb he hpl
/-- a def as the top has laid it, without defaults -/
structure Df (K : PySem.W.Frag) (mg : Str → Option Value) (x : Str) (st : Stmt) : Prop where
  ex : ∃ (f : Addr) (oc : Value) (od : Option Addr) (kV doc pm : Value) (an : Option Addr) (cdv ct : Value) (osl : Array (Option Value)),
    mg x = some (.ref f) ∧ K.lookup f = some ⟨oc, od, .func (PySem.W.fnOf x x (defArgs st) (defBody st) (defScope st) .none kV doc pm an cdv ct), osl⟩ ∧ PySem.W.codeIn K cdv x = true ∧ PySem.W.keepIn K (.ref f) = true
theorem df_mk {K : PySem.W.Frag} {mg : Str → Option Value} {h : Heap} {x : Str} {st : Stmt} {f : Addr} {oc : Value} {od an : Option Addr} {osl : Array (Option Value)} {kV doc pm cdv ct : Value} (X : K.In h) (G : h.Ns mainGlobals mg)
    (a : PySem.W.nsIn K mainGlobals x = some (some (.ref f))) (l : K.lookup f = some ⟨oc, od, .func (PySem.W.fnOf x x (defArgs st) (defBody st) (defScope st) .none kV doc pm an cdv ct), osl⟩) (c : PySem.W.codeIn K cdv x = true) (k : PySem.W.keepIn K (.ref f) = true) :
    Df K mg x st := ⟨⟨f, oc, od, kV, doc, pm, an, cdv, ct, osl, PySem.W.mg_of X G a, l, c, k⟩⟩
theorem Df.fn {P : Program} {w : World} {K : PySem.W.Frag} {mg : Str → Option Value} {base : Heap} {x : Str} {st : Stmt} {N ps : List Str} {k : Nat} {sp : Sp} (D : Df K mg x st) (S : FnScope N ps (defScope st))
    (hbind : ∀ (kV doc pm : Value) (an : Option Addr) (cdv ct : Value) (us : List Value), us.length = ps.length → bindArgs (PySem.W.fnOf x x (defArgs st) (defBody st) (defScope st) .none kV doc pm an cdv ct) ⟨us, []⟩ = pure (ps.zip us))
    (len : ∀ vs H Q E, sp vs H Q E → vs.length = ps.length)
    (hbody : ∀ (f : Addr) (cdv : Value) (A : Around) (outer : List Env) (s : Shared) (H : Hp) (vs : List V) (Q : VK) (E : XK), Room k (A.deeper (envOfC x (defScope st) s.heap.objs.size f cdv)) → sp vs H Q E →
      ∃ t, PSs (cxOf CX0 P w K mg base N x (defScope st) f cdv A outer s H E).nox (defBody st) t ∧ t { nx := fun _ H' => Q .non H', rt := Q } (start N vs) H) : Fn P w K mg base x ps (k + 1) sp := by
  obtain ⟨f, oc, od, kV, doc, pm, an, cdv, ct, osl, hm, lk, hcd, hk⟩ := D.ex
  refine ⟨⟨f, _, _, hm, hk, hbind kV doc pm an cdv ct, ⟨lk, rfl⟩, fn_of lk hcd S len fun A outer s H vs Q E hr hsp => ?_⟩⟩
  obtain ⟨t, h, q⟩ := hbody f cdv A outer s H vs Q E hr hsp
  exact ⟨t, h.nox, q⟩

/-- the law's own def, once for every base -/
theorem law_fd {P : Program} {w : World} {K : PySem.W.Frag} {mg : Str → Option Value} {fa : Addr} {k : Nat} {sp : Sp} (h : Heap) (hfa : mg "law" = some (.ref fa)) (F : ∀ base : Heap, Fn P w K mg base "law" ["script"] k sp) :
    ∃ fd : FuncData, (∀ (s : Shared) (v : Value), BindsTo s fd ⟨[v], []⟩ [("script", v)]) ∧ ∀ base : Heap, K.In base → base.Ns mainGlobals mg → FnOk P w K mg base CX0 k fa fd ["script"] sp := by
  obtain ⟨f, fd, o, hm, _, hb, ⟨hl, hd⟩, _⟩ := (F h).ex
  rw [hfa] at hm
  cases hm
  refine ⟨fd, fun s v => .of_eq (hb [v] rfl), fun base _ _ => ?_⟩
  obtain ⟨f', fd', o', hm', _, _, ⟨hl', hd'⟩, G⟩ := (F base).ex
  rw [hfa] at hm'
  cases hm'
  rw [hl] at hl'
  cases hl'
  rw [hd] at hd'
  cases hd'
  exact G
/-- what a law promises -/
def spLaw (K : PySem.W.Frag) : Sp := fun vs H Q _ => ∃ (a : Addr) (ns : List Int), vs = [.ref a] ∧ SqL K H a (ns.map V.int) ∧ ns.length ≤ 63 ∧ ∀ H', Q (.bl true) H'
theorem law_walk {l : PySem.W.OpenLaw} {k : Nat} {q : Program} {loose : List Str} {XP : (Str → Option Value) → Heap → Prop} {YP : World → Heap → Prop} {d : DefRec} {K : Params → PySem.W.Frag} (hk : Room k callerA) (hn : l.most = some 63) (hdf : d.params.defaults = [])
    (hY : ∀ (w : World) (h : Heap), YP w h → (K w.params).In h)
    (F : ∀ (w : World) (mg : Str → Option Value) (fa : Addr) (h : Heap), (K w.params).In h → h.Ns mainGlobals mg → mg d.name = some (.ref fa) →
      ∃ fd : FuncData, (∀ (s : Shared) (u : Value), BindsTo s fd ⟨[u], []⟩ [("script", u)]) ∧ ∀ base : Heap, (K w.params).In base → base.Ns mainGlobals mg → FnOk l.prog w (K w.params) mg base CX0 k fa fd ["script"] (spLaw (K w.params))) :
    PySem.W.WalkO q loose XP YP l.row.toRowW d [] (fun f vs => PySem.call f vs) :=
  L2.walk_of (n := 63) (k := k) (x := "script") (CX := fun _ => CX0) (sp := fun w => spLaw (K w.params)) hn (by decide) hdf hk hY F (fun _ _ a ns hl _ hS => ⟨a, ns, rfl, hS, hl, fun _ => rfl⟩) fun _ _ _ _ _ z => z

/-! ### heaps -/
theorem Same.new {H : Hp} {p : Addr} {o : HO} (h : H p = none) : Same H (upd H p o) := fun b o' e => by
  rw [upd_ne (ne_of_none e h)]
  exact e
/-- the test of a while read for another end -/
theorem ite3 {c : Bool} {A B : Prop} (h1 : c = true → A) (h2 : c = false → B) : if c = true then A else B := by
  cases c with
  | true => exact iteT (h1 rfl)
  | false => exact iteF (h2 rfl)
theorem iteFalse {b : Bool} {A B : Prop} (hb : b = false) (h : B) : if b = true then A else B := by
  subst hb
  exact iteF h
/-- the body of a for -/
def forBody (s : Stmt) : List Stmt := match s with
  | .For _ _ b _ _ => b
  | _ => []
def isIntV : V → Bool
  | .int _ => true
  | _ => false
theorem mem_cutV {xs : List V} {lo hi : Option Int} {x : V} (h : x ∈ cutV xs lo hi) : x ∈ xs := List.mem_of_mem_drop (List.mem_of_mem_take h)
end L2
/-! WHAT THE SMALL DEFS KEEP -/
namespace Sp1
open PySem PySem.Spec L2 Mth
/-! ### what each def keeps -/
def spWhole : Sp := fun vs H Q _ => ∃ x t, vs = [x] ∧ Kn H x t ∧ Q (.bl (isIntV x)) H
def spGcd : Sp := fun vs H Q _ => ∃ a b : Int, vs = [.int a, .int b] ∧ Q (.int (Int.gcd a b : Int)) H
def spCommon : Sp := fun vs H Q _ => ∃ a b : Int, vs = [.int a, .int b] ∧ 0 ≤ a ∧ 0 ≤ b ∧ Q (.int (Int.gcd a b : Int)) H
def spFloor : Sp := fun vs H Q _ => ∃ (p : Addr) (a b : Int), vs = [.ref p] ∧ H p = some (.tup [.int a, .int b]) ∧ (0 < b ∧ bits b ≤ 2000) ∧ Q (.int (a / b)) H
def lowB (a b : Int) : Bool := decide (1 ≤ b) && decide (Int.gcd a b = 1)
def lowL : List V → Bool
  | [.int a, .int b] => lowB a b
  | _ => false
def lowV (H : Hp) : V → Bool
  | .ref p => match H p with
    | some (.tup xs) => lowL xs
    | _ => false
  | _ => false
/-- a thing of a known kind; a tuple's parts are so, too -/
structure Thing (H : Hp) (x : V) : Prop where
  kn : ∃ t, Kn H x t
  parts : ∀ p xs, x = .ref p → H p = some (.tup xs) → ∀ y ∈ xs, ∃ t, Kn H y t
def spLow : Sp := fun vs H Q _ => ∃ x, vs = [x] ∧ Thing H x ∧ Q (.bl (lowV H x)) H
def spMixed : Sp := fun vs H Q _ => ∃ c k : Int, vs = [.int c, .int k] ∧ ∀ n : Int, Q (.int n) H
def spNumbers : Sp := fun vs H Q _ => ∃ (c : Int) (m : Nat) (b : Int), vs = [.int c, .int (m : Int), .int b] ∧ m ≤ 100 ∧ (0 < b ∧ bits b ≤ 2000) ∧
  ∀ (p : Addr) (ns : List Int) (H' : Hp), ns.length = m → (∀ n ∈ ns, 0 ≤ n ∧ n < b) → Same H H' → H' p = some (.lst (ns.map V.int)) → Q (.ref p) H'
theorem whole_sub {H : Hp} {x : V} {t : String} (k : Kn H x t) : (isSub t "int" = true → (!isSub t "bool") = isIntV x) ∧ (isSub t "int" = false → isIntV x = false) := by
  cases k with
  | non => exact ⟨fun h => absurd h (by decide), fun _ => rfl⟩
  | bl b => exact ⟨fun _ => (show (!isSub "bool" "bool") = false by decide), fun h => absurd h (by decide)⟩
  | int i => exact ⟨fun _ => (show (!isSub "int" "bool") = true by decide), fun h => absurd h (by decide)⟩
  | str x => exact ⟨fun h => absurd h (by decide), fun _ => rfl⟩
  | lst e => exact ⟨fun h => absurd h (by decide), fun _ => rfl⟩
  | tup e => exact ⟨fun h => absurd h (by decide), fun _ => rfl⟩
  | dict e => exact ⟨fun h => absurd h (by decide), fun _ => rfl⟩
theorem abs_nonneg (a : Int) : 0 ≤ (if a < 0 then -a else a) := by split <;> omega
/-! ### is_ratio and the law's own look -/
theorem Kn.cases_int {H : Hp} {y : V} {t : String} (k : Kn H y t) : (∃ a, y = .int a ∧ t = "int") ∨ ((∀ a, y ≠ .int a) ∧ isIntV y = false) := by
  cases k with
  | int a => exact .inl ⟨a, rfl, rfl⟩
  | non => exact .inr ⟨fun a e => (nomatch e), rfl⟩
  | bl b => exact .inr ⟨fun a e => (nomatch e), rfl⟩
  | str x => exact .inr ⟨fun a e => (nomatch e), rfl⟩
  | lst e => exact .inr ⟨fun a e => (nomatch e), rfl⟩
  | tup e => exact .inr ⟨fun a e => (nomatch e), rfl⟩
  | dict e => exact .inr ⟨fun a e => (nomatch e), rfl⟩
theorem Kn.cases_tup {H : Hp} {y : V} {t : String} (k : Kn H y t) : (∃ p xs, y = .ref p ∧ H p = some (.tup xs) ∧ t = "tuple") ∨ (lowV H y = false ∧ isSub t "tuple" = false) := by
  cases k with
  | tup e => exact .inl ⟨_, _, rfl, e, rfl⟩
  | non => exact .inr ⟨rfl, by decide⟩
  | bl b => exact .inr ⟨rfl, by decide⟩
  | str x => exact .inr ⟨rfl, by decide⟩
  | int a => exact .inr ⟨rfl, by decide⟩
  | lst e => exact .inr ⟨by simp only [lowV, e], by decide⟩
  | dict e => exact .inr ⟨by simp only [lowV, e], by decide⟩
theorem lowV_tup {H : Hp} {p : Addr} {xs : List V} (e : H p = some (.tup xs)) : lowV H (.ref p) = lowL xs := by simp only [lowV, e]
theorem lowL_len {xs : List V} (h : xs.length ≠ 2) : lowL xs = false := by
  unfold lowL
  split
  · exact absurd rfl h
  · rfl
theorem lowL_fst {y z : V} (h : ∀ a, y ≠ .int a) : lowL [y, z] = false := by
  unfold lowL
  split
  · rename_i a b e
    cases e
    exact absurd rfl (h a)
  · rfl
theorem lowL_snd {y z : V} (h : ∀ a, z ≠ .int a) : lowL [y, z] = false := by
  unfold lowL
  split
  · rename_i a b e
    cases e
    exact absurd rfl (h b)
  · rfl
theorem sz {n : Nat} (h : n ≤ 1000) : n ≤ sizeLine := Nat.le_of_lt (small1000 h)
theorem gcd_bits {a b : Int} {n : Nat} (hb : 0 < b) (h : bits b ≤ n) : bits (Int.gcd a b : Int) ≤ n := by
  refine bits_mono ?_ h
  have h1 : (Int.gcd a b : Int) ≤ b := Int.le_of_dvd hb (Int.gcd_dvd_right a b)
  omega
/-! ### things -/
theorem grow {H : Hp} {p : Addr} {o : HO} (h : H p = none) : ∃ H1, upd H p o = H1 ∧ Same H H1 ∧ H1 p = some o := ⟨_, rfl, Same.new h, upd_same⟩
theorem atI_mem {α : Type} {xs : List α} {k : Int} (h0 : 0 ≤ k) (h1 : k < (xs.length : Int)) : ∃ v, atI xs k = some v ∧ v ∈ xs := by
  have hk : k.toNat < xs.length := by omega
  have ek : k = ((k.toNat : Nat) : Int) := by omega
  have q := atI_nat (xs := xs) (j := k.toNat) (List.getElem?_eq_getElem hk)
  rw [← ek] at q
  exact ⟨xs[k.toNat], q, List.getElem_mem hk⟩
theorem th_tup {H : Hp} {p : Addr} {xs : List V} (e : H p = some (.tup xs)) (h : ∀ y ∈ xs, ∃ t, Kn H y t) : Thing H (.ref p) := ⟨⟨_, .tup e⟩, fun p' ys e1 e2 => by
  cases e1
  rw [e] at e2
  cases e2
  exact h⟩
theorem lt64 {n : Int} (h0 : 0 ≤ n) (h1 : n < 2147483647) : -(2 ^ 64) < n ∧ n < 2 ^ 64 := by
  have e : (2 : Int) ^ 64 = 18446744073709551616 := by decide
  rw [e]
  omega
/-! ### fractions made -/
theorem gcd_bits2 {a b : Int} {n : Nat} (hb : b ≠ 0) (h : bits b ≤ n) : bits (Int.gcd a b : Int) ≤ n := by
  refine bits_mono ?_ h
  have h1 : (Int.gcd a b) ∣ b.natAbs := Int.gcd_dvd_natAbs_right a b
  have h2 := Nat.le_of_dvd (by omega) h1
  omega
end Sp1
/-! TUPLES OF WHOLE NUMBERS compared -/
namespace L2
open PySem PySem.Spec PyProof.Rows
theorem all_same (ns ms : List Int) : ((List.range (min ns.length ms.length)).all (fun j => decide (ns[j]? = ms[j]?)) && ns.length == ms.length) = decide (ns = ms) := by
  rw [Bool.eq_iff_iff]
  simp only [Bool.and_eq_true, List.all_eq_true, List.mem_range, decide_eq_true_eq, beq_iff_eq]
  constructor
  · rintro ⟨h1, h2⟩
    refine List.ext_getElem? fun j => ?_
    by_cases hj : j < ns.length
    · exact h1 j (by omega)
    · rw [List.getElem?_eq_none (by omega), List.getElem?_eq_none (by omega)]
  · rintro rfl
    exact ⟨fun _ _ => rfl, rfl⟩
theorem val_at {ns : List Int} {us : List Value} {j : Nat} (r : Vals (ns.map V.int) us) (h : j < us.length) : ∃ a, ns[j]? = some a ∧ RelV (.int a) us[j] := by
  have hl := r.length
  rw [List.length_map] at hl
  have hj : j < ns.length := by omega
  obtain ⟨u, e, q⟩ := r.get (i := j) (x := .int ns[j]) (by rw [List.getElem?_map, List.getElem?_eq_getElem hj]; rfl)
  rw [List.getElem?_eq_getElem h] at e
  cases e
  exact ⟨ns[j], List.getElem?_eq_getElem hj, q⟩
section
variable {X : Cx}
def rEqI (K : PySem.W.Frag) (neg : Bool) : R2 := fun x y H Q => ∃ (p q : Addr) (ns ms : List Int), x = .ref p ∧ y = .ref q ∧ SqT K H p (ns.map V.int) ∧ SqT K H q (ms.map V.int) ∧ Q (.bl (if neg then !decide (ns = ms) else decide (ns = ms))) H
theorem items_eq {A : Around} {s : Shared} {ns ms : List Int} {us vs : List Value} (r : Vals (ns.map V.int) us) (r' : Vals (ms.map V.int) vs) (j : Nat) (h1 : j < us.toArray.size) (h2 : j < vs.toArray.size) :
    SeqAt.EqAt A s us.toArray[j] vs.toArray[j] (decide (ns[j]? = ms[j]?)) := by
  rw [List.size_toArray] at h1 h2
  obtain ⟨a, ea, ra⟩ := val_at r h1
  obtain ⟨b, eb, rb⟩ := val_at r' h2
  have q := eqAt_V (A := A) (s := s) ra rb rfl rfl
  have e : eqV (.int a) (.int b) = decide (ns[j]? = ms[j]?) := by
    rw [ea, eb]
    show (a == b) = decide (some a = some b)
    rw [Bool.eq_iff_iff]
    simp
  rw [e] at q
  exact q
theorem op_eqI (hu : X.A.units < cLine) : OpR X (compareOp .Eq) (rEqI X.K false) := by
  intro pins s σ H x y v u Q I rx ry h
  obtain ⟨p, q, ns, ms, rfl, rfl, hp, hq, k⟩ := h
  cases rx
  cases ry
  obtain ⟨its, r, pl, _⟩ := I.tuple hp
  obtain ⟨jts, r', pl', _⟩ := I.tuple hq
  refine SeqAt.eq_tupleAt pl pl' hu (items_eq r r') ⟨.bl _, H, I, rfl, ?_⟩
  have e1 := r.length
  have e2 := r'.length
  rw [List.length_map] at e1 e2
  rw [List.size_toArray, List.size_toArray, ← e1, ← e2, all_same]
  exact k
end
end L2
/-! A LIST unpacked: a, b = f(..) where f tells a list -/
namespace L2
open PySem PySem.Spec PyProof.Rows
section
variable {prog : Program} {w : World} {A : Around} {E : Value → Shared → Prop}
end
end L2
/-! EXCEPTIONS over the hand layer: own classes, raised in a def, passed on, caught by their name. -/
namespace L2
open PySem PySem.Spec PyProof.Rows

theorem ObjOk.has {P : Program} {w : World} {H : Hp} {h : Heap} {a : Addr} {o : HO} (x : ObjOk P w H h a o) : ∃ ob, h.get? a = some ob := by
  cases o with
  | lst xs => obtain ⟨_, _, _, _, e⟩ := x; exact ⟨_, e⟩
  | tup xs => obtain ⟨_, _, _, ob, e, _⟩ := x; exact ⟨_, e⟩
  | dK kvs => obtain ⟨_, _, _, _, ob, _, _, e, _⟩ := x; exact ⟨_, e⟩
  | dT kvs => obtain ⟨_, _, _, _, ob, _, _, e, _⟩ := x; exact ⟨_, e⟩
  | set S n => obtain ⟨ob, _, _, _, e, _⟩ := x; exact ⟨_, e⟩
  | ins C dx fs => obtain ⟨_, _, _, e, _⟩ := x; exact ⟨_, e⟩
  | own y => obtain ⟨ob, e⟩ := x; exact ⟨_, e⟩
  | xd fs => obtain ⟨_, ⟨od, _, _, e, _⟩, _⟩ := x; exact ⟨_, e⟩
  | rng lo hi => obtain ⟨_, _, _, e⟩ := x; exact ⟨_, e⟩
  | frz ob u => obtain ⟨e, _⟩ := x; exact ⟨_, e⟩
  | tbl ps => exact ⟨_, (show h.get? a = some _ from x)⟩
  | met f y => exact ⟨_, (show h.get? a = some _ from x)⟩
  | ext φ => obtain ⟨_, ⟨ob, e⟩, _⟩ := x; exact ⟨_, e⟩

/-- B holds what an exception on its way leaves as it is: what is tracked, and what was there ahead, but the frames -/
structure Big (B : Heap) (fs : List Addr) (H' : Hp) (h : Heap) : Prop where
  tr : ∀ b o, H' b = some o → ∃ ob, B.get? b = some ob
  old : ∀ b o, h.get? b = some o → b ∉ fs → ∃ ob, B.get? b = some ob
section
variable {P : Program} {w : World} {fs fs' : List Addr} {H H1 H' : Hp} {h h1 h2 B : Heap}
theorem Un.fly (un : Un fs [] H H' h h1) (big : Big B fs H' h) (st1 : B.StaysIn h1) (st2 : B.StaysIn h2) (sl : h1.UpToSlots h2)
    (fr : ∀ b ∈ fs, H b = none ∧ ∀ o, h1.get? b = some o → ∀ vs, o.data ≠ .fields vs) : Un fs [] H H' h h2 where
  keep := fun b o e n hb hx => by
    have e1 := un.keep b o e n hb hx
    obtain ⟨ob, eb⟩ := big.old b o e hb
    have e2 := st1 b ob eb
    rw [e1] at e2
    cases e2
    exact st2 b _ eb
  slot := fun b o e n hb hx => by
    obtain ⟨s1, e1⟩ := un.slot b o e n hb hx
    obtain ⟨s2, e2⟩ := sl b _ e1 ((fr b hb).2 _ e1)
    exact ⟨s2, e2⟩
  free := un.free
  there := fun b o e hx => by
    by_cases hb : b ∈ fs
    · obtain ⟨s1, e1⟩ := un.slot b o e (fr b hb).1 hb hx
      obtain ⟨s2, e2⟩ := sl b _ e1 ((fr b hb).2 _ e1)
      exact ⟨_, e2⟩
    · obtain ⟨ob, eb⟩ := big.old b o e hb
      exact ⟨_, st2 b ob eb⟩
  tups := un.tups
  frzs := un.frzs
  tbls := un.tbls
theorem HOk.fly (hok : HOk P w H' h1) (big : Big B fs H' h) (st1 : B.StaysIn h1) (st2 : B.StaysIn h2) : HOk P w H' h2 := fun a o e => by
  refine (hok a o e).stay (fun b u hb q => ?_) (fun _ q => q) fun _ _ q => q
  have hb' : ∃ ob, B.get? b = some ob := by
    rcases hb with z | z
    · rw [z]
      exact big.tr a o e
    · exact big.tr b _ z
  obtain ⟨ob, eb⟩ := hb'
  have e2 := st1 b ob eb
  rw [q] at e2
  cases e2
  exact st2 b _ eb
/-- a def's own frame is left: it was not there ahead -/
theorem Un.shed (a : Un fs [] H H1 h h1) (b : Un fs' [] H1 H' h1 h2) (sub : ∀ x ∈ fs, x ∈ fs') (out : ∀ x o, h.get? x = some o → x ∈ fs' → x ∈ fs) : Un fs [] H H' h h2 where
  keep := fun x o e n hx hn => b.keep x o (a.keep x o e n hx hn) (a.free x o e n hn) (fun z => hx (out x o e z)) hn
  slot := fun x o e n hx hn => by
    obtain ⟨s1, e1⟩ := a.slot x o e n hx hn
    obtain ⟨s2, e2⟩ := b.slot x _ e1 (a.free x o e n hn) (sub x hx) hn
    exact ⟨s2, e2⟩
  free := fun x o e n hn => by
    obtain ⟨o1, e1⟩ := a.there x o e hn
    exact b.free x o1 e1 (a.free x o e n hn) hn
  there := fun x o e hn => by
    obtain ⟨o1, e1⟩ := a.there x o e hn
    exact b.there x o1 e1 hn
  tups := fun x xs e => b.tups x xs (a.tups x xs e)
  frzs := fun x o xs e => b.frzs x o xs (a.frzs x o xs e)
  tbls := fun x ps e => by
    obtain ⟨m1, e1⟩ := a.tbls x ps e
    obtain ⟨m2, e2⟩ := b.tbls x _ e1
    exact ⟨m1 ++ m2, by rw [e2, Array.append_assoc]⟩
end

/-- how an exception lies behind a call -/
def CXE (P : Program) (w : World) : CXT := fun outer H s E e s' => ∃ (ea t : Addr) (cls : Value) (H' : Hp) (B : Heap),
  e = .ref ea ∧ s'.os = s.os ∧ AllBare s'.gens ∧ Un (frs outer) [] H H' s.heap s'.heap ∧ HOk P w H' s'.heap ∧ Heap.FlyingW B outer ea cls (.ref t) s'.heap ∧ Big B (frs outer) H' s.heap ∧ E cls none H'

section
variable {P : Program} {w : World} {K : PySem.W.Frag} {mg : Str → Option Value} {base : Heap} {N : List Str} {qual : Str} {scope : Scope} {f : Addr} {cdv : Value} {A : Around} {outer : List Env} {s₀ : Shared} {H₀ : Hp} {E : XK}
/-- the frames of a def's body -/
theorem frs_cons {env : Env} {L : Addr} (hf : env.frame = some L) (l : List Env) : frs (env :: l) = L :: frs l := by
  unfold frs
  rw [List.filterMap_cons, hf]
/-- an exception that was made just now leaves the def -/
theorem raised {pins : List (Addr × Obj)} {σ : St} {H : Hp} {s : Shared} {h' : Heap} {e : Addr} {cls : Value} {vs : List Value} (I : Inv (cxOf (CXE P w) P w K mg base N qual scope f cdv A outer s₀ H₀ E) pins σ H s)
    (hx : Heap.MadeExcOf s.heap h' e cls vs) (q : E cls none H) : (cxOf (CXE P w) P w K mg base N qual scope f cdv A outer s₀ H₀ E).xe (.ref e) { s with heap := h' } := by
  have hin : ∀ env ∈ (cxOf (CXE P w) P w K mg base N qual scope f cdv A outer s₀ H₀ E).stack, ∀ a, env.frame = some a → a ∈ frs (cxOf (CXE P w) P w K mg base N qual scope f cdv A outer s₀ H₀ E).stack :=
    fun env he a ha => List.mem_filterMap.mpr ⟨env, he, ha⟩
  have neL : ∀ b o, s₀.heap.get? b = some o → b ∉ frs outer → b ∉ frs (cxOf (CXE P w) P w K mg base N qual scope f cdv A outer s₀ H₀ E).stack := fun b o eb hb hm => by
    rcases List.mem_cons.mp (I.stkSub b hm) with z | z
    · exact absurd z (Nat.ne_of_lt (Nat.lt_of_lt_of_le (Heap.lt_size eb) I.ok.above))
    · exact hb z
  refine wpAny_leaves_madeW (base := PySem.W.hideAll s.heap (frs (cxOf (CXE P w) P w K mg base N qual scope f cdv A outer s₀ H₀ E).stack)) (h := s.heap) (L := s₀.heap.objs.size) I.ok.frames rfl (fun b o z => PySem.W.of_hideAll _ z) (PySem.W.funFrames_hide I.stack hin) hx fun h'' t fl _ _ up => ?_
  have big : Big (PySem.W.hideAll s.heap (frs (cxOf (CXE P w) P w K mg base N qual scope f cdv A outer s₀ H₀ E).stack)) (frs outer) H s₀.heap := by
    refine ⟨fun b o eb => ?_, fun b o eb hb => ?_⟩
    · obtain ⟨ob, z⟩ := (I.hok b o eb).has
      refine ⟨ob, PySem.W.hideAll_get _ z fun hm => ?_⟩
      rw [I.stkFree b hm] at eb
      cases eb
    · obtain ⟨ob, z⟩ := I.base.there b o eb (by intro z; cases z)
      exact ⟨ob, PySem.W.hideAll_get _ z (neL b o eb hb)⟩
  have st1 : (PySem.W.hideAll s.heap (frs (cxOf (CXE P w) P w K mg base N qual scope f cdv A outer s₀ H₀ E).stack)).StaysIn s.heap := fun b o z => PySem.W.of_hideAll _ z
  have sl : s.heap.UpToSlots h'' := (Heap.UpToSlots.of_keeps hx.keeps).trans up
  exact ⟨e, t, cls, H, _, rfl, I.os, I.bare, Un.fly I.base big st1 fl.1 sl fun b hb => ⟨I.ok.frf b hb, fun o eo => by
      obtain ⟨_, o', eo', nf⟩ := I.funs.mem hb
      rw [eo] at eo'
      cases eo'
      exact nf⟩, HOk.fly I.hok big st1 fl.1, fl, big, q⟩
/-- an exception of a callee leaves the def, too -/
theorem pass_on {E1 : XK} (hE : ∀ c o H', E1 c o H' → E c o H') : Passes (CXE P w) (cxOf (CXE P w) P w K mg base N qual scope f cdv A outer s₀ H₀ E) E1 := by
  intro pins σ H s e s' I h
  obtain ⟨ea, t, cls, H', B, rfl, os, bare, un, hok, fl, big, q⟩ := h
  refine wpAny_leaves_onW (L := s₀.heap.objs.size) I.ok.frames rfl fl fun h'' fl' up => ?_
  have out : ∀ x o, s₀.heap.get? x = some o → x ∈ frs (cxOf (CXE P w) P w K mg base N qual scope f cdv A outer s₀ H₀ E).stack → x ∈ frs outer := fun x o ex hm => by
    rcases List.mem_cons.mp (I.stkSub x hm) with z | z
    · exact absurd z (Nat.ne_of_lt (Nat.lt_of_lt_of_le (Heap.lt_size ex) I.ok.above))
    · exact z
  have sub : ∀ x ∈ frs outer, x ∈ frs (cxOf (CXE P w) P w K mg base N qual scope f cdv A outer s₀ H₀ E).stack := fun x hx => by
    show x ∈ frs (_ :: outer)
    rw [frs_cons (L := s₀.heap.objs.size) rfl]
    exact List.mem_cons_of_mem _ hx
  have un1 : Un (frs outer) [] H₀ H' s₀.heap s'.heap := Un.shed I.base un sub out
  have big1 : Big B (frs outer) H' s₀.heap := by
    refine ⟨big.tr, fun b o eb hb => ?_⟩
    obtain ⟨ob, z⟩ := I.base.there b o eb (by intro z; cases z)
    exact big.old b ob z fun hm => hb (out b o eb hm)
  refine ⟨ea, t, cls, H', B, rfl, os.trans I.os, bare, Un.fly un1 big1 fl.1 fl'.1 up fun b hb => ⟨I.ok.frf b hb, fun o eo => ?_⟩, HOk.fly hok big1 fl.1 fl'.1, fl', big1, hE _ _ _ q⟩
  obtain ⟨_, o', eo', nf⟩ := fl'.2.2.1.mem hb
  obtain ⟨_, o2, eo2, nf2⟩ := fl.2.2.1.mem (sub b hb)
  rw [eo] at eo2
  cases eo2
  exact nf2
end

/-! ### raise -/
/-- an own class of exceptions, straight or not under ValueError -/
structure ExcC (K : PySem.W.Frag) (mg : Str → Option Value) (x : Str) (C : Addr) : Prop where
  bound : mg x = some (.ref C)
  obj : ∀ h : Heap, K.In h → ∃ bm N nm qn bs hd sn sub ab col dd k0 k1 k2 k3 k5 mN, h.get? C = some (excClassObj nm qn C N bs bm hd sn sub ab col dd k0 k1 k2 k3 k5 "ValueError.__new__") ∧ h.Ns N mN ∧ mN "__init__" = none ∧
    OwnTail h [.type "ValueError", .type "Exception", .type "BaseException", .type "object"] bm
theorem exc_obj {K : PySem.W.Frag} {h : Heap} {C : Addr} {bmB : List Value} {newId : String} (X : K.In h) (q : PySem.W.excIn K C bmB newId = true) :
    ∃ bm N nm qn bs hd sn sub ab col dd k0 k1 k2 k3 k5 mN, h.get? C = some (excClassObj nm qn C N bs bm hd sn sub ab col dd k0 k1 k2 k3 k5 newId) ∧ h.Ns N mN ∧ mN "__init__" = none ∧ OwnTail h bmB bm := by
  unfold PySem.W.excIn at q
  split at q
  next dct cl sls look =>
    split at q
    next C2 bms a0 a1 a2 a3 nid a5 hmro hsls =>
      simp only [Bool.not_eq_true', beq_iff_eq, Bool.and_eq_true] at q
      obtain ⟨⟨⟨⟨⟨q1, q2⟩, q3⟩, q4⟩, q5⟩, q6⟩ := q
      subst q1 q2
      obtain ⟨c1, c2, c3, c4, c5, c6, c7, c8, c9, c10, c11⟩ := cl
      dsimp only at hmro q3 q5 q6
      subst hmro q3
      obtain ⟨lst⟩ := sls
      simp only at hsls
      subst hsls
      exact ⟨bms, c4, c1, c5, c2, c6, c7, c8, c9, c10, dct, a0, a1, a2, a3, a5, _, X _ _ look, .of_isNs (PySem.W.isNs_of_in X q5), PySem.W.nsMap_none_of_in X q5 q6, PySem.W.tail_of_in X q4⟩
    next => cases q
  next => cases q
theorem exc_mk {K : PySem.W.Frag} {mg : Str → Option Value} {h : Heap} {x : Str} {C : Addr} (X : K.In h) (G : h.Ns mainGlobals mg) (a : PySem.W.nsIn K mainGlobals x = some (some (.ref C)))
    (q : PySem.W.excIn K C [.type "ValueError", .type "Exception", .type "BaseException", .type "object"] "ValueError.__new__" = true) : ExcC K mg x C := ⟨PySem.W.mg_of X G a, fun _ Y => exc_obj Y q⟩
section
variable {P : Program} {w : World} {K : PySem.W.Frag} {mg : Str → Option Value} {base : Heap} {N : List Str} {qual : Str} {scope : Scope} {f : Addr} {cdv : Value} {A : Around} {outer : List Env} {s₀ : Shared} {H₀ : Hp} {E : XK}
/-- raise X() -/
theorem ps_raise {x : Str} {C : Addr} {np cpos pos : Pos} (O : ExcC K mg x C) (hg : Gl (cxOf (CXE P w) P w K mg base N qual scope f cdv A outer s₀ H₀ E) x) (hdb : (x == ("__debug__" : Str)) = false := by decide) :
    PS (cxOf (CXE P w) P w K mg base N qual scope f cdv A outer s₀ H₀ E) (.Raise (some (.Call (.Name x np) [] [] cpos)) none pos) (fun _ _ H => E (.ref C) none H) := by
  intro pins s σ H D I h
  obtain ⟨bm, N', nm, qn, bs, hd, sn, sub, ab, col, dd, k0, k1, k2, k3, k5, mN, hC, hN, hni, T⟩ := O.obj s.heap I.kIn
  refine wpAny_Raise_call_subT (C := C) (nm := nm) (q := qn) (N := N') (bs := bs) (bm := bm) (hdct := hd) (sn := sn) (sub := sub) (ab := ab) (col := col) (dd := dd) (k0 := k0) (k1 := k1) (k2 := k2) (k3 := k3) (k5 := k5) PySem.F.excBase_ValueError (mN := mN) (T.hasType (by decide +kernel)) (I.ok.hd rfl) rfl hni (ld_glob I hg O.bound ⟨rfl, ?_⟩ hdb)
  exact evalArgs_empty ⟨rfl, Nat.zero_le _, hC, hN, T, fun h' e hx => raised I hx h⟩
end

/-! ### try: one call, one clause -/
section
variable {X : Cx}
end

/-- a def that may raise, with what it keeps -/
structure Fx (P : Program) (w : World) (K : PySem.W.Frag) (mg : Str → Option Value) (base : Heap) (x : Str) (ps : List Str) (k : Nat) (ds : List V) (sp : Sp) : Prop where
  ex : ∃ (f : Addr) (fd : FuncData) (its : List Value), mg x = some (.ref f) ∧ PySem.W.keepIn K (.ref f) = true ∧ Binds K fd ps [] ∧ Binds K fd ps its ∧ Vals ds its ∧ FnOk P w K mg base (CXE P w) k f fd ps sp
/-- a def with defaults ds, as the top has laid it -/
structure DfD (K : PySem.W.Frag) (mg : Str → Option Value) (x : Str) (st : Stmt) (ds : List V) : Prop where
  ex : ∃ (f T : Addr) (oT : Obj) (n : Nat) (its : List Value) (oc : Value) (od : Option Addr) (kV doc pm : Value) (an : Option Addr) (cdv ct : Value) (osl : Array (Option Value)),
    mg x = some (.ref f) ∧ K.lookup f = some ⟨oc, od, .func (PySem.W.fnOf x x (defArgs st) (defBody st) (defScope st) (.ref T) kV doc pm an cdv ct), osl⟩ ∧ PySem.W.codeIn K cdv x = true ∧ PySem.W.keepIn K (.ref f) = true ∧ K.lookup T = some oT ∧ oT.data = .seq its.toArray n ∧ Vals ds its
theorem dfd_mk {K : PySem.W.Frag} {mg : Str → Option Value} {h : Heap} {x : Str} {st : Stmt} {ds : List V} {its : List Value} {f T : Addr} {oT : Obj} {n : Nat} {oc : Value} {od an : Option Addr} {osl : Array (Option Value)} {kV doc pm cdv ct : Value} (X : K.In h) (G : h.Ns mainGlobals mg)
    (a : PySem.W.nsIn K mainGlobals x = some (some (.ref f))) (l : K.lookup f = some ⟨oc, od, .func (PySem.W.fnOf x x (defArgs st) (defBody st) (defScope st) (.ref T) kV doc pm an cdv ct), osl⟩) (c : PySem.W.codeIn K cdv x = true) (k : PySem.W.keepIn K (.ref f) = true)
    (t : K.lookup T = some oT) (d : oT.data = .seq its.toArray n) (v : Vals ds its) : DfD K mg x st ds := ⟨⟨f, T, oT, n, its, oc, od, kV, doc, pm, an, cdv, ct, osl, PySem.W.mg_of X G a, l, c, k, t, d, v⟩⟩
/-- hb: all arguments given; hd: those of the defaults left out -/
theorem DfD.fx {P : Program} {w : World} {K : PySem.W.Frag} {mg : Str → Option Value} {base : Heap} {x : Str} {st : Stmt} {ds : List V} {N ps : List Str} {k : Nat} {sp : Sp} (D : DfD K mg x st ds) (S : FnScope N ps (defScope st))
    (hb : ∀ (T : Addr) (kV doc pm : Value) (an : Option Addr) (cdv ct : Value) (us its : List Value) (oT : Obj) (n : Nat) (s : Shared), Vals ds its → us.length = ps.length → s.heap.get? T = some oT → oT.data = .seq its.toArray n →
      BindsTo s (PySem.W.fnOf x x (defArgs st) (defBody st) (defScope st) (.ref T) kV doc pm an cdv ct) ⟨us, []⟩ (ps.zip us))
    (hd : ∀ (T : Addr) (kV doc pm : Value) (an : Option Addr) (cdv ct : Value) (us its : List Value) (oT : Obj) (n : Nat) (s : Shared), Vals ds its → (us ++ its).length = ps.length → s.heap.get? T = some oT → oT.data = .seq its.toArray n →
      BindsTo s (PySem.W.fnOf x x (defArgs st) (defBody st) (defScope st) (.ref T) kV doc pm an cdv ct) ⟨us, []⟩ (ps.zip (us ++ its)))
    (len : ∀ vs H Q E, sp vs H Q E → vs.length = ps.length)
    (hbody : ∀ (f : Addr) (cdv : Value) (A : Around) (outer : List Env) (s : Shared) (H : Hp) (vs : List V) (Q : VK) (E : XK), Room k (A.deeper (envOfC x (defScope st) s.heap.objs.size f cdv)) → sp vs H Q E →
      ∃ t, PSs (cxOf (CXE P w) P w K mg base N x (defScope st) f cdv A outer s H E) (defBody st) t ∧ t { nx := fun _ H' => Q .non H', rt := Q } (start N vs) H) : Fx P w K mg base x ps (k + 1) ds sp := by
  obtain ⟨f, T, oT, n, its, oc, od, kV, doc, pm, an, cdv, ct, osl, hm, lk, hcd, hk, hT, hs, hv⟩ := D.ex
  refine ⟨⟨f, _, its, hm, hk, fun s us KX hl => ?_, fun s us KX hl => hd T kV doc pm an cdv ct us its oT n s hv hl (KX _ _ hT) hs, hv, fn_of lk hcd S len fun A outer s H vs Q E hr hsp => hbody f cdv A outer s H vs Q E hr hsp⟩⟩
  rw [List.append_nil] at hl ⊢
  exact hb T kV doc pm an cdv ct us its oT n s hv hl (KX _ _ hT) hs
theorem Df.fx {P : Program} {w : World} {K : PySem.W.Frag} {mg : Str → Option Value} {base : Heap} {x : Str} {st : Stmt} {N ps : List Str} {k : Nat} {sp : Sp} (D : Df K mg x st) (S : FnScope N ps (defScope st))
    (hbind : ∀ (kV doc pm : Value) (an : Option Addr) (cdv ct : Value) (us : List Value), us.length = ps.length → bindArgs (PySem.W.fnOf x x (defArgs st) (defBody st) (defScope st) .none kV doc pm an cdv ct) ⟨us, []⟩ = pure (ps.zip us))
    (len : ∀ vs H Q E, sp vs H Q E → vs.length = ps.length)
    (hbody : ∀ (f : Addr) (cdv : Value) (A : Around) (outer : List Env) (s : Shared) (H : Hp) (vs : List V) (Q : VK) (E : XK), Room k (A.deeper (envOfC x (defScope st) s.heap.objs.size f cdv)) → sp vs H Q E →
      ∃ t, PSs (cxOf (CXE P w) P w K mg base N x (defScope st) f cdv A outer s H E) (defBody st) t ∧ t { nx := fun _ H' => Q .non H', rt := Q } (start N vs) H) : Fx P w K mg base x ps (k + 1) [] sp := by
  obtain ⟨f, oc, od, kV, doc, pm, an, cdv, ct, osl, hm, lk, hcd, hk⟩ := D.ex
  have hb : Binds K (PySem.W.fnOf x x (defArgs st) (defBody st) (defScope st) .none kV doc pm an cdv ct) ps [] := .all (hbind kV doc pm an cdv ct)
  exact ⟨⟨f, _, [], hm, hk, hb, hb, .nil, fn_of lk hcd S len fun A outer s H vs Q E hr hsp => hbody f cdv A outer s H vs Q E hr hsp⟩⟩
/-- a def that may raise is called in one that may raise -/
theorem pe_fx {P : Program} {w : World} {K : PySem.W.Frag} {mg : Str → Option Value} {base : Heap} {N : List Str} {qual : Str} {scope : Scope} {f : Addr} {cdv : Value} {A : Around} {outer : List Env} {s₀ : Shared} {H₀ : Hp} {E : XK}
    {x : Str} {ps : List Str} {k : Nat} {ds : List V} {sp : Sp} {p pos : Pos} {e : Expr} {es : List Expr} {t : TA} (F : Fx P w K mg base x ps k ds sp) (hr : Room k (cxOf (CXE P w) P w K mg base N qual scope f cdv A outer s₀ H₀ E).A) (hg : Gl (cxOf (CXE P w) P w K mg base N qual scope f cdv A outer s₀ H₀ E) x)
    (ha : PA (cxOf (CXE P w) P w K mg base N qual scope f cdv A outer s₀ H₀ E) (e :: es) t)
    (hdb : (x == ("__debug__" : Str)) = false := by decide) (he : starEach (e :: es) (cxOf (CXE P w) P w K mg base N qual scope f cdv A outer s₀ H₀ E).env = (false, eval e (cxOf (CXE P w) P w K mg base N qual scope f cdv A outer s₀ H₀ E).env) :: starEach es (cxOf (CXE P w) P w K mg base N qual scope f cdv A outer s₀ H₀ E).env := by rfl)
    (hpl : (backTo pos (starEach es (cxOf (CXE P w) P w K mg base N qual scope f cdv A outer s₀ H₀ E).env)).any (·.1) = false := by rfl) :
    PE (cxOf (CXE P w) P w K mg base N qual scope f cdv A outer s₀ H₀ E) (.Call (.Name x p) (e :: es) [] pos) (tCall sp [] E t) := by
  obtain ⟨g, fd, its, hm, hk, hb, _, _, G⟩ := F.ex
  exact pe_call G hr hg hm hk hb .nil (pass_on fun _ _ _ z => z) ha hdb he hpl
/-- nothing is raised -/
theorem pass_none {P : Program} {w : World} {X : Cx} : Passes (CXE P w) X E0 := fun _ _ _ _ _ _ _ h => by
  obtain ⟨_, _, _, _, _, _, _, _, _, _, _, _, q⟩ := h
  exact q.elim
theorem pe_fx0 {X : Cx} {x : Str} {ps : List Str} {k : Nat} {ds : List V} {sp : Sp} {p pos : Pos} {e : Expr} {es : List Expr} {t : TA} (F : Fx X.prog X.w X.K X.mg X.base x ps k ds sp) (hr : Room k X.A) (hg : Gl X x) (ha : PA X (e :: es) t)
    (hdb : (x == ("__debug__" : Str)) = false := by decide) (he : starEach (e :: es) X.env = (false, eval e X.env) :: starEach es X.env := by rfl) (hpl : (backTo pos (starEach es X.env)).any (·.1) = false := by rfl) :
    PE X (.Call (.Name x p) (e :: es) [] pos) (tCall sp [] E0 t) := by
  obtain ⟨g, fd, its, hm, hk, hb, _, _, G⟩ := F.ex
  exact pe_call G hr hg hm hk hb .nil pass_none ha hdb he hpl
section
variable {X : Cx}
variable {x fn : Str} {i : Nat} {ps : List Str} {k : Nat} {ds : List V} {sp : Sp} {e : Expr} {es : List Expr} {ta : TA} {px pf cpos pos : Pos}
end
end L2
/-! PLACES: what the defs about places keep -/
namespace Sp2
open PySem PySem.Spec L2 Mth Sp1
def placeL (n : Int) : List V → Bool
  | [.int a, .int b] => lowB a b && (decide (0 ≤ a) && decide (a ≤ n * b))
  | _ => false
def placeV (n : Int) (H : Hp) : V → Bool
  | .ref p => match H p with
    | some (.tup xs) => placeL n xs
    | _ => false
  | _ => false
theorem lowV_inv {H : Hp} {x : V} (h : lowV H x = true) : ∃ p a b, x = .ref p ∧ H p = some (.tup [.int a, .int b]) ∧ Low a b := by
  unfold lowV at h
  split at h
  · split at h
    · rename_i p _ xs e
      unfold lowL at h
      split at h
      · rename_i a b
        unfold lowB at h
        rw [Bool.and_eq_true, decide_eq_true_eq, decide_eq_true_eq] at h
        exact ⟨p, a, b, rfl, e, h.1, h.2⟩
      · cases h
    · cases h
  · cases h
theorem placeV_tup {n : Int} {H : Hp} {p : Addr} {a b : Int} (e : H p = some (.tup [.int a, .int b])) : placeV n H (.ref p) = (lowB a b && (decide (0 ≤ a) && decide (a ≤ n * b))) := by
  simp only [placeV, e, placeL]
theorem lowV_two {H : Hp} {p : Addr} {a b : Int} (e : H p = some (.tup [.int a, .int b])) : lowV H (.ref p) = lowB a b := by
  simp only [lowV, e, lowL]
theorem placeV_low {n : Int} {H : Hp} {x : V} (h : lowV H x = false) : placeV n H x = false := by
  unfold placeV
  split
  · split
    · rename_i p _ xs e
      unfold placeL
      split
      · rename_i a b
        rw [lowV_two e] at h
        rw [h, Bool.false_and]
      · rfl
    · rfl
  · rfl
theorem low_B {a b : Int} (h : Low a b) : lowB a b = true := by
  unfold lowB
  rw [decide_eq_true h.pos, decide_eq_true h.one]
  rfl
theorem placeV_of {n : Int} {H : Hp} {p : Addr} {a b : Int} (e : H p = some (.tup [.int a, .int b])) (h : Low a b) (h0 : 0 ≤ a) (h1 : a ≤ n * b) : placeV n H (.ref p) = true := by
  rw [placeV_tup e, low_B h, decide_eq_true h0, decide_eq_true h1]
  rfl
theorem placeV_inv {n : Int} {H : Hp} {x : V} (h : placeV n H x = true) : ∃ p a b, x = .ref p ∧ H p = some (.tup [.int a, .int b]) ∧ Low a b ∧ 0 ≤ a ∧ a ≤ n * b := by
  cases hl : lowV H x with
  | false =>
    rw [placeV_low hl] at h
    cases h
  | true =>
    obtain ⟨p, a, b, rfl, e, lw⟩ := lowV_inv hl
    rw [placeV_tup e, low_B lw, Bool.true_and, Bool.and_eq_true, decide_eq_true_eq, decide_eq_true_eq] at h
    exact ⟨p, a, b, rfl, e, lw, h.1, h.2⟩
def spLast : Sp := fun vs H Q _ => ∃ (p : Addr) (xs : List V), vs = [.ref p] ∧ H p = some (.lst xs) ∧ Q (.int ((xs.length : Int) - 1)) H
def spIsPlace : Sp := fun vs H Q _ => ∃ (p : Addr) (xs : List V) (x : V), vs = [.ref p, x] ∧ H p = some (.lst xs) ∧ xs.length ≤ 100 ∧ Thing H x ∧ Q (.bl (placeV ((xs.length : Int) - 1) H x)) H
def spLook (C : Addr) : Sp := fun vs H Q E => ∃ (p : Addr) (xs : List V) (x : V), vs = [.ref p, x] ∧ H p = some (.lst xs) ∧ xs.length ≤ 100 ∧ Thing H x ∧ (placeV ((xs.length : Int) - 1) H x = false → E (.ref C) none H) ∧ (placeV ((xs.length : Int) - 1) H x = true → Q .non H)
/-- a line in the heap -/
structure LineAt (H : Hp) (l : Addr) (qs : List (Addr × Int × Int)) : Prop where
  lst : H l = some (.lst (qs.map fun q => V.ref q.1))
  crn : ∀ q ∈ qs, H q.1 = some (.tup [.int q.2.1, .int q.2.2]) ∧ bits q.2.1 ≤ 50 ∧ bits q.2.2 ≤ 50
theorem LineAt.mono {H H' : Hp} {l : Addr} {qs : List (Addr × Int × Int)} (L : LineAt H l qs) (s : Same H H') : LineAt H' l qs := ⟨s _ _ L.lst, fun q h => ⟨s _ _ (L.crn q h).1, (L.crn q h).2⟩⟩
def spLine : Sp := fun vs H Q _ => ∃ (pn : Addr) (ns : List Int) (m : Nat), vs = [.ref pn, .int (m : Int)] ∧ H pn = some (.lst (ns.map V.int)) ∧ 1 ≤ m ∧ m ≤ 10 ∧ 4 + 2 * m ≤ ns.length ∧
  ∀ (l : Addr) (qs : List (Addr × Int × Int)) (H' : Hp), LineAt H' l qs → 1 ≤ qs.length → qs.length ≤ m → Same H H' → Q (.ref l) H'
def spPlaceL : Sp := fun vs H Q _ => ∃ (p : Addr) (xs : List V) (v n : Int), vs = [.ref p, .int v, .int n] ∧ H p = some (.lst xs) ∧ 1 ≤ xs.length ∧ xs.length ≤ 20 ∧ 0 ≤ n ∧
  ∀ (q : Addr) (t b : Int) (H' : Hp), Low t b → 0 ≤ t → t ≤ ((xs.length : Int) - 1) * b → bits t ≤ 100 → bits b ≤ 60 → Same H H' → H' q = some (.tup [.int t, .int b]) → Q (.ref q) H'
/-! ### small helps -/
theorem lt64s {n : Int} (h0 : -1000 ≤ n) (h1 : n ≤ 1000) : -(2 ^ 64) < n ∧ n < 2 ^ 64 := by
  have e : (2 : Int) ^ 64 = 18446744073709551616 := by decide
  rw [e]
  omega
theorem at_int {ns : List Int} {k : Int} (j : Nat) (e : k = (j : Int)) (h : j < ns.length) : atI (ns.map V.int) k = some (.int ns[j]) := by
  subst e
  exact atI_nat (by rw [List.getElem?_map, List.getElem?_eq_getElem h]; rfl)
theorem cut_from {ns : List Int} (k : Nat) : cutV (ns.map V.int) (some (k : Int)) none = (ns.drop k).map V.int := by
  unfold cutV
  rw [HT.sIx_nat, HT.sIx_none, List.length_map, ← List.map_drop]
  by_cases h : k ≤ ns.length
  · rw [Nat.min_eq_left h, List.take_of_length_le (by rw [List.length_map, List.length_drop]; exact Nat.le_refl _)]
  · rw [Nat.min_eq_right (by omega), List.drop_eq_nil_of_le (Nat.le_refl _), List.drop_eq_nil_of_le (by omega)]
    simp
theorem bits_small {n : Int} (h0 : -1000 ≤ n) (h1 : n ≤ 1000) : bits n ≤ 10 := by
  refine bits_of (n := 10) ?_
  show _ < 1024
  omega
/-! ### the mathematics -/
theorem fl_le {a b : Int} (hb : 0 < b) : a / b * b ≤ a := by
  have h1 := Int.emod_nonneg a (show b ≠ 0 by omega)
  have h2 := Int.emod_add_mul_ediv a b
  rw [Int.mul_comm] at h2
  omega
theorem fl_lt {a b : Int} (hb : 0 < b) : a < (a / b + 1) * b := by
  have h1 := Int.emod_lt_of_pos a hb
  have h2 := Int.emod_add_mul_ediv a b
  rw [Int.add_mul, Int.one_mul, Int.mul_comm]
  omega
theorem fl_ge {a b k : Int} (hb : 0 < b) (h : k * b ≤ a) : k ≤ a / b := (Int.le_ediv_iff_mul_le hb).mpr h
theorem fl_nn {a b : Int} (hb : 0 < b) (h : 0 ≤ a) : 0 ≤ a / b := Int.ediv_nonneg h (by omega)
end Sp2
namespace L2
open PySem PySem.Spec PyProof.Rows
end L2
/-! COMPREHENSIONS of one clause without a test, over the hand layer -/
namespace L2
open PySem PySem.Spec PyProof.Rows
section
variable {X : Cx} {scope : Scope} {cl : List (Str × Addr)} {x : Str} {fv : List (Str × Nat)} {elt iter : Expr} {px pos : Pos} {te : TE}
end
end L2
namespace L2
open PySem PySem.Spec PyProof.Rows
end L2
namespace L2
open PySem PySem.Spec PyProof.Rows
end L2
namespace L2
open PySem PySem.Spec PyProof.Rows
end L2
/-! == and != of tuples and lists at any depth -/
namespace L2
open PySem PySem.Spec PyProof.Rows
theorem val_get {xs : List V} {us : List Value} {j : Nat} (r : Vals xs us) (h : j < us.length) : ∃ a, xs[j]? = some a ∧ RelV a us[j] := by
  have hl := r.length
  have hj : j < xs.length := by omega
  obtain ⟨u, e, q⟩ := r.get (i := j) (x := xs[j]) (List.getElem?_eq_getElem hj)
  rw [List.getElem?_eq_getElem h] at e
  cases e
  exact ⟨xs[j], List.getElem?_eq_getElem hj, q⟩
section
variable {X : Cx} {pins : List (Addr × Obj)} {σ : St} {H : Hp} {s : Shared}
end
end L2
namespace L2
open PySem
theorem Room.units10 {k : Nat} {A : Around} (r : Room k A) : A.units + 10 < cLine := by have := r.un; omega
end L2
/-! POINTS: what the defs about points and squares keep -/
namespace L2
open PySem PySem.Spec PyProof.Rows
end L2
namespace Sp3
open PySem PySem.Spec L2 Mth Sp1 Sp2
def spRatioN (C : Addr) : Sp := fun vs H Q E => ∃ (a b : Int) (n : Nat), vs = [.int a, .int b] ∧ (bits a ≤ n ∧ bits b ≤ n ∧ n ≤ 2000) ∧ (b = 0 → E (.ref C) none H) ∧
  (b ≠ 0 → ∀ (p : Addr) (t u : Int), Frac a b t u → bits t ≤ n → bits u ≤ n → H p = none → Q (.ref p) (upd H p (.tup [.int t, .int u])))
structure Fr2 (H : Hp) (p : Addr) (a b : Int) (n : Nat) : Prop where
  at_ : H p = some (.tup [.int a, .int b])
  low : Low a b
  ba : bits a ≤ n
  bb : bits b ≤ n
theorem Fr2.mono {H H' : Hp} {p : Addr} {a b : Int} {n : Nat} (f : Fr2 H p a b n) (s : Same H H') : Fr2 H' p a b n := ⟨s _ _ f.at_, f.low, f.ba, f.bb⟩
def spBin (num den : Int → Int → Int → Int → Int) : Sp := fun vs H Q _ => ∃ (p q : Addr) (a b c d : Int) (n : Nat), vs = [.ref p, .ref q] ∧ Fr2 H p a b n ∧ Fr2 H q c d n ∧ n ≤ 900 ∧ den a b c d ≠ 0 ∧
  ∀ (r : Addr) (t u : Int) (H' : Hp), Frac (num a b c d) (den a b c d) t u → Fr2 H' r t u (2 * n + 1) → Same H H' → Q (.ref r) H'
/-- the number that number_at reckons, over the place's bottom -/
def numAt (x y t b : Int) : Int := x * b + (y - x) * (t % b)
def spNumAt : Sp := fun vs H Q _ => ∃ (x y : Int) (p : Addr) (t b : Int), vs = [.int x, .int y, .ref p] ∧ Fr2 H p t b 120 ∧ bits x ≤ 60 ∧ bits y ≤ 60 ∧
  ∀ (r : Addr) (u v : Int) (H' : Hp), Frac (numAt x y t b) b u v → Fr2 H' r u v 182 → Same H H' → Q (.ref r) H'
/-- the corners on both sides of the place t / b -/
def side0 (qs : List (Addr × Int × Int)) (t b : Int) : Int × Int := (qs.getD (t / b).toNat (0, 0, 0)).2
def side1 (qs : List (Addr × Int × Int)) (t b : Int) : Int × Int := (qs.getD (min ((t / b).toNat + 1) (qs.length - 1)) (0, 0, 0)).2
def ptX (qs : List (Addr × Int × Int)) (t b : Int) : Int := numAt (side0 qs t b).1 (side1 qs t b).1 t b
def ptY (qs : List (Addr × Int × Int)) (t b : Int) : Int := numAt (side0 qs t b).2 (side1 qs t b).2 t b
structure PtAt (H : Hp) (r : Addr) (X Y b : Int) (n : Nat) : Prop where
  ex : ∃ (rx ry : Addr) (u v c d : Int), H r = some (.tup [.ref rx, .ref ry]) ∧ Fr2 H rx u v n ∧ Fr2 H ry c d n ∧ Frac X b u v ∧ Frac Y b c d
theorem PtAt.mono {H H' : Hp} {r : Addr} {X Y b : Int} {n : Nat} (p : PtAt H r X Y b n) (s : Same H H') : PtAt H' r X Y b n := by
  obtain ⟨rx, ry, u, v, c, d, e, f, g, h, k⟩ := p.ex
  exact ⟨⟨rx, ry, u, v, c, d, s _ _ e, f.mono s, g.mono s, h, k⟩⟩
def spPoint (C : Addr) : Sp := fun vs H Q E => ∃ (l : Addr) (qs : List (Addr × Int × Int)) (x : V), vs = [.ref l, x] ∧ LineAt H l qs ∧ 1 ≤ qs.length ∧ qs.length ≤ 20 ∧ Thing H x ∧ (placeV ((qs.length : Int) - 1) H x = false → E (.ref C) none H) ∧
  (∀ (p : Addr) (t b : Int), x = .ref p → H p = some (.tup [.int t, .int b]) → Low t b → 0 ≤ t → t ≤ ((qs.length : Int) - 1) * b → bits t ≤ 120 ∧ bits b ≤ 120 ∧
    ∀ (r : Addr) (H' : Hp), PtAt H' r (ptX qs t b) (ptY qs t b) b 182 → Same H H' → Q (.ref r) H')
end Sp3
namespace Sp3
open PySem PySem.Spec L2 Mth Sp1 Sp2
/-- a point by its two fractions -/
structure PtF (H : Hp) (r : Addr) (u v c d : Int) (n : Nat) : Prop where
  ex : ∃ rx ry : Addr, H r = some (.tup [.ref rx, .ref ry]) ∧ Fr2 H rx u v n ∧ Fr2 H ry c d n
def spStep : Sp := fun vs H Q _ => ∃ (p q : Addr) (u v c d u' v' c' d' : Int), vs = [.ref p, .ref q] ∧ PtF H p u v c d 182 ∧ PtF H q u' v' c' d' 182 ∧
  ∀ (r : Addr) (a b e f : Int) (H' : Hp), Frac (u' * v - u * v') (v' * v) a b → Frac (c' * d - c * d') (d' * d) e f → PtF H' r a b e f 365 → Same H H' → Q (.ref r) H'
def spInner : Sp := fun vs H Q _ => ∃ (p : Addr) (a b e f : Int), vs = [.ref p, .ref p] ∧ PtF H p a b e f 365 ∧
  ∀ (r : Addr) (m n m' n' s w : Int) (H' : Hp), Frac (a * a) (b * b) m n → Frac (e * e) (f * f) m' n' → Frac (m * n' + m' * n) (n * n') s w → Fr2 H' r s w 1463 → Same H H' → Q (.ref r) H'
def sqN (X Y b X' Y' b' : Int) : Int := (X' * b - X * b') * (X' * b - X * b') + (Y' * b - Y * b') * (Y' * b - Y * b')
def sqD (b b' : Int) : Int := (b * b') * (b * b')
def spSqB : Sp := fun vs H Q _ => ∃ (p q : Addr) (X Y b X' Y' b' : Int), vs = [.ref p, .ref q] ∧ PtAt H p X Y b 182 ∧ PtAt H q X' Y' b' 182 ∧ 0 < b ∧ 0 < b' ∧
  ∀ (r : Addr) (s w : Int) (H' : Hp), Frac (sqN X Y b X' Y' b') (sqD b b') s w → Fr2 H' r s w 1463 → Same H H' → Q (.ref r) H'
theorem diff_eq {X b X' b' u v u' v' a e : Int} (hv : v ≠ 0) (hv' : v' ≠ 0) (h1 : X * v = u * b) (h2 : X' * v' = u' * b') (h3 : (u' * v - u * v') * e = a * (v' * v)) : (X' * b - X * b') * e = a * (b * b') := by
  have z : (v * v') * ((X' * b - X * b') * e) = (v * v') * (a * (b * b')) := by
    have z1 : (v * v') * ((X' * b - X * b') * e) = (X' * v' * (b * v) - X * v * (b' * v')) * e := by grind
    rw [z1, h1, h2]
    have z2 : (u' * b' * (b * v) - u * b * (b' * v')) * e = b * b' * ((u' * v - u * v') * e) := by grind
    rw [z2, h3]
    grind
  exact Int.eq_of_mul_eq_mul_left (Int.mul_ne_zero hv hv') z
theorem sq_eq {D B a e m n : Int} (he : e ≠ 0) (h1 : D * e = a * B) (h2 : a * a * n = m * (e * e)) : D * D * n = m * (B * B) := by
  have z : (e * e) * (D * D * n) = (e * e) * (m * (B * B)) := by
    have z1 : (e * e) * (D * D * n) = (D * e) * (D * e) * n := by grind
    rw [z1, h1]
    have z2 : a * B * (a * B) * n = B * B * (a * a * n) := by grind
    rw [z2, h2]
    grind
  exact Int.eq_of_mul_eq_mul_left (Int.mul_ne_zero he he) z
theorem sum_eq {S T G m n m' n' s w : Int} (hn : n ≠ 0) (hn' : n' ≠ 0) (h1 : S * n = m * G) (h2 : T * n' = m' * G) (h3 : (m * n' + m' * n) * w = s * (n * n')) : (S + T) * w = s * G := by
  have z : (n * n') * ((S + T) * w) = (n * n') * (s * G) := by
    have z1 : (n * n') * ((S + T) * w) = (S * n * n' + T * n' * n) * w := by grind
    rw [z1, h1, h2]
    have z2 : (m * G * n' + m' * G * n) * w = G * ((m * n' + m' * n) * w) := by grind
    rw [z2, h3]
    grind
  exact Int.eq_of_mul_eq_mul_left (Int.mul_ne_zero hn hn') z
theorem sq_frac {X Y b X' Y' b' u v c d u' v' c' d' a e a' e' m n m' n' s w : Int} (f1 : Frac X b u v) (f2 : Frac Y b c d) (f3 : Frac X' b' u' v') (f4 : Frac Y' b' c' d') (g1 : Frac (u' * v - u * v') (v' * v) a e) (g2 : Frac (c' * d - c * d') (d' * d) a' e')
    (k1 : Frac (a * a) (e * e) m n) (k2 : Frac (a' * a') (e' * e') m' n') (k3 : Frac (m * n' + m' * n) (n * n') s w) : Frac (sqN X Y b X' Y' b') (sqD b b') s w := by
  refine ⟨k3.low, ?_⟩
  have p1 := f1.low.pos
  have p2 := f2.low.pos
  have p3 := f3.low.pos
  have p4 := f4.low.pos
  have p5 := g1.low.pos
  have p6 := g2.low.pos
  have p7 := k1.low.pos
  have p8 := k2.low.pos
  have q1 := diff_eq (by omega) (by omega) f1.eq f3.eq g1.eq
  have q2 := diff_eq (by omega) (by omega) f2.eq f4.eq g2.eq
  have q3 := sq_eq (by omega) q1 k1.eq
  have q4 := sq_eq (by omega) q2 k2.eq
  exact sum_eq (by omega) (by omega) q3 q4 k3.eq
/-- a place on a line whose last corner has the number n -/
structure Plc (H : Hp) (p : Addr) (t b n : Int) : Prop where
  at_ : H p = some (.tup [.int t, .int b])
  low : Low t b
  lo : 0 ≤ t
  hi : t ≤ n * b
  bt : bits t ≤ 120
  bb : bits b ≤ 120
theorem Plc.mono {H H' : Hp} {p : Addr} {t b n : Int} (f : Plc H p t b n) (s : Same H H') : Plc H' p t b n := ⟨s _ _ f.at_, f.low, f.lo, f.hi, f.bt, f.bb⟩
theorem Plc.th {H : Hp} {p : Addr} {t b n : Int} (f : Plc H p t b n) : Thing H (.ref p) := th_tup f.at_ fun v hv => by
  simp only [List.mem_cons, List.not_mem_nil, or_false] at hv
  rcases hv with rfl | rfl <;> exact ⟨_, .int _⟩
theorem Plc.place {H : Hp} {p : Addr} {t b n : Int} (f : Plc H p t b n) : placeV n H (.ref p) = true := placeV_of f.at_ f.low f.lo f.hi
theorem placeV_same {n : Int} {H H' : Hp} {x : V} {k : String} (kn : Kn H x k) (s : Same H H') : placeV n H' x = placeV n H x := by
  cases kn with
  | non => rfl
  | bl b => rfl
  | int i => rfl
  | str x => rfl
  | lst e => simp only [placeV, e, s _ _ e]
  | tup e => simp only [placeV, e, s _ _ e]
  | dict e => simp only [placeV, e, s _ _ e]
theorem Thing.mono {H H' : Hp} {x : V} (h : Thing H x) (s : Same H H') : Thing H' x := by
  obtain ⟨⟨t, k⟩, pt⟩ := h
  refine ⟨⟨t, k.mono s⟩, fun p xs e1 e2 y hy => ?_⟩
  subst e1
  have e3 : H p = some (.tup xs) := by
    cases k with
    | lst e => rw [s _ _ e] at e2; cases e2
    | tup e => rw [s _ _ e] at e2; cases e2; exact e
    | dict e => rw [s _ _ e] at e2; cases e2
  obtain ⟨t', k'⟩ := pt p xs rfl e3 y hy
  exact ⟨t', k'.mono s⟩
abbrev Crn := List (Addr × Int × Int)
def sqF (qs : Crn) (t b : Int) (qs' : Crn) (t' b' : Int) : Int := sqN (ptX qs t b) (ptY qs t b) b (ptX qs' t' b') (ptY qs' t' b') b'
def lst_ (qs : Crn) : Int := (qs.length : Int) - 1
/-- square_of: the first place is none; it is one and the second is none; both are -/
def spSquare (C : Addr) : Sp := fun vs H Q E => ∃ (l l' : Addr) (qs qs' : Crn) (x y : V), vs = [.ref l, x, .ref l', y] ∧ LineAt H l qs ∧ LineAt H l' qs' ∧ (1 ≤ qs.length ∧ qs.length ≤ 20) ∧ (1 ≤ qs'.length ∧ qs'.length ≤ 20) ∧ Thing H x ∧ Thing H y ∧
  ((placeV (lst_ qs) H x = false ∧ E (.ref C) none H) ∨
   (∃ (p : Addr) (t b : Int), x = .ref p ∧ Plc H p t b (lst_ qs) ∧
     ((placeV (lst_ qs') H y = false ∧ ∀ H', Same H H' → E (.ref C) none H') ∨
      (∃ (q : Addr) (t' b' : Int), y = .ref q ∧ Plc H q t' b' (lst_ qs') ∧
        ∀ (r : Addr) (s w : Int) (H' : Hp), Frac (sqF qs t b qs' t' b') (sqD b b') s w → Fr2 H' r s w 1463 → Same H H' → Q (.ref r) H'))))
/-! sizes and equal points -/
end Sp3
/-! EXCEPTIONS KEPT: the class of an exception object, isinstance of it, except .. as e -/
namespace PySem
open Sem (wp)
section
variable {prog : Program} {w : World} {A : Around} {E : Value → Shared → Prop} {h : Heap} {g : Array GenState} {d : Drawn} {t : Nat} {os : OsState} {a : Addr} {o : Obj}
  {nm q : Str} {C N : Addr} {bs bm : List Value} {hdct : Bool} {sn : List Str} {sub : List Value} {ab : Bool} {col : Option Bool} {dd : Option Addr} {k0 k1 k2 k3 k5 : Option Value} {newId : String}
end
end PySem

namespace L2
open PySem PySem.Spec PyProof.Rows
section
variable {X : Cx}
end
section
variable {X : Cx} {pins : List (Addr × Obj)} {σ : St} {H : Hp} {s : Shared}
end
section
variable {X : Cx}
end
end L2
/-! k08: places and points -/
namespace Sp8
open PySem PySem.Spec L2 Mth Sp1 Sp2 Sp3
end Sp8
/-! try: an if ahead of the calls -/
namespace L2
open PySem PySem.Spec PyProof.Rows
end L2
/-! k24: gates -/
namespace Sp24
open PySem PySem.Spec L2 Mth Sp1 Sp2 Sp3 Sp8
end Sp24
/-! all(..) of a list of truths -/
namespace L2
open PySem PySem.Spec PyProof.Rows
end L2
/-! k07: lines -/
namespace Sp7
open PySem PySem.Spec L2 Mth Sp1 Sp2 Sp3
end Sp7
/-! AUTO: the plain parts of a reading, found by their shape -/
namespace L2
open PySem PySem.Spec PyProof.Rows
theorem dec_t {p : Prop} [Decidable p] (h : decide p = true) : p := of_decide_eq_true h
theorem dec_f {p : Prop} [Decidable p] (h : decide p = false) : ¬ p := of_decide_eq_false h
end L2
namespace L2
open PySem PySem.Spec PyProof.Rows
section
variable {X : Cx} {scope : Scope} {cl : List (Str × Addr)} {x : Str} {fv : List (Str × Nat)} {elt iter : Expr} {px pos : Pos} {te : TE}
end
end L2
namespace L2
open PySem PySem.Spec PyProof.Rows
/-! ### what is new, what is changed, by heaps of their own names -/
section
variable {X : Cx} {pos : Pos} {es : List Expr} {ta : TA}
def tTupA (t : TA) : TE := fun σ H Q => t σ H fun xs H1 => xs.length ≤ sizeLine ∧ ∀ p H2, Same H1 H2 → H2 p = some (.tup xs) → H1 p = none → Q (.ref p) H2
def tLstA (t : TA) : TE := fun σ H Q => t σ H fun xs H1 => xs.length ≤ sizeLine ∧ ∀ p H2, Same H1 H2 → H2 p = some (.lst xs) → H1 p = none → Q (.ref p) H2
theorem pe_tupA {x1} (h : PA X es ta) : PE X (.Tuple es x1 pos) (tTupA ta) := by
  intro pins s σ H Q I hq
  refine wpAny_Tuple_spliced (thn (h pos pins s σ H _ I hq) fun us s1 ⟨xs, H1, I1, r, z, q⟩ => ⟨by rw [← r.length]; exact z, ?_⟩)
  have hf : H1 s1.heap.objs.size = none := I1.hok.fresh (Nat.le_refl _)
  refine ⟨.ref s1.heap.objs.size, upd H1 s1.heap.objs.size (.tup xs), I1.laid (t' := s1.toks) (fun b u e => Heap.get?_push_of_some _ e) (Nat.le_refl _) ?_, rfl, q _ _ (Same.new hf) upd_same hf⟩
  exact ⟨z, us, r, ⟨_, Heap.get?_push_size _ rfl, rfl, _, rfl⟩⟩
theorem pe_lstA (h : PA X es ta) : PE X (.List es pos) (tLstA ta) := by
  intro pins s σ H Q I hq
  refine wpAny_List_spliced (thn (h pos pins s σ H _ I hq) fun us s1 ⟨xs, H1, I1, r, z, q⟩ => ⟨by rw [← r.length]; exact z, ?_⟩)
  have hf : H1 s1.heap.objs.size = none := I1.hok.fresh (Nat.le_refl _)
  refine ⟨.ref s1.heap.objs.size, upd H1 s1.heap.objs.size (.lst xs), I1.laid (t' := s1.toks) (fun b u e => Heap.get?_push_of_some _ e) (Nat.le_refl _) ?_, rfl, q _ _ (Same.new hf) upd_same hf⟩
  exact ⟨z, us, 0, r, Heap.get?_push_size _ rfl⟩
def rSlLA (K : PySem.W.Frag) : V → Option Int → Option Int → Hp → VK → Prop := fun x lo hi H Q => ∃ a xs, x = .ref a ∧ SqL K H a xs ∧ ∀ p H2, Same H H2 → H2 p = some (.lst (cutV xs lo hi)) → H p = none → Q (.ref p) H2
theorem sl_listA : SlR X (rSlLA X.K) := fun pins s σ H x v vl vu lo hi sl Q I rx hs pl pu ⟨a, xs, e, hx, q⟩ =>
  sl_list pins s σ H x v vl vu lo hi sl Q I rx hs pl pu ⟨a, xs, e, hx, fun p hp => q p _ (Same.new hp) upd_same hp⟩
def rCatA : R2 := fun x y H Q => ∃ l b xs zs, x = .ref l ∧ y = .ref b ∧ H l = some (.lst xs) ∧ H b = some (.lst zs) ∧ xs.length + zs.length ≤ sizeLine ∧ ∀ p H2, Same H H2 → H2 p = some (.lst (xs ++ zs)) → H p = none → Q (.ref p) H2
theorem op_catA : OpR X (binaryOp .Add) rCatA := fun pins s σ H x y v u Q I rx ry ⟨l, b, xs, zs, e1, e2, h1, h2, hz, q⟩ =>
  op_cat pins s σ H x y v u Q I rx ry ⟨l, b, xs, zs, e1, e2, h1, h2, hz, fun p hp => q p _ (Same.new hp) upd_same hp⟩
end
end L2
namespace L2
open PySem PySem.Spec PyProof.Rows
theorem cells_int {ss : List Int} {lo hi : Option Int} {n : Int} {o : V} {i : Nat} (h : (cutV (ss.map V.int) lo hi ++ [V.int n])[i]? = some o) : ∃ c, o = V.int c := by
  have hm := List.mem_of_getElem? h
  rcases List.mem_append.mp hm with hm | hm
  · obtain ⟨c, _, e⟩ := List.mem_map.mp (mem_cutV hm)
    exact ⟨c, e.symm⟩
  · exact ⟨_, List.mem_singleton.mp hm⟩
theorem cells_len {ss : List Int} {lo hi : Option Int} {n : Int} (h : ss.length ≤ 63) : (cutV (ss.map V.int) lo hi).length + [V.int n].length ≤ sizeLine := by
  have lcut := cutV_length (ss.map V.int) lo hi
  rw [List.length_map] at lcut
  exact Sp1.sz (by show _ + 1 ≤ 1000; omega)
theorem len3 {α : Type} {xs : List α} (h : xs.length = 3) : ∃ a b c, xs = [a, b, c] := match xs, h with | [a, b, c], _ => ⟨a, b, c, rfl⟩
theorem len2 {α : Type} {xs : List α} (h : xs.length = 2) : ∃ a b, xs = [a, b] := match xs, h with | [a, b], _ => ⟨a, b, rfl⟩
theorem len4 {α : Type} {xs : List α} (h : xs.length = 4) : ∃ a b c d, xs = [a, b, c, d] := match xs, h with | [a, b, c, d], _ => ⟨a, b, c, d, rfl⟩
theorem len5 {α : Type} {xs : List α} (h : xs.length = 5) : ∃ a b c d e, xs = [a, b, c, d, e] := match xs, h with | [a, b, c, d, e], _ => ⟨a, b, c, d, e, rfl⟩
theorem len6 {α : Type} {xs : List α} (h : xs.length = 6) : ∃ a b c d e f, xs = [a, b, c, d, e, f] := match xs, h with | [a, b, c, d, e, f], _ => ⟨a, b, c, d, e, f, rfl⟩
end L2
/-! ZIP and ENUMERATE, walked with a target of names -/
namespace L2
open PySem PySem.Spec PyProof.Rows
section
variable {X : Cx} {pins : List (Addr × Obj)} {σ : St} {H : Hp} {s : Shared}
end
section
variable {X : Cx} {elts : List Expr} {kt : Nat} {tpos : Pos}
end
end L2
/-! DATA: what a value stands for, whole; == and != of such -/
namespace L2
open PySem PySem.Spec PyProof.Rows
inductive D where
  | non | bl (b : Bool) | int (i : Int) | str (x : Str) | tup (ds : List D) | lst (ds : List D)
/-- the value v stands for d; n: no deeper -/
inductive Rp (H : Hp) : Nat → V → D → Prop where
  | non {n : Nat} : Rp H n .non .non
  | bl {n : Nat} {b : Bool} : Rp H n (.bl b) (.bl b)
  | int {n : Nat} {i : Int} : Rp H n (.int i) (.int i)
  | str {n : Nat} {x : Str} : Rp H n (.str x) (.str x)
  | tup {n : Nat} {p : Addr} {xs : List V} {ds : List D} (e : H p = some (.tup xs)) (hl : xs.length = ds.length) (h : ∀ (j : Nat) x d, xs[j]? = some x → ds[j]? = some d → Rp H n x d) : Rp H (n + 1) (.ref p) (.tup ds)
  | lst {n : Nat} {p : Addr} {xs : List V} {ds : List D} (e : H p = some (.lst xs)) (hl : xs.length = ds.length) (h : ∀ (j : Nat) x d, xs[j]? = some x → ds[j]? = some d → Rp H n x d) : Rp H (n + 1) (.ref p) (.lst ds)
mutual
def deq : D → D → Bool
  | .non, .non => true
  | .bl a, .bl b => a == b
  | .bl a, .int b => (if a then 1 else 0) == b
  | .int a, .bl b => a == (if b then 1 else 0)
  | .int a, .int b => a == b
  | .str a, .str b => a == b
  | .tup xs, .tup ys => deqs xs ys
  | .lst xs, .lst ys => deqs xs ys
  | _, _ => false
def deqs : List D → List D → Bool
  | [], [] => true
  | x :: xs, y :: ys => deq x y && deqs xs ys
  | _, _ => false
end
theorem deqs_all : ∀ (ds es : List D), ((List.range (min ds.length es.length)).all (fun j => deq (ds.getD j .non) (es.getD j .non)) && ds.length == es.length) = deqs ds es
  | [], [] => by simp [deqs]
  | [], e :: es => by simp [deqs]
  | d :: ds, [] => by simp [deqs]
  | d :: ds, e :: es => by
    have ih := deqs_all ds es
    have hm : min (d :: ds).length (e :: es).length = min ds.length es.length + 1 := by simp only [List.length_cons]; omega
    rw [hm, List.range_succ_eq_map, List.all_cons, List.all_map]
    simp only [deqs, List.getD_cons_zero, List.length_cons]
    rw [← ih, Bool.and_assoc]
    congr 1
    simp [Function.comp_def]
theorem deqs_len {ds es : List D} (h : ds.length ≠ es.length) : deqs ds es = false := by
  rw [← deqs_all]
  simp [h]
theorem deqs_all' {ds es : List D} (h : ds.length = es.length) : (List.range ds.length).all (fun j => deq (ds.getD j .non) (es.getD j .non)) = deqs ds es := by
  rw [← deqs_all, h]
  simp
theorem deqs_of {ds es : List D} (hl : ds.length = es.length) (h : ∀ (j : Nat) d e, ds[j]? = some d → es[j]? = some e → deq d e = true) : deqs ds es = true := by
  rw [← deqs_all' hl, List.all_eq_true]
  intro j hj
  have hj' : j < ds.length := List.mem_range.mp hj
  have hj2 : j < es.length := by omega
  have e1 : ds[j]? = some ds[j] := List.getElem?_eq_getElem hj'
  have e2 : es[j]? = some es[j] := List.getElem?_eq_getElem hj2
  rw [List.getD_eq_getElem?_getD, List.getD_eq_getElem?_getD, e1, e2]
  exact h j _ _ e1 e2
theorem get_of_len {α β : Type} {xs : List α} {ds : List β} {j : Nat} {d : β} (hl : xs.length = ds.length) (h : ds[j]? = some d) : ∃ x, xs[j]? = some x := by
  have := (List.getElem?_eq_some_iff.mp h).1
  exact ⟨xs[j], List.getElem?_eq_getElem (by omega)⟩
/-- one value, read twice -/
theorem Rp.self {H : Hp} {n m : Nat} {v : V} {d e : D} (r : Rp H n v d) (q : Rp H m v e) : deq d e = true := by
  induction r generalizing m e with
  | non => cases q; rfl
  | bl => cases q; simp [deq]
  | int => cases q; simp [deq]
  | str => cases q; simp [deq]
  | tup e1 hl h ih =>
    cases q with
    | tup e2 hl2 h2 =>
      rw [e1] at e2
      cases e2
      refine deqs_of (by omega) fun j a b ea eb => ?_
      obtain ⟨x, hx⟩ := get_of_len hl ea
      exact ih j x a hx ea (h2 j x b hx eb)
    | lst e2 hl2 h2 => rw [e1] at e2; cases e2
  | lst e1 hl h ih =>
    cases q with
    | tup e2 hl2 h2 => rw [e1] at e2; cases e2
    | lst e2 hl2 h2 =>
      rw [e1] at e2
      cases e2
      refine deqs_of (by omega) fun j a b ea eb => ?_
      obtain ⟨x, hx⟩ := get_of_len hl ea
      exact ih j x a hx ea (h2 j x b hx eb)
section
variable {X : Cx} {pins : List (Addr × Obj)} {σ : St} {H : Hp} {s : Shared}
theorem elts_at {A : Around} {xs ys : List V} {us ws : List Value} {ds es : List D} (r : Vals xs us) (r' : Vals ys ws) (hl : xs.length = ds.length) (hl' : ys.length = es.length)
    (h : ∀ (j : Nat) x y d e u w, xs[j]? = some x → ys[j]? = some y → ds[j]? = some d → es[j]? = some e → RelV x u → RelV y w → SeqAt.EqAt A s u w (deq d e))
    (j : Nat) (h1 : j < us.toArray.size) (h2 : j < ws.toArray.size) : SeqAt.EqAt A s us.toArray[j] ws.toArray[j] (deq (ds.getD j .non) (es.getD j .non)) := by
  rw [List.size_toArray] at h1 h2
  obtain ⟨a, ea, ra⟩ := val_get r h1
  obtain ⟨c, ec, rc⟩ := val_get r' h2
  have g1 := (List.getElem?_eq_some_iff.mp ea).1
  have g2 := (List.getElem?_eq_some_iff.mp ec).1
  have e1 : ds[j]? = some ds[j] := List.getElem?_eq_getElem (by omega)
  have e2 : es[j]? = some es[j] := List.getElem?_eq_getElem (by omega)
  rw [List.getD_eq_getElem?_getD, List.getD_eq_getElem?_getD, e1, e2]
  exact h j a c _ _ _ _ ea ec e1 e2 ra rc
/-- == of two values, as the room has it -/
theorem Rp.eqAt {n : Nat} {x : V} {d : D} (r : Rp H n x d) : ∀ {m : Nat} {y : V} {e : D} {A : Around} {u v : Value}, Rp H m y e → Inv X pins σ H s → RelV x u → RelV y v → A.units + n < cLine → SeqAt.EqAt A s u v (deq d e) := by
  induction r with
  | non =>
    intro m y e A u v q I ru rv hu
    cases ru
    cases q with
    | non => cases rv; exact SeqAt.EqAt.same _
    | bl => cases rv; exact SeqAt.EqAt.none_bool _
    | int => obtain ⟨_, rfl⟩ := rv; exact SeqAt.EqAt.none_int _ _
    | str => obtain ⟨_, rfl⟩ := rv; exact SeqAt.EqAt.none_str _ _
    | tup e1 hl h => cases rv; obtain ⟨its, _, pl, _⟩ := I.tuple (SqT.of e1); exact SeqAt.EqAt.none_tuple pl (by omega)
    | lst e1 hl h => cases rv; obtain ⟨its, _, pl, _⟩ := I.list (SqL.of e1); exact SeqAt.EqAt.none_list pl.isList (by omega)
  | bl =>
    intro m y e A u v q I ru rv hu
    cases ru
    cases q with
    | non => cases rv; exact SeqAt.EqAt.bool_none _
    | bl => cases rv; exact SeqAt.EqAt.bool_bool _ _
    | int => obtain ⟨_, rfl⟩ := rv; exact SeqAt.EqAt.bool_int _ _ _
    | str => obtain ⟨_, rfl⟩ := rv; exact SeqAt.EqAt.bool_str _ _ _
    | tup e1 hl h => cases rv; obtain ⟨its, _, pl, _⟩ := I.tuple (SqT.of e1); exact SeqAt.EqAt.bool_tuple _ pl (by omega)
    | lst e1 hl h => cases rv; obtain ⟨its, _, pl, _⟩ := I.list (SqL.of e1); exact SeqAt.EqAt.bool_list _ pl.isList (by omega)
  | int =>
    intro m y e A u v q I ru rv hu
    obtain ⟨_, rfl⟩ := ru
    cases q with
    | non => cases rv; exact SeqAt.EqAt.int_none _ _
    | bl => cases rv; exact SeqAt.EqAt.int_bool _ _ _
    | int => obtain ⟨_, rfl⟩ := rv; exact SeqAt.EqAt.int_int _ _ _ _
    | str => obtain ⟨_, rfl⟩ := rv; exact SeqAt.EqAt.int_str _ _ _ _
    | tup e1 hl h => cases rv; obtain ⟨its, _, pl, _⟩ := I.tuple (SqT.of e1); exact SeqAt.EqAt.int_tuple _ _ pl (by omega)
    | lst e1 hl h => cases rv; obtain ⟨its, _, pl, _⟩ := I.list (SqL.of e1); exact SeqAt.EqAt.int_list _ _ pl.isList (by omega)
  | str =>
    intro m y e A u v q I ru rv hu
    obtain ⟨_, rfl⟩ := ru
    cases q with
    | non => cases rv; exact SeqAt.EqAt.str_none _ _
    | bl => cases rv; exact SeqAt.EqAt.str_bool _ _ _
    | int => obtain ⟨_, rfl⟩ := rv; exact SeqAt.EqAt.str_int _ _ _ _
    | str => obtain ⟨_, rfl⟩ := rv; exact SeqAt.EqAt.str_str _ _ _ _
    | tup e1 hl h => cases rv; obtain ⟨its, _, pl, _⟩ := I.tuple (SqT.of e1); exact SeqAt.EqAt.str_tuple _ _ pl (by omega)
    | lst e1 hl h => cases rv; obtain ⟨its, _, pl, _⟩ := I.list (SqL.of e1); exact SeqAt.EqAt.str_list _ _ pl.isList (by omega)
  | @tup n p xs ds e0 hl h ih =>
    intro m y e A u v q I ru rv hu
    cases ru
    obtain ⟨its, r1, pl, _⟩ := I.tuple (SqT.of e0)
    cases q with
    | non => cases rv; exact SeqAt.EqAt.tuple_none pl (by omega)
    | bl => cases rv; exact SeqAt.EqAt.tuple_bool _ pl (by omega)
    | int => obtain ⟨_, rfl⟩ := rv; exact SeqAt.EqAt.tuple_int _ _ pl (by omega)
    | str => obtain ⟨_, rfl⟩ := rv; exact SeqAt.EqAt.tuple_str _ _ pl (by omega)
    | lst e1 hl1 h1 => cases rv; obtain ⟨jts, _, pl', _⟩ := I.list (SqL.of e1); exact SeqAt.EqAt.tuple_list pl pl'.isList (by omega)
    | @tup m p' ys es e1 hl1 h1 =>
      cases rv
      by_cases hne : p = p'
      · subst hne
        have z : deq (.tup ds) (.tup es) = true := Rp.self (Rp.tup e0 hl h) (Rp.tup e1 hl1 h1)
        rw [z]
        exact SeqAt.EqAt.same _
      · obtain ⟨jts, r2, pl', _⟩ := I.tuple (SqT.of e1)
        have y := SeqAt.RcAt.tuples (A := A) (e := fun j => deq (ds.getD j .non) (es.getD j .non)) pl pl' (by omega) (elts_at r1 r2 hl hl1 fun j x y d e u w a b c k ra rb => ih j x d a c (h1 j y e b k) I ra rb (by show A.units + 1 + n < cLine; omega))
        rw [List.size_toArray, List.size_toArray, ← r1.length, ← r2.length, hl, hl1, deqs_all] at y
        exact SeqAt.EqAt.of_refs hne y
  | @lst n p xs ds e0 hl h ih =>
    intro m y e A u v q I ru rv hu
    cases ru
    obtain ⟨its, r1, pl, _⟩ := I.list (SqL.of e0)
    cases q with
    | non => cases rv; exact SeqAt.EqAt.list_none pl.isList (by omega)
    | bl => cases rv; exact SeqAt.EqAt.list_bool _ pl.isList (by omega)
    | int => obtain ⟨_, rfl⟩ := rv; exact SeqAt.EqAt.list_int _ _ pl.isList (by omega)
    | str => obtain ⟨_, rfl⟩ := rv; exact SeqAt.EqAt.list_str _ _ pl.isList (by omega)
    | tup e1 hl1 h1 => cases rv; obtain ⟨jts, _, pl', _⟩ := I.tuple (SqT.of e1); exact SeqAt.EqAt.list_tuple pl.isList pl' (by omega)
    | @lst m p' ys es e1 hl1 h1 =>
      cases rv
      by_cases hne : p = p'
      · subst hne
        have z : deq (.lst ds) (.lst es) = true := Rp.self (Rp.lst e0 hl h) (Rp.lst e1 hl1 h1)
        rw [z]
        exact SeqAt.EqAt.same _
      · obtain ⟨jts, r2, pl', _⟩ := I.list (SqL.of e1)
        have g1 := r1.length
        have g2 := r2.length
        by_cases hz : ds.length = es.length
        · have y := SeqAt.RcAt.lists (A := A) (e := fun j => deq (ds.getD j .non) (es.getD j .non)) pl.isList pl'.isList (by rw [List.size_toArray, List.size_toArray]; omega) (by omega) (elts_at r1 r2 hl hl1 fun j x y d e u w a b c k ra rb => ih j x d a c (h1 j y e b k) I ra rb (by show A.units + 1 + n < cLine; omega))
          rw [List.size_toArray, ← r1.length, hl, deqs_all' hz] at y
          exact SeqAt.EqAt.of_refs hne y
        · rw [show deq (.lst ds) (.lst es) = false from deqs_len hz]
          exact SeqAt.EqAt.of_refs hne (SeqAt.RcAt.lists_lengths pl.isList pl'.isList (by rw [List.size_toArray, List.size_toArray]; simp; omega) (by omega))
end
end L2
/-! GENERATED -/
namespace L2
open PySem PySem.Spec PyProof.Rows
section
variable {X : Cx} {pins : List (Addr × Obj)} {σ : St} {H : Hp} {s : Shared}
theorem Rp.rcNeAt {A : Around} {n m : Nat} {x y : V} {d e : D} {u v : Value} (r : Rp H n x d) (q : Rp H m y e) (I : Inv X pins σ H s) (ru : RelV x u) (rv : RelV y v) (hu : A.units + n + 1 < cLine) : SeqAt.RcNeAt A s u v (!(deq d e)) := by
  cases r with
  | non =>
    cases q with
    | non =>
      cases ru
      cases rv
      exact SeqAt.RcNeAt.none_none
    | bl =>
      cases ru
      cases rv
      exact SeqAt.RcNeAt.none_bool _
    | int =>
      cases ru
      obtain ⟨_, rfl⟩ := rv
      exact SeqAt.RcNeAt.none_int _ _
    | str =>
      cases ru
      obtain ⟨_, rfl⟩ := rv
      exact SeqAt.RcNeAt.none_str _ _
    | @tup m p' ys es e1 hl1 h1 =>
      cases ru
      cases rv
      obtain ⟨jts, r2, pl', _⟩ := I.tuple (SqT.of e1)
      exact SeqAt.RcNeAt.none_tuple pl' (by omega)
    | @lst m p' ys es e1 hl1 h1 =>
      cases ru
      cases rv
      obtain ⟨jts, r2, pl', _⟩ := I.list (SqL.of e1)
      exact SeqAt.RcNeAt.none_list pl'.isList (by omega)
  | bl =>
    cases q with
    | non =>
      cases ru
      cases rv
      exact SeqAt.RcNeAt.bool_none _
    | bl =>
      cases ru
      cases rv
      exact SeqAt.RcNeAt.bool_bool _ _
    | int =>
      cases ru
      obtain ⟨_, rfl⟩ := rv
      exact SeqAt.RcNeAt.bool_int _ _ _
    | str =>
      cases ru
      obtain ⟨_, rfl⟩ := rv
      exact SeqAt.RcNeAt.bool_str _ _ _
    | @tup m p' ys es e1 hl1 h1 =>
      cases ru
      cases rv
      obtain ⟨jts, r2, pl', _⟩ := I.tuple (SqT.of e1)
      exact SeqAt.RcNeAt.bool_tuple _ pl' (by omega)
    | @lst m p' ys es e1 hl1 h1 =>
      cases ru
      cases rv
      obtain ⟨jts, r2, pl', _⟩ := I.list (SqL.of e1)
      exact SeqAt.RcNeAt.bool_list _ pl'.isList (by omega)
  | int =>
    cases q with
    | non =>
      obtain ⟨_, rfl⟩ := ru
      cases rv
      exact SeqAt.RcNeAt.int_none _ _
    | bl =>
      obtain ⟨_, rfl⟩ := ru
      cases rv
      exact SeqAt.RcNeAt.int_bool _ _ _
    | int =>
      obtain ⟨_, rfl⟩ := ru
      obtain ⟨_, rfl⟩ := rv
      exact SeqAt.RcNeAt.int_int _ _ _ _
    | str =>
      obtain ⟨_, rfl⟩ := ru
      obtain ⟨_, rfl⟩ := rv
      exact SeqAt.RcNeAt.int_str _ _ _ _
    | @tup m p' ys es e1 hl1 h1 =>
      obtain ⟨_, rfl⟩ := ru
      cases rv
      obtain ⟨jts, r2, pl', _⟩ := I.tuple (SqT.of e1)
      exact SeqAt.RcNeAt.int_tuple _ _ pl' (by omega)
    | @lst m p' ys es e1 hl1 h1 =>
      obtain ⟨_, rfl⟩ := ru
      cases rv
      obtain ⟨jts, r2, pl', _⟩ := I.list (SqL.of e1)
      exact SeqAt.RcNeAt.int_list _ _ pl'.isList (by omega)
  | str =>
    cases q with
    | non =>
      obtain ⟨_, rfl⟩ := ru
      cases rv
      exact SeqAt.RcNeAt.str_none _ _
    | bl =>
      obtain ⟨_, rfl⟩ := ru
      cases rv
      exact SeqAt.RcNeAt.str_bool _ _ _
    | int =>
      obtain ⟨_, rfl⟩ := ru
      obtain ⟨_, rfl⟩ := rv
      exact SeqAt.RcNeAt.str_int _ _ _ _
    | str =>
      obtain ⟨_, rfl⟩ := ru
      obtain ⟨_, rfl⟩ := rv
      exact SeqAt.RcNeAt.str_str _ _ _ _
    | @tup m p' ys es e1 hl1 h1 =>
      obtain ⟨_, rfl⟩ := ru
      cases rv
      obtain ⟨jts, r2, pl', _⟩ := I.tuple (SqT.of e1)
      exact SeqAt.RcNeAt.str_tuple _ _ pl' (by omega)
    | @lst m p' ys es e1 hl1 h1 =>
      obtain ⟨_, rfl⟩ := ru
      cases rv
      obtain ⟨jts, r2, pl', _⟩ := I.list (SqL.of e1)
      exact SeqAt.RcNeAt.str_list _ _ pl'.isList (by omega)
  | @tup n p xs ds e0 hl h =>
    cases q with
    | non =>
      cases ru
      cases rv
      obtain ⟨its, r1, pl, _⟩ := I.tuple (SqT.of e0)
      exact SeqAt.RcNeAt.tuple_none pl (by omega)
    | bl =>
      cases ru
      cases rv
      obtain ⟨its, r1, pl, _⟩ := I.tuple (SqT.of e0)
      exact SeqAt.RcNeAt.tuple_bool _ pl (by omega)
    | int =>
      cases ru
      obtain ⟨_, rfl⟩ := rv
      obtain ⟨its, r1, pl, _⟩ := I.tuple (SqT.of e0)
      exact SeqAt.RcNeAt.tuple_int _ _ pl (by omega)
    | str =>
      cases ru
      obtain ⟨_, rfl⟩ := rv
      obtain ⟨its, r1, pl, _⟩ := I.tuple (SqT.of e0)
      exact SeqAt.RcNeAt.tuple_str _ _ pl (by omega)
    | @tup m p' ys es e1 hl1 h1 =>
      cases ru
      cases rv
      obtain ⟨its, r1, pl, _⟩ := I.tuple (SqT.of e0)
      obtain ⟨jts, r2, pl', _⟩ := I.tuple (SqT.of e1)
      have y := SeqAt.RcNeAt.tuples (A := A) (e := fun j => deq (ds.getD j .non) (es.getD j .non)) pl pl' (by omega) (elts_at r1 r2 hl hl1 fun j x y d e u w a b c k ra rb => (h j x d a c).eqAt (h1 j y e b k) I ra rb (by show A.units + 1 + _ < cLine; omega))
      rw [List.size_toArray, List.size_toArray, ← r1.length, ← r2.length, hl, hl1, deqs_all] at y
      exact y
    | @lst m p' ys es e1 hl1 h1 =>
      cases ru
      cases rv
      obtain ⟨its, r1, pl, _⟩ := I.tuple (SqT.of e0)
      obtain ⟨jts, r2, pl', _⟩ := I.list (SqL.of e1)
      exact SeqAt.RcNeAt.tuple_list pl pl'.isList (by omega)
  | @lst n p xs ds e0 hl h =>
    cases q with
    | non =>
      cases ru
      cases rv
      obtain ⟨its, r1, pl, _⟩ := I.list (SqL.of e0)
      exact SeqAt.RcNeAt.list_none pl.isList (by omega)
    | bl =>
      cases ru
      cases rv
      obtain ⟨its, r1, pl, _⟩ := I.list (SqL.of e0)
      exact SeqAt.RcNeAt.list_bool _ pl.isList (by omega)
    | int =>
      cases ru
      obtain ⟨_, rfl⟩ := rv
      obtain ⟨its, r1, pl, _⟩ := I.list (SqL.of e0)
      exact SeqAt.RcNeAt.list_int _ _ pl.isList (by omega)
    | str =>
      cases ru
      obtain ⟨_, rfl⟩ := rv
      obtain ⟨its, r1, pl, _⟩ := I.list (SqL.of e0)
      exact SeqAt.RcNeAt.list_str _ _ pl.isList (by omega)
    | @tup m p' ys es e1 hl1 h1 =>
      cases ru
      cases rv
      obtain ⟨its, r1, pl, _⟩ := I.list (SqL.of e0)
      obtain ⟨jts, r2, pl', _⟩ := I.tuple (SqT.of e1)
      exact SeqAt.RcNeAt.list_tuple pl.isList pl' (by omega)
    | @lst m p' ys es e1 hl1 h1 =>
      cases ru
      cases rv
      obtain ⟨its, r1, pl, _⟩ := I.list (SqL.of e0)
      obtain ⟨jts, r2, pl', _⟩ := I.list (SqL.of e1)
      have g1 := r1.length
      have g2 := r2.length
      by_cases hz : ds.length = es.length
      · have y := SeqAt.RcNeAt.lists (A := A) (e := fun j => deq (ds.getD j .non) (es.getD j .non)) pl.isList pl'.isList (by rw [List.size_toArray, List.size_toArray]; omega) (by omega) (elts_at r1 r2 hl hl1 fun j x y d e u w a b c k ra rb => (h j x d a c).eqAt (h1 j y e b k) I ra rb (by show A.units + 1 + _ < cLine; omega))
        rw [List.size_toArray, ← r1.length, hl, deqs_all' hz] at y
        exact y
      · rw [show deq (.lst ds) (.lst es) = false from deqs_len hz]
        exact SeqAt.RcNeAt.lists_lengths pl.isList pl'.isList (by rw [List.size_toArray, List.size_toArray]; simp; omega) (by omega)
end
section
variable {X : Cx}
def rEqD (neg : Bool) : R2 := fun x y H Q => ∃ d e, Rp H 9 x d ∧ Rp H 9 y e ∧ Q (.bl (if neg then !(deq d e) else deq d e)) H
theorem op_neD (hu : X.A.units + 10 < cLine) : OpR X (compareOp .NotEq) (rEqD true) := by
  intro pins s σ H x y v u Q I rx ry h
  obtain ⟨d, e, rd, re, k⟩ := h
  exact rd.rcNeAt re I rx ry (by omega) _ _ _ _ ⟨.bl _, H, I, rfl, k⟩
end
/-! ### how one shows what a value stands for -/
section
variable {H : Hp} {n : Nat} {p : Addr} {x y z w : V} {a b c d : D}
theorem Rp.t2 (e : H p = some (.tup [x, y])) (ha : Rp H n x a) (hb : Rp H n y b) : Rp H (n + 1) (.ref p) (.tup [a, b]) := .tup e rfl fun j x d h k => by
  match j with
  | 0 => cases h; cases k; exact ha
  | 1 => cases h; cases k; exact hb
  | j + 2 => simp at h
mutual
theorem deq_self : ∀ d : D, deq d d = true
  | .non => rfl
  | .bl b => by simp [deq]
  | .int i => by simp [deq]
  | .str x => by simp [deq]
  | .tup ds => by simp only [deq]; exact deqs_same ds
  | .lst ds => by simp only [deq]; exact deqs_same ds
theorem deqs_same : ∀ ds : List D, deqs ds ds = true
  | [] => by simp [deqs]
  | d :: ds => by simp only [deqs, Bool.and_eq_true]; exact ⟨deq_self d, deqs_same ds⟩
end
end
end L2
/-! COMPREHENSIONS of one clause, any target, a test or none -/
namespace L2
open PySem PySem.Spec PyProof.Rows
section
variable {X : Cx} {scope : Scope} {cl : List (Str × Addr)} {xs : List Str} {fv : List (Str × Nat)} {elt iter tg : Expr} {ifs : List Expr} {pos : Pos} {te : TE} {tc : TT} {g : TG}
end
end L2
/-! WHAT THE LAWS DRAW: pots, lines -/
namespace Dr
open PySem PySem.Spec L2 Mth Sp1 Sp2 Sp3 Sp7
end Dr
namespace Dr
open PySem PySem.Spec L2 Mth Sp1 Sp2 Sp3 Sp7
theorem at_crn {qs : Crn} {k : Int} (h0 : 0 ≤ k) (h1 : k < (qs.length : Int)) : ∃ q, qs[k.toNat]? = some q ∧ atI (qs.map fun (q : Addr × Int × Int) => V.ref q.1) k = some (.ref q.1) := by
  have hk : k.toNat < qs.length := by omega
  refine ⟨qs[k.toNat], List.getElem?_eq_getElem hk, ?_⟩
  have := atI_nat (xs := qs.map fun (q : Addr × Int × Int) => V.ref q.1) (j := k.toNat) (v := .ref qs[k.toNat].1) (by rw [List.getElem?_map, List.getElem?_eq_getElem hk]; rfl)
  rw [show ((k.toNat : Nat) : Int) = k by omega] at this
  exact this
end Dr
namespace Dr
open PySem
end Dr
/-! list(reversed(xs)) -/
namespace PySem
namespace F
end F
section
variable {prog : Program} {w : World} {A : Around} {E : Value → Shared → Prop} {s : Shared}
end
end PySem
namespace L2
open PySem PySem.Spec PyProof.Rows
section
variable {X : Cx} {e : Expr} {te : TE} {p1 p2 q1 q2 : Pos}
end
section
variable {X : Cx}
end
end L2
/-! xs[::-1] -/
namespace L2
open PySem PySem.Spec PyProof.Rows
theorem sliceRange_rev (n : Nat) : sliceRange ((n : Int) - 1) (-1) (-1) = (List.range n).map fun k => n - 1 - k := by
  unfold sliceRange
  have e : (if ((-1 : Int) > 0) then (if (n : Int) - 1 < -1 then (-1 - ((n : Int) - 1) + -1 - 1) / -1 else 0) else (if (n : Int) - 1 > -1 then ((n : Int) - 1 - -1 - -1 - 1) / - -1 else 0)).toNat = n := by
    rw [if_neg (by decide)]
    split
    · rw [show - (-1 : Int) = 1 from rfl, Int.ediv_one]
      omega
    · omega
  show List.map (fun k : Nat => ((n : Int) - 1 + -1 * (k : Int)).toNat) (List.range (if ((-1 : Int) > 0) then (if (n : Int) - 1 < -1 then (-1 - ((n : Int) - 1) + -1 - 1) / -1 else 0) else (if (n : Int) - 1 > -1 then ((n : Int) - 1 - -1 - -1 - 1) / - -1 else 0)).toNat) = _
  rw [e]
  refine List.map_congr_left fun k _ => ?_
  omega
theorem slicePick_rev (its : List Value) : slicePick its.toArray none none (some (-1)) = its.reverse.toArray := by
  unfold slicePick
  have b : sliceBounds none none (some (-1)) its.toArray.size = ((its.length : Int) - 1, -1, -1) := by
    unfold sliceBounds
    simp
  rw [b]
  show (List.filterMap (fun x => its.toArray[x]?) (sliceRange ((its.length : Int) - 1) (-1) (-1))).toArray = _
  rw [sliceRange_rev]
  congr 1
  have key : ∀ (l : List Value), List.filterMap (fun x => l[x]?) ((List.range l.length).map fun k => l.length - 1 - k) = l.reverse := by
    intro l
    have e2 : (List.range l.length).map (fun k => l.length - 1 - k) = (List.range l.length).reverse := by
      refine List.ext_getElem? fun i => ?_
      by_cases hi : i < l.length
      · rw [List.getElem?_map, List.getElem?_range hi, List.getElem?_reverse (by simpa using hi), List.length_range, List.getElem?_range (by omega)]
        rfl
      · rw [List.getElem?_eq_none (by simp; omega), List.getElem?_eq_none (by simp; omega)]
    rw [e2, List.filterMap_reverse]
    congr 1
    have this : ∀ (l : List Value), List.filterMap (fun x => l[x]?) (List.range l.length) = l := by
      intro l
      have h : ∀ n, n ≤ l.length → List.filterMap (fun x => l[x]?) (List.range n) = l.take n := by
        intro n
        induction n with
        | zero => intro _; rfl
        | succ n ih =>
          intro hn
          rw [List.range_succ, List.filterMap_append, ih (by omega), List.take_succ]
          congr 1
      rw [h _ (Nat.le_refl _), List.take_length]
    exact this l
  have k2 := key its
  simpa using k2
section
variable {X : Cx} {e : Expr} {te : TE} {st : Expr} {ts : TO} {pos p2 : Pos}
def tRevS (K : PySem.W.Frag) (te : TE) (ts : TO) : TE := fun σ H Q => te σ H fun x H1 => ts σ H1 fun o H2 => o = some (-1) ∧ ∃ a xs, x = .ref a ∧ SqL K H2 a xs ∧ ∀ p H3, Same H2 H3 → H3 p = some (.lst xs.reverse) → H2 p = none → Q (.ref p) H3
/-- xs[::-1] -/
theorem pe_sliceR (he : PE X e te) (hs : PO X (some st) ts) : PE X (.Subscript e (.Slice none none (some st) p2) pos) (tRevS X.K te ts) := by
  intro pins s σ H Q I h
  refine Subscript_ (thn (he pins s σ H _ I h) fun v s1 ⟨x, H1, I1, r1, q1⟩ => ?_)
  refine wpAny_Slice ?_
  rw [evalPart_none]
  refine wpAny_pure ?_
  refine wpAny_pure ?_
  refine thn (hs pins s1 σ H1 _ I1 q1) fun vs s3 ⟨o, H3, I3, ps, q3⟩ => ?_
  obtain ⟨rfl, a, xs, rfl, hx, q⟩ := q3
  have I4 : Inv X pins σ H3 { s3 with heap := s3.heap.push { cls := .type "slice", data := .fields #[.none, .none, vs] } } := I3.kept (t' := s3.toks) fun b ob q => Heap.get?_push_of_some _ q
  cases r1
  obtain ⟨its, r, ht, hz⟩ := I4.list hx
  show wpAny (model X.prog X.w) X.A (subscriptTail e (.Slice none none (some st) p2) (.ref a) (.ref s3.heap.objs.size)) (EP X pins σ Q) X.xe { s3 with heap := s3.heap.push { cls := .type "slice", data := .fields #[.none, .none, vs] } }
  refine tail_any (ops := [.ref a, .ref s3.heap.objs.size]) ht.isList.typeIs slot_list_getitem.lookup ?_ (by with_unfolding_all rfl)
  have hlen := r.length
  refine wpAny_getItem_list_slice ht.isList (Heap.IsSliceOf.new ..) .none .none ps (by decide) ?_ (by rw [List.size_toArray] <;> omega)
  rw [slicePick_rev]
  have hf := I4.hok.fresh (Nat.le_refl _)
  refine ⟨.ref _, upd H3 _ (.lst xs.reverse), I4.laid (fun b ob q => Heap.get?_push_of_some _ q) (Nat.le_refl _) ?_, rfl, q _ _ (Same.new hf) upd_same hf⟩
  exact ⟨by rw [List.length_reverse]; exact hz, _, 0, r.reverse, Heap.get?_push_size _ rfl⟩
end
end L2
/-! POINTS OF LINES THAT ARE THE SAME: a corner put in, a corner doubled, a line turned -/
namespace Sp12
open PySem PySem.Spec L2 Mth Sp1 Sp2 Sp3
/-- the number c of the corner j -/
def cr (c : Int × Int → Int) (qs : Crn) (j : Nat) : Int := c (qs.getD j (0, 0, 0)).2
def ptC (c : Int × Int → Int) (qs : Crn) (t b : Int) : Int := numAt (c (side0 qs t b)) (c (side1 qs t b)) t b
theorem pt_on {c : Int × Int → Int} {qs : Crn} {t b : Int} {k : Nat} (hb : 0 < b) (hk : k + 1 < qs.length) (h1 : (k : Int) * b ≤ t) (h2 : t ≤ ((k : Int) + 1) * b) :
    ptC c qs t b = cr c qs k * b + (cr c qs (k + 1) - cr c qs k) * (t - (k : Int) * b) := by
  have e0 := Int.emod_add_mul_ediv t b
  rw [Int.mul_comm] at e0
  have r0 := Int.emod_nonneg t (show b ≠ 0 by omega)
  have r1 := Int.emod_lt_of_pos t hb
  unfold ptC Sp3.numAt side0 side1
  by_cases hlt : t < ((k : Int) + 1) * b
  · have ek : t / b = (k : Int) := by
      refine Int.le_antisymm ?_ (fl_ge hb h1)
      have h3 : t / b < (k : Int) + 1 := Int.ediv_lt_of_lt_mul hb hlt
      omega
    have er : t % b = t - (k : Int) * b := by rw [ek] at e0; omega
    rw [ek, er, Int.toNat_natCast, Nat.min_eq_left (by omega)]
    rfl
  · have et : t = ((k : Int) + 1) * b := by omega
    have ek : t / b = (k : Int) + 1 := by rw [et]; exact Int.mul_ediv_cancel _ (by omega)
    have er : t % b = 0 := by rw [et]; exact Int.mul_emod_left _ _
    rw [ek, er, show ((k : Int) + 1).toNat = k + 1 by omega, Int.mul_zero, Int.add_zero]
    have e2 : t - (k : Int) * b = b := by rw [et, Int.add_mul, Int.one_mul]; omega
    rw [e2]
    show cr c qs (k + 1) * b = _
    generalize cr c qs (k + 1) = x
    generalize cr c qs k = y
    rw [Int.sub_mul]
    omega
theorem seg {t b : Int} {n : Nat} (hb : 0 < b) (hn : 2 ≤ n) (h0 : 0 ≤ t) (h1 : t ≤ ((n : Int) - 1) * b) : ∃ k : Nat, k + 1 < n ∧ (k : Int) * b ≤ t ∧ t ≤ ((k : Int) + 1) * b := by
  have q0 := fl_nn hb h0
  have q1 := fl_le (a := t) hb
  have q2 := fl_lt (a := t) hb
  by_cases h : t / b < (n : Int) - 1
  · refine ⟨(t / b).toNat, by omega, ?_, ?_⟩
    · rw [show (((t / b).toNat : Nat) : Int) = t / b by omega]; exact q1
    · rw [show (((t / b).toNat : Nat) : Int) = t / b by omega]; omega
  · have e : ((n - 2 : Nat) : Int) = (n : Int) - 2 := by omega
    refine ⟨n - 2, by omega, ?_, ?_⟩
    · rw [e]
      have h3 : ((n : Int) - 2) * b ≤ t / b * b := Int.mul_le_mul_of_nonneg_right (by omega) (by omega)
      omega
    · rw [e, show (n : Int) - 2 + 1 = (n : Int) - 1 by omega]
      exact h1
theorem seg_hi {t b : Int} {n a : Nat} (hb : 0 < b) (hn : a + 2 ≤ n) (h0 : (a : Int) * b ≤ t) (h1 : t ≤ ((n : Int) - 1) * b) : ∃ k : Nat, a ≤ k ∧ k + 1 < n ∧ (k : Int) * b ≤ t ∧ t ≤ ((k : Int) + 1) * b := by
  have e : ((n - a : Nat) : Int) = (n : Int) - (a : Int) := by omega
  obtain ⟨k, hk, g1, g2⟩ := seg (t := t - (a : Int) * b) (n := n - a) hb (by omega) (by omega) (by rw [e, show (n : Int) - (a : Int) - 1 = ((n : Int) - 1) - (a : Int) by omega, Int.sub_mul]; omega)
  refine ⟨a + k, by omega, by omega, ?_, ?_⟩
  · rw [Int.natCast_add, Int.add_mul]; omega
  · rw [Int.natCast_add, show (a : Int) + (k : Int) + 1 = (a : Int) + ((k : Int) + 1) by omega, Int.add_mul]; omega
/-- one of the two numbers of a corner -/
def Cd (c : Int × Int → Int) : Prop := c = (fun z => z.1) ∨ c = (fun z => z.2)
/-- two places of two lines at one point -/
def AL (qs : Crn) (t b : Int) (qs' : Crn) (t' b' : Int) : Prop := ∀ c, Cd c → ptC c qs t b * b' = ptC c qs' t' b' * b
/-- corners alike in one part -/
theorem al_part {qs qs' : Crn} {t b : Int} {k k' : Nat} (hb : 0 < b) (hk : k + 1 < qs.length) (hk' : k' + 1 < qs'.length) (h1 : (k : Int) * b ≤ t) (h2 : t ≤ ((k : Int) + 1) * b) (e0 : ∀ c, cr c qs' k' = cr c qs k) (e1 : ∀ c, cr c qs' (k' + 1) = cr c qs (k + 1)) (t' : Int) (et : t' = t + ((k' : Int) - (k : Int)) * b) : AL qs t b qs' t' b := by
  intro c hc
  have g1 : (k' : Int) * b ≤ t' := by rw [et, Int.sub_mul]; omega
  have g2 : t' ≤ ((k' : Int) + 1) * b := by rw [et, Int.sub_mul]; rw [Int.add_mul] at h2 ⊢; omega
  rw [pt_on hb hk h1 h2, pt_on hb hk' g1 g2, e0, e1]
  have : t' - (k' : Int) * b = t - (k : Int) * b := by rw [et, Int.sub_mul]; omega
  rw [this]
/-! ### a corner doubled -/
theorem dbl_lo {qs : Crn} {a j : Nat} (h : j ≤ a) (ha : a < qs.length) : (qs.take (a + 1) ++ qs.drop a).getD j (0, 0, 0) = qs.getD j (0, 0, 0) := by
  rw [List.getD_eq_getElem?_getD, List.getD_eq_getElem?_getD, List.getElem?_append_left (by rw [List.length_take]; omega), List.getElem?_take_of_lt (by omega)]
theorem dbl_hi {qs : Crn} {a j : Nat} (h : a ≤ j) (ha : a < qs.length) : (qs.take (a + 1) ++ qs.drop a).getD (j + 1) (0, 0, 0) = qs.getD j (0, 0, 0) := by
  rw [List.getD_eq_getElem?_getD, List.getD_eq_getElem?_getD, List.getElem?_append_right (by rw [List.length_take]; omega), List.length_take, List.getElem?_drop]
  congr 2
  omega
theorem dbl_len {qs : Crn} {a : Nat} (ha : a < qs.length) : (qs.take (a + 1) ++ qs.drop a).length = qs.length + 1 := by
  rw [List.length_append, List.length_take, List.length_drop]; omega
theorem al_dbl_lo {qs : Crn} {a : Nat} {t b : Int} (hb : 0 < b) (ha : a + 1 < qs.length) (h0 : 0 ≤ t) (h1 : t ≤ (a : Int) * b) : AL qs t b (qs.take (a + 1) ++ qs.drop a) t b := by
  by_cases ha0 : a = 0
  · subst ha0
    have et : t = 0 := by simp at h1; omega
    intro c hc
    have g : ((0 : Nat) : Int) * b ≤ t := by rw [et]; simp
    have g2 : t ≤ (((0 : Nat) : Int) + 1) * b := by rw [et]; simp; omega
    rw [pt_on hb ha g g2, pt_on (k := 0) hb (by rw [dbl_len (by omega)]; omega) g g2]
    unfold cr
    rw [dbl_lo (Nat.le_refl _) (by omega), et]
    simp
  · obtain ⟨k, hk, g1, g2⟩ := seg (n := a + 1) hb (by omega) h0 (by rw [show ((a + 1 : Nat) : Int) - 1 = (a : Int) by omega]; exact h1)
    refine al_part (k := k) (k' := k) hb (by omega) (by rw [dbl_len (by omega)]; omega) g1 g2 (fun c => ?_) (fun c => ?_) t (by simp)
    · unfold cr; rw [dbl_lo (by omega) (by omega)]
    · unfold cr; rw [dbl_lo (by omega) (by omega)]
theorem al_dbl_hi {qs : Crn} {a : Nat} {t b : Int} (hb : 0 < b) (ha : a + 1 < qs.length) (h0 : (a : Int) * b ≤ t) (h1 : t ≤ ((qs.length : Int) - 1) * b) : AL qs t b (qs.take (a + 1) ++ qs.drop a) (t + b) b := by
  obtain ⟨k, hak, hk, g1, g2⟩ := seg_hi hb (by omega) h0 h1
  refine al_part (k := k) (k' := k + 1) hb hk (by rw [dbl_len (by omega)]; omega) g1 g2 (fun c => ?_) (fun c => ?_) (t + b) (by rw [Int.natCast_add, show (k : Int) + ((1 : Nat) : Int) - (k : Int) = 1 by omega, Int.one_mul])
  · unfold cr; rw [dbl_hi hak (by omega)]
  · unfold cr; rw [dbl_hi (by omega) (by omega)]
/-! ### a corner put in -/
theorem ins_lo {qs : Crn} {z : Addr × Int × Int} {a j : Nat} (h : j ≤ a) (ha : a < qs.length) : (qs.take (a + 1) ++ z :: qs.drop (a + 1)).getD j (0, 0, 0) = qs.getD j (0, 0, 0) := by
  rw [List.getD_eq_getElem?_getD, List.getD_eq_getElem?_getD, List.getElem?_append_left (by rw [List.length_take]; omega), List.getElem?_take_of_lt (by omega)]
theorem ins_at {qs : Crn} {z : Addr × Int × Int} {a : Nat} (ha : a < qs.length) : (qs.take (a + 1) ++ z :: qs.drop (a + 1)).getD (a + 1) (0, 0, 0) = z := by
  rw [List.getD_eq_getElem?_getD, List.getElem?_append_right (by rw [List.length_take]; omega), List.length_take, show a + 1 - min (a + 1) qs.length = 0 by omega]
  rfl
theorem ins_hi {qs : Crn} {z : Addr × Int × Int} {a j : Nat} (h : a + 1 ≤ j) (ha : a < qs.length) : (qs.take (a + 1) ++ z :: qs.drop (a + 1)).getD (j + 1) (0, 0, 0) = qs.getD j (0, 0, 0) := by
  rw [List.getD_eq_getElem?_getD, List.getD_eq_getElem?_getD, List.getElem?_append_right (by rw [List.length_take]; omega), List.length_take, show j + 1 - min (a + 1) qs.length = (j - (a + 1)) + 1 by omega, List.getElem?_cons_succ, List.getElem?_drop]
  congr 2
  omega
theorem ins_len {qs : Crn} {z : Addr × Int × Int} {a : Nat} (ha : a < qs.length) : (qs.take (a + 1) ++ z :: qs.drop (a + 1)).length = qs.length + 1 := by
  rw [List.length_append, List.length_take, List.length_cons, List.length_drop]; omega
theorem al_ins_lo {qs : Crn} {z : Addr × Int × Int} {a : Nat} {t b : Int} (hb : 0 < b) (ha : a + 1 < qs.length) (h0 : 0 ≤ t) (h1 : t ≤ (a : Int) * b) : AL qs t b (qs.take (a + 1) ++ z :: qs.drop (a + 1)) t b := by
  by_cases ha0 : a = 0
  · subst ha0
    have et : t = 0 := by simp at h1; omega
    intro c hc
    have g : ((0 : Nat) : Int) * b ≤ t := by rw [et]; simp
    have g2 : t ≤ (((0 : Nat) : Int) + 1) * b := by rw [et]; simp; omega
    rw [pt_on hb ha g g2, pt_on (k := 0) hb (by rw [ins_len (by omega)]; omega) g g2]
    unfold cr
    rw [ins_lo (Nat.le_refl _) (by omega), et]
    simp
  · obtain ⟨k, hk, g1, g2⟩ := seg (n := a + 1) hb (by omega) h0 (by rw [show ((a + 1 : Nat) : Int) - 1 = (a : Int) by omega]; exact h1)
    refine al_part (k := k) (k' := k) hb (by omega) (by rw [ins_len (by omega)]; omega) g1 g2 (fun c => ?_) (fun c => ?_) t (by simp)
    · unfold cr; rw [ins_lo (by omega) (by omega)]
    · unfold cr; rw [ins_lo (by omega) (by omega)]
theorem al_ins_hi {qs : Crn} {z : Addr × Int × Int} {a : Nat} {t b : Int} (hb : 0 < b) (ha : a + 1 < qs.length) (h0 : ((a : Int) + 1) * b ≤ t) (h1 : t ≤ ((qs.length : Int) - 1) * b) : AL qs t b (qs.take (a + 1) ++ z :: qs.drop (a + 1)) (t + b) b := by
  by_cases hl : a + 2 < qs.length
  · obtain ⟨k, hak, hk, g1, g2⟩ := seg_hi (a := a + 1) hb (by omega) (by rw [Int.natCast_add]; exact h0) h1
    refine al_part (k := k) (k' := k + 1) hb hk (by rw [ins_len (by omega)]; omega) g1 g2 (fun c => ?_) (fun c => ?_) (t + b) (by rw [Int.natCast_add, show (k : Int) + ((1 : Nat) : Int) - (k : Int) = 1 by omega, Int.one_mul])
    · unfold cr; rw [ins_hi hak (by omega)]
    · unfold cr; rw [ins_hi (by omega) (by omega)]
  · have en : (qs.length : Int) - 1 = (a : Int) + 1 := by omega
    rw [en] at h1
    have et : t = ((a : Int) + 1) * b := by omega
    intro c hc
    have e2 : ((a : Int) + 1) * b = (a : Int) * b + b := by rw [Int.add_mul, Int.one_mul]
    rw [pt_on (k := a) hb ha (by rw [et, e2]; omega) (by rw [et]; exact Int.le_refl _), pt_on (k := a + 1) hb (by rw [ins_len (by omega)]; omega) (by rw [et, Int.natCast_add]; show ((a : Int) + 1) * b ≤ _; omega) (by rw [et, Int.natCast_add]; show _ ≤ ((a : Int) + 1 + 1) * b; rw [Int.add_mul ((a : Int) + 1), Int.one_mul]; exact Int.le_refl _)]
    unfold cr
    rw [ins_at (by omega), ins_hi (Nat.le_refl _) (by omega), et, Int.natCast_add]
    show _ = (_ + _ * (((a : Int) + 1) * b + b - ((a : Int) + 1) * b)) * b
    rw [e2]
    generalize c (qs.getD a (0, 0, 0)).2 = x
    generalize c (qs.getD (a + 1) (0, 0, 0)).2 = y
    generalize c z.2 = u
    grind
/-- behind the corner: the place is between the two corners -/
theorem al_ins_mid {qs : Crn} {z : Addr × Int × Int} {a : Nat} {t b T B : Int} {s v : Int} (hb : 0 < b) (hB : 0 < B) (ha : a + 1 < qs.length) (g1 : (a : Int) * b ≤ t) (g2 : t ≤ ((a : Int) + 1) * b)
    (d : (Int × Int → Int) → Int) (h1 : ∀ c, Cd c → cr c qs (a + 1) = cr c qs a + s * d c) (hz : ∀ c, Cd c → c z.2 = cr c qs a + v * d c) (hv : 0 < v) (f1 : (a : Int) * B ≤ T) (f2 : T ≤ ((a : Int) + 1) * B)
    (hT : (T - (a : Int) * B) * (b * v) = (t - (a : Int) * b) * s * B)
    (lin : ∀ c : Int × Int → Int, ptC c (qs.take (a + 1) ++ z :: qs.drop (a + 1)) T B = cr c qs a * B + (c z.2 - cr c qs a) * (T - (a : Int) * B)) : AL qs t b (qs.take (a + 1) ++ z :: qs.drop (a + 1)) T B := by
  intro c hc
  rw [pt_on hb ha g1 g2, lin c, h1 c hc, hz c hc]
  generalize cr c qs a = x
  generalize d c = e at *
  generalize T - (a : Int) * B = p at *
  generalize t - (a : Int) * b = q at *
  have : v * ((x * b + (x + s * e - x) * q) * B) = v * ((x * B + (x + v * e - x) * p) * b) := by grind
  exact Int.eq_of_mul_eq_mul_left (by omega) this
theorem lin_lo {qs : Crn} {z : Addr × Int × Int} {a : Nat} {T B : Int} (hB : 0 < B) (ha : a + 1 < qs.length) (f1 : (a : Int) * B ≤ T) (f2 : T ≤ ((a : Int) + 1) * B) (c : Int × Int → Int) : ptC c (qs.take (a + 1) ++ z :: qs.drop (a + 1)) T B = cr c qs a * B + (c z.2 - cr c qs a) * (T - (a : Int) * B) := by
  rw [pt_on hB (by rw [ins_len (by omega)]; omega) f1 f2]
  unfold cr
  rw [ins_at (by omega), ins_lo (Nat.le_refl _) (by omega)]
theorem al_ins_mid1 {qs : Crn} {z : Addr × Int × Int} {a : Nat} {t b T B : Int} {s v : Int} (hb : 0 < b) (hB : 0 < B) (ha : a + 1 < qs.length) (g1 : (a : Int) * b ≤ t) (g2 : t ≤ ((a : Int) + 1) * b)
    (d : (Int × Int → Int) → Int) (h1 : ∀ c, Cd c → cr c qs (a + 1) = cr c qs a + s * d c) (hz : ∀ c, Cd c → c z.2 = cr c qs a + v * d c) (hv : 0 < v) (hs : 0 ≤ s) (hle : (t - (a : Int) * b) * s ≤ v * b)
    (hT : T * (b * v) = ((a : Int) * b * v + (t - (a : Int) * b) * s) * B) : AL qs t b (qs.take (a + 1) ++ z :: qs.drop (a + 1)) T B ∧ 0 ≤ T ∧ T ≤ ((qs.length + 1 : Nat) - 1 : Int) * B := by
  have hbv : 0 < b * v := Int.mul_pos hb hv
  have hp : 0 ≤ (t - (a : Int) * b) * s := Int.mul_nonneg (by omega) hs
  have hT' : (T - (a : Int) * B) * (b * v) = (t - (a : Int) * b) * s * B := by grind
  have f1 : (a : Int) * B ≤ T := by
    have h : 0 ≤ (T - (a : Int) * B) * (b * v) := by rw [hT']; exact Int.mul_nonneg hp (by omega)
    have := Int.nonneg_of_mul_nonneg_left h hbv
    omega
  have f2 : T ≤ ((a : Int) + 1) * B := by
    have h : (T - (a : Int) * B) * (b * v) ≤ B * (b * v) := by
      rw [hT']
      have := Int.mul_le_mul_of_nonneg_right hle (show 0 ≤ B by omega)
      grind
    have := Int.le_of_mul_le_mul_right h hbv
    rw [Int.add_mul, Int.one_mul]
    omega
  refine ⟨al_ins_mid hb hB ha g1 g2 d h1 hz hv f1 f2 hT' (lin_lo hB ha f1 f2), ?_, ?_⟩
  · exact Int.le_trans (Int.mul_nonneg (by omega) (by omega)) f1
  · exact Int.le_trans f2 (Int.mul_le_mul_of_nonneg_right (by omega) (by omega))
theorem al_ins_mid2 {qs : Crn} {z : Addr × Int × Int} {a : Nat} {t b T B : Int} {s v w : Int} (hb : 0 < b) (hB : 0 < B) (ha : a + 1 < qs.length) (g1 : (a : Int) * b ≤ t) (g2 : t ≤ ((a : Int) + 1) * b)
    (d : (Int × Int → Int) → Int) (h1 : ∀ c, Cd c → cr c qs (a + 1) = cr c qs a + s * d c) (hz : ∀ c, Cd c → c z.2 = cr c qs a + v * d c) (hs : s = v + w) (hv : 0 ≤ v) (hw : 0 < w) (hle : v * b ≤ (t - (a : Int) * b) * s)
    (hT : T * (b * w) = (((a : Int) + 1) * b * w + (t - (a : Int) * b) * s - v * b) * B) : AL qs t b (qs.take (a + 1) ++ z :: qs.drop (a + 1)) T B ∧ 0 ≤ T ∧ T ≤ ((qs.length + 1 : Nat) - 1 : Int) * B := by
  have hbw : 0 < b * w := Int.mul_pos hb hw
  have hT' : (T - ((a : Int) + 1) * B) * (b * w) = ((t - (a : Int) * b) * s - v * b) * B := by grind
  have f1 : ((a : Int) + 1) * B ≤ T := by
    have h : 0 ≤ (T - ((a : Int) + 1) * B) * (b * w) := by rw [hT']; exact Int.mul_nonneg (by omega) (by omega)
    have := Int.nonneg_of_mul_nonneg_left h hbw
    omega
  have f2 : T ≤ ((a : Int) + 1 + 1) * B := by
    have hq : t - (a : Int) * b ≤ b := by rw [Int.add_mul, Int.one_mul] at g2; omega
    have h3 : (t - (a : Int) * b) * s ≤ b * s := Int.mul_le_mul_of_nonneg_right hq (by omega)
    have h : (T - ((a : Int) + 1) * B) * (b * w) ≤ B * (b * w) := by
      rw [hT']
      have h4 : (t - (a : Int) * b) * s - v * b ≤ b * w := by rw [hs] at h3 ⊢; grind
      have := Int.mul_le_mul_of_nonneg_right h4 (show 0 ≤ B by omega)
      grind
    have := Int.le_of_mul_le_mul_right h hbw
    rw [Int.add_mul ((a : Int) + 1), Int.one_mul]
    omega
  refine ⟨fun c hc => ?_, Int.le_trans (Int.mul_nonneg (by omega) (by omega)) f1, Int.le_trans f2 (Int.mul_le_mul_of_nonneg_right (by omega) (by omega))⟩
  rw [pt_on hb ha g1 g2, pt_on (k := a + 1) hB (by rw [ins_len (by omega)]; omega) (by rw [Int.natCast_add]; exact f1) (by rw [Int.natCast_add]; exact f2)]
  have e1 : cr c (qs.take (a + 1) ++ z :: qs.drop (a + 1)) (a + 1) = c z.2 := by unfold cr; rw [ins_at (by omega)]
  have e2 : cr c (qs.take (a + 1) ++ z :: qs.drop (a + 1)) (a + 1 + 1) = cr c qs (a + 1) := by unfold cr; rw [ins_hi (Nat.le_refl _) (by omega)]
  rw [e1, e2, h1 c hc, hz c hc, Int.natCast_add]
  show _ = (_ + _ * (T - ((a : Int) + 1) * B)) * b
  generalize cr c qs a = x
  generalize d c = e
  generalize T - ((a : Int) + 1) * B = p at *
  generalize t - (a : Int) * b = q at *
  subst hs
  have : w * ((x * b + (x + (v + w) * e - x) * q) * B) = w * (((x + v * e) * B + (x + (v + w) * e - (x + v * e)) * p) * b) := by grind
  exact Int.eq_of_mul_eq_mul_left (by omega) this
/-! ### a line turned -/
theorem rev_get {qs : Crn} {j : Nat} (h : j < qs.length) : qs.reverse.getD j (0, 0, 0) = qs.getD (qs.length - 1 - j) (0, 0, 0) := by
  rw [List.getD_eq_getElem?_getD, List.getD_eq_getElem?_getD, List.getElem?_reverse h]
theorem al_rev {qs : Crn} {t b : Int} (hb : 0 < b) (hn : 2 ≤ qs.length) (h0 : 0 ≤ t) (h1 : t ≤ ((qs.length : Int) - 1) * b) : AL qs t b qs.reverse (((qs.length : Int) - 1) * b - t) b := by
  obtain ⟨k, hk, g1, g2⟩ := seg hb hn h0 h1
  intro c hc
  have ek : ((qs.length - 2 - k : Nat) : Int) = (qs.length : Int) - 1 - ((k : Int) + 1) := by omega
  have m1 : ((qs.length : Int) - 1 - ((k : Int) + 1)) * b = ((qs.length : Int) - 1) * b - ((k : Int) + 1) * b := Int.sub_mul _ _ _
  have m2 : ((qs.length : Int) - 1 - ((k : Int) + 1) + 1) * b = ((qs.length : Int) - 1) * b - (k : Int) * b := by rw [show (qs.length : Int) - 1 - ((k : Int) + 1) + 1 = (qs.length : Int) - 1 - (k : Int) by omega, Int.sub_mul]
  have m3 : ((k : Int) + 1) * b = (k : Int) * b + b := by rw [Int.add_mul, Int.one_mul]
  rw [pt_on hb hk g1 g2, pt_on (k := qs.length - 2 - k) hb (by rw [List.length_reverse]; omega) (by rw [ek, m1]; omega) (by rw [ek, m2]; omega)]
  have e1 : cr c qs.reverse (qs.length - 2 - k) = cr c qs (k + 1) := by unfold cr; rw [rev_get (by omega), show qs.length - 1 - (qs.length - 2 - k) = k + 1 by omega]
  have e2 : cr c qs.reverse (qs.length - 2 - k + 1) = cr c qs k := by unfold cr; rw [rev_get (by omega), show qs.length - 1 - (qs.length - 2 - k + 1) = k by omega]
  rw [e1, e2, ek, m1, m3]
  generalize cr c qs k = x
  generalize cr c qs (k + 1) = y
  generalize (k : Int) * b = u
  generalize ((qs.length : Int) - 1) * b = v
  grind
/-! ### what follows: the same point, the same square -/
theorem al_frac {qs qs' : Crn} {t b t' b' : Int} (hb : 0 < b) (hb' : 0 < b') (h : AL qs t b qs' t' b') (c : Int × Int → Int) (hc : Cd c) {u v u' v' : Int} (f : Frac (ptC c qs t b) b u v) (f' : Frac (ptC c qs' t' b') b' u' v') : u = u' ∧ v = v' := by
  refine low_unique f.low f'.low ?_
  have e := h c hc
  have e1 := f.eq
  have e2 := f'.eq
  generalize ptC c qs t b = X at *
  generalize ptC c qs' t' b' = X' at *
  have : (b * b') * (u * v') = (b * b') * (u' * v) := by grind
  exact Int.eq_of_mul_eq_mul_left (Int.ne_of_gt (Int.mul_pos hb hb')) this
theorem al_sq {qs qs' bs : Crn} {t b t' b' x y : Int} (hb : 0 < b) (hb' : 0 < b') (hy : 0 < y) (h : AL qs t b qs' t' b') {s w s' w' : Int} (f : Frac (sqF bs x y qs t b) (sqD y b) s w) (f' : Frac (sqF bs x y qs' t' b') (sqD y b') s' w') : s = s' ∧ w = w' := by
  refine low_unique f.low f'.low ?_
  have e1 := f.eq
  have e2 := f'.eq
  have hX : ptX qs t b * b' = ptX qs' t' b' * b := h (fun z => z.1) (.inl rfl)
  have hY : ptY qs t b * b' = ptY qs' t' b' * b := h (fun z => z.2) (.inr rfl)
  unfold sqF sqN at e1 e2
  unfold sqD at e1 e2
  generalize ptX qs t b = X at *
  generalize ptX qs' t' b' = X' at *
  generalize ptY qs t b = Y at *
  generalize ptY qs' t' b' = Y' at *
  generalize ptX bs x y = U at *
  generalize ptY bs x y = W at *
  have k1 : (X * y - U * b) * b' = (X' * y - U * b') * b := by grind
  have k2 : (Y * y - W * b) * b' = (Y' * y - W * b') * b := by grind
  generalize X * y - U * b = A at *
  generalize X' * y - U * b' = A' at *
  generalize Y * y - W * b = C at *
  generalize Y' * y - W * b' = C' at *
  have m : (A * A + C * C) * (b' * b') = (A' * A' + C' * C') * (b * b) := by
    have q1 : A * A * (b' * b') = A' * A' * (b * b) := by
      have : A * b' * (A * b') = A' * b * (A' * b) := by rw [k1]
      grind
    have q2 : C * C * (b' * b') = C' * C' * (b * b) := by
      have : C * b' * (C * b') = C' * b * (C' * b) := by rw [k2]
      grind
    rw [Int.add_mul, Int.add_mul, q1, q2]
  generalize A * A + C * C = M at *
  generalize A' * A' + C' * C' = M' at *
  have hp : (b * b) * (b' * b') * (y * y) ≠ 0 := Int.ne_of_gt (Int.mul_pos (Int.mul_pos (Int.mul_pos hb hb) (Int.mul_pos hb' hb')) (Int.mul_pos hy hy))
  have : ((b * b) * (b' * b') * (y * y)) * (s * w') = ((b * b) * (b' * b') * (y * y)) * (s' * w) := by
    have a1 : M * w = s * (y * b * (y * b)) := e1
    have a2 : M' * w' = s' * (y * b' * (y * b')) := e2
    have b1 : ((b * b) * (b' * b') * (y * y)) * (s * w') = (M * w) * ((b' * b') * w') := by rw [a1]; grind
    have b2 : ((b * b) * (b' * b') * (y * y)) * (s' * w) = (M' * w') * ((b * b) * w) := by rw [a2]; grind
    rw [b1, b2]
    have b3 : M * w * (b' * b' * w') = (M * (b' * b')) * (w * w') := by grind
    rw [b3, m]
    grind
  exact Int.eq_of_mul_eq_mul_left hp this
end Sp12
/- a bound of a number's size -/
local macro_rules | `(tactic| walk_at "bt") => `(tactic| first
  | assumption
  | (apply L2.bits_mul <;> walk_at "bt")
  | (apply L2.bits_add2 <;> walk_at "bt")
  | (apply L2.bits_sub2 <;> walk_at "bt")
  | (apply L2.bits_neg; walk_at "bt")
  | (apply L2.bits_abs; walk_at "bt")
  | exact L2.bits_lit)
/- .. at most a written one -/
local macro_rules | `(tactic| walk_at "bl") => `(tactic| (apply L2.bits_of_le; (walk_at "bt"); decide))
local macro_rules | `(tactic| walk_at "cm") => `(tactic| first
  | exact L2.CM.l ⟨by decide, by decide⟩
  | exact L2.CM.r ⟨by decide, by decide⟩
  | (apply L2.CM.of; (walk_at "bt"); (walk_at "bt"); decide))
/- what stands at an address -/
local macro_rules | `(tactic| walk_at "at") => `(tactic| first
  | assumption
  | exact L2.upd_same
  | (refine L2.Same.at (by assumption) ?_; walk_at "at")
  | (refine L2.SameT.at (by assumption) ?_; walk_at "at"))
local macro_rules | `(tactic| walk_at "sm") => `(tactic| first
  | assumption
  | exact L2.Same.rfl'
  | (refine L2.Same.trans ?_ (by assumption); walk_at "sm"))
local macro_rules | `(tactic| walk_at "kn") => `(tactic| first
  | assumption
  | exact ⟨_, .int _⟩ | exact ⟨_, .bl _⟩ | exact ⟨_, .str _⟩ | exact ⟨_, .non⟩
  | exact ⟨_, .tup (by walk_at "at")⟩ | exact ⟨_, .lst (by walk_at "at")⟩ | exact ⟨_, .dict (by walk_at "at")⟩)
local macro_rules | `(tactic| walk_at "nice") => `(tactic| first
  | exact L2.nice_int | exact L2.nice_bool | exact L2.nice_tuple | exact L2.nice_list | exact L2.nice_str)
local macro_rules | `(tactic| walk_at "th") => `(tactic| first
  | assumption
  | exact Sp1.th_flat .non (fun p e => nomatch e) | exact Sp1.th_flat (.int _) (fun p e => nomatch e) | exact Sp1.th_flat (.bl _) (fun p e => nomatch e) | exact Sp1.th_flat (.str _) (fun p e => nomatch e)
  | exact Sp1.th_lst (by walk_at "at")
  | (refine' Sp1.th_tup ?hat ?hkn; (case hat => walk_at "at"); (case hkn => (simp only [List.mem_cons, List.not_mem_nil, or_false, forall_eq_or_imp, forall_eq, false_imp_iff, implies_true]; (try (first | (walk_at "kn") | (repeat' apply And.intro) <;> walk_at "kn")))))
  )
/- a step of the reading -/
local macro_rules | `(tactic| walk_at "r1") => `(tactic| first
  | (refine ⟨_, rfl, ?_⟩)
  | (refine ⟨_, _, rfl, rfl, ?_⟩)
  | (refine' ⟨_, _, _, _, rfl, rfl, L2.SqT.of ?hat, ?hix, ?nxt⟩; (case hat => walk_at "at"); (case hix => exact rfl))
  | (refine' ⟨_, _, _, _, rfl, rfl, L2.SqL.of ?hat, ?hix, ?nxt⟩; (case hat => walk_at "at"); (case hix => exact rfl))
  | (refine ⟨by walk_at "cm", ?_⟩)
  | (refine ⟨(by show (0 : Int) < _; decide), ?_⟩)
  | (refine ⟨⟨by decide, by decide⟩, ?_⟩)
  | (refine ⟨⟨by decide, by decide, by decide⟩, ?_⟩)
  | (refine ⟨Sp1.sz (by simp), fun _ _ _ _ _ => ?_⟩)
  | (refine ⟨Sp1.sz (by simp), L2.alloc fun _ _ _ _ => ?_⟩)
  | (refine' ⟨_, _, _, _, rfl, rfl, ?hat, ?hbt, Sp1.sz ?hsz, fun _ _ _ _ _ => ?nxt⟩; (case hat => walk_at "at"); (case hbt => walk_at "at"); (case hsz => simp))
  | (refine' ⟨_, _, _, _, rfl, rfl, ?hat, ?hbt, Sp1.sz ?hsz, L2.alloc fun _ _ _ _ => ?nxt⟩; (case hat => walk_at "at"); (case hbt => walk_at "at"); (case hsz => simp))
  | (refine' ⟨_, _, rfl, .inl (L2.SqL.of ?hat), ?nxt⟩; (case hat => walk_at "at"))
  | (refine' ⟨_, _, rfl, .inr (L2.SqT.of ?hat), ?nxt⟩; (case hat => walk_at "at"))
  | (refine' L2.alloc fun _ _ _ _ => ?nxt))
local macro_rules | `(tactic| walk_at "rd") => `(tactic| repeat (walk_at "r1"))
namespace K12
open PySem PySem.Spec L2 Mth Sp1 Sp2 Sp3 Sp12
def top (i : Nat) : Stmt := PySem.Challenge.pw_oneleash_k12_whole_points_stay.main.body.getD i (.Pass ⟨0, 0, 0, 0⟩)
structure Txt (mg : Str → Option Value) : Prop where
  z_abs : mg "abs" = none
  z_bool : mg "bool" = none
  z_int : mg "int" = none
  z_isinstance : mg "isinstance" = none
  z_len : mg "len" = none
  z_min : mg "min" = none
  z_range : mg "range" = none
  z_tuple : mg "tuple" = none
section
variable {P : Program} {w : World} {K : PySem.W.Frag} {mg : Str → Option Value} {base : Heap}
theorem S_is_whole : FnScope ["thing"] ["thing"] (defScope (top 5)) := ⟨rfl, rfl, rfl, by decide +kernel, rfl, by decide +kernel, by decide +kernel⟩
theorem fn_is_whole (D_is_whole : Df K mg "is_whole" (top 5)) (T : Txt mg) : Fn P w K mg base "is_whole" ["thing"] 1 spWhole := by
  refine D_is_whole.fn S_is_whole (fun _ _ _ _ _ _ us hl => match us, hl with | [_], _ => rfl) (fun vs H Q E h => ?_) (fun f cdv A outer s H vs Q E hr h => ?_)
  · obtain ⟨x, t, rfl, _⟩ := h
    rfl
  · obtain ⟨x, t, rfl, k, q⟩ := h
    refine ⟨_, (pss_one (ps_ret (pe_and (pe_callB call_isinst (by rfl) T.z_isinstance bt_isinstance (pa_cons (pv 0) (pa_cons (pe_ty T.z_int bt_int) pa_nil))) (pe_one (pe_not (pe_callB call_isinst (by rfl) T.z_isinstance bt_isinstance (pa_cons (pv 0) (pa_cons (pe_ty T.z_bool bt_bool) pa_nil)))))))), ?_⟩
    refine ⟨_, rfl, x, t, "int", rfl, k, .inl rfl, _, rfl, ?_⟩
    refine ite3 (fun hc => ?_) (fun hc => ?_)
    · refine ⟨_, rfl, x, t, "bool", rfl, k, .inr (.inl rfl), _, rfl, ?_⟩
      rw [(whole_sub k).1 hc]
      exact q
    · rw [(whole_sub k).2 hc] at q
      exact q
theorem S_common_divisor : FnScope ["one", "other", "rest"] ["one", "other"] (defScope (top 6)) := ⟨rfl, rfl, rfl, by decide +kernel, rfl, by decide +kernel, by decide +kernel⟩
theorem fn_common_divisor (D_common_divisor : Df K mg "common_divisor" (top 6)) (T : Txt mg) : Fn P w K mg base "common_divisor" ["one", "other"] 1 spGcd := by
  refine D_common_divisor.fn S_common_divisor (fun _ _ _ _ _ _ us hl => match us, hl with | [_, _], _ => rfl) (fun vs H Q E h => ?_) (fun f cdv A outer s H vs Q E hr h => ?_)
  · obtain ⟨a, b, rfl, _⟩ := h
    rfl
  · obtain ⟨a, b, rfl, q⟩ := h
    refine ⟨_, (pss_cons (ps_set (i := 0) S_common_divisor.nd rfl (Or.inl rfl) (pe_callB call_abs (by rfl) T.z_abs bt_abs (pa_cons (pv 0) pa_nil))) (pss_cons (ps_set (i := 1) S_common_divisor.nd rfl (Or.inl rfl) (pe_callB call_abs (by rfl) T.z_abs bt_abs (pa_cons (pv 1) pa_nil))) (pss_cons (ps_while PassesOwn.never (pt_cmpR op_ne (pv 1) pe_int (nomark _)) (pss_cons (ps_set (i := 2) S_common_divisor.nd rfl (Or.inl rfl) (pe_op op_mod (pv 0) (pv 1))) (pss_cons (ps_set (i := 0) S_common_divisor.nd rfl (Or.inl rfl) (pv 1)) (pss_one (ps_set (i := 1) S_common_divisor.nd rfl (Or.inl rfl) (pv 2)))))) (pss_one (ps_ret (pv 0)))))), ?_⟩
    refine ⟨_, rfl, a, rfl, _, rfl, b, rfl, ?_⟩
    refine while_by (fun σ H' => ∃ x y r, σ = [some (.int x), some (.int y), r] ∧ H' = H ∧ 0 ≤ x ∧ 0 ≤ y ∧ Int.gcd x y = Int.gcd a b)
      (fun σ _ => match σ with | [_, some (.int y), _] => y.toNat | _ => 0) ⟨_, _, _, rfl, rfl, abs_nonneg a, abs_nonneg b, by rw [gcd_abs, gcd_abs']⟩ ?_ ?_
    · rintro σ H' ⟨x, y, r, rfl, rfl, hx, hy, hg⟩
      refine ⟨_, rfl, rfl, _, rfl, ?_⟩
      refine ite3 (fun hc => ?_) (fun hc => ?_)
      · have hy0 : ¬ y = 0 := by simpa using hc
        have hy1 : 0 < y := by omega
        refine ⟨_, rfl, _, rfl, x, y, rfl, rfl, hy1, _, rfl, _, rfl, ⟨y, x % y, _, rfl, rfl, hy, Int.emod_nonneg _ hy0, ?_⟩, ?_⟩
        · rw [gcd_step hx hy1]
          exact hg
        · have h1 := Int.emod_lt_of_pos x hy1
          have h2 := Int.emod_nonneg x hy0
          show (x % y).toNat < y.toNat
          omega
      · have hy0 : y = 0 := by simpa using hc
        subst hy0
        refine ⟨_, rfl, ?_⟩
        have e : (Int.gcd a b : Int) = x := by rw [← hg]; exact gcd_zero hx
        rw [e] at q
        exact q
    · rintro σ H' Q1 Q2 hq ⟨v, e, hs, k, ek, r⟩
      exact ⟨v, e, hs, k, ek, hq _ _ r⟩
theorem S_ratio : FnScope ["top", "bottom", "divisor"] ["top", "bottom"] (defScope (top 7)) := ⟨rfl, rfl, rfl, by decide +kernel, rfl, by decide +kernel, by decide +kernel⟩
theorem fn_ratio {C : Addr} (D_ratio : DfD K mg "ratio" (top 7) [.int 1]) (O_NoRatio : ExcC K mg "NoRatio" C) (F_is_whole : Fn P w K mg base "is_whole" ["thing"] 1 spWhole) (F_common_divisor : Fn P w K mg base "common_divisor" ["one", "other"] 1 spGcd) : Fx P w K mg base "ratio" ["top", "bottom"] 2 [.int 1] (spRatioN C) := by
  refine D_ratio.fx S_ratio (fun T kV doc pm an cdv ct us its oT n s hv hl ho hs => ?_) (fun T kV doc pm an cdv ct us its oT n s hv hl ho hs => ?_) (fun vs H Q E h => ?_) (fun f cdv A outer s H vs Q E hr h => ?_)
  · obtain ⟨u, rfl, _⟩ := vals1 hv
    match us, hl with
    | [_, _], _ => exact BindsTo.of_defaults rfl ho hs rfl rfl
  · obtain ⟨u, rfl, _⟩ := vals1 hv
    have hl1 : us.length = 1 := by simpa using hl
    match us, hl1 with
    | [_], _ => exact BindsTo.of_defaults rfl ho hs rfl rfl
  · obtain ⟨a, b, nb, rfl, _⟩ := h
    rfl
  · obtain ⟨a, b, nb, rfl, ⟨ba, bb, hnb⟩, k0, k1⟩ := h
    refine ⟨_, (pss_cons (ps_if (pw_or (pt_not (pt_val (pe_fn F_is_whole (hr.mono (by decide)) (by rfl) (pa_cons (pv 0) pa_nil)))) (pw_or (pt_not (pt_val (pe_fn F_is_whole (hr.mono (by decide)) (by rfl) (pa_cons (pv 1) pa_nil)))) (pw_or1 (pt_cmpR op_eq (pv 1) pe_int (nomark _))))).pt (pss_one (ps_raise O_NoRatio (by rfl))) pss_nil) (pss_cons (ps_set (i := 2) S_ratio.nd rfl (Or.inl rfl) (pe_fn F_common_divisor (hr.mono (by decide)) (by rfl) (pa_cons (pv 0) (pa_cons (pv 1) pa_nil)))) (pss_cons (ps_if (pt_cmpR op_lt (pv 1) pe_int (nomark _)) (pss_one (ps_set (i := 2) S_ratio.nd rfl (Or.inl rfl) (pe_un un_neg (pv 2)))) pss_nil) (pss_one (ps_ret (pe_tup (pa_cons (pe_op op_fdivZ (pv 0) (pv 2)) (pa_cons (pe_op op_fdivZ (pv 1) (pv 2)) pa_nil)))))))), ?_⟩
    refine ⟨_, rfl, _, _, rfl, .int a, _, rfl, iteF ?_⟩
    refine ⟨_, rfl, _, _, rfl, .int b, _, rfl, iteF ?_⟩
    refine ⟨_, rfl, rfl, _, rfl, ?_⟩
    refine ite3 (fun hc => ?_) (fun hc => ?_)
    · exact k0 (by simpa using hc)
    · have hb : b ≠ 0 := by simpa using hc
      have hg := gcd_pos (a := a) (b := b) hb
      have bg : bits (Int.gcd a b : Int) ≤ 8000 := bits_le (gcd_bits2 hb bb) (by omega)
      refine ⟨_, rfl, _, rfl, a, b, rfl, ?_⟩
      refine ⟨_, rfl, _, _, rfl, rfl, _, rfl, ?_⟩
      refine ite3 (fun hd => ?_) (fun hd => ?_)
      · have hlt : b < 0 := by simpa using hd
        refine ⟨_, rfl, _, rfl, ?_⟩
        refine ⟨_, rfl, _, rfl, _, _, rfl, rfl, ⟨by omega, bits_neg bg⟩, _, rfl, _, rfl, _, _, rfl, rfl, ⟨by omega, bits_neg bg⟩, sz (by simp), fun p hp => ?_⟩
        exact k1 hb p _ _ (frac_fdiv hb _ (by rw [if_pos hlt])) (bits_fdiv ba) (bits_fdiv bb) hp
      · have hlt : ¬ b < 0 := by simpa using hd
        refine ⟨_, rfl, _, rfl, _, _, rfl, rfl, ⟨by omega, bg⟩, _, rfl, _, rfl, _, _, rfl, rfl, ⟨by omega, bg⟩, sz (by simp), fun p hp => ?_⟩
        exact k1 hb p _ _ (frac_fdiv hb _ (by rw [if_neg hlt])) (bits_fdiv ba) (bits_fdiv bb) hp

theorem S_floor_of : FnScope ["a"] ["a"] (defScope (top 11)) := ⟨rfl, rfl, rfl, by decide +kernel, rfl, by decide +kernel, by decide +kernel⟩
theorem fn_floor_of (D_floor_of : Df K mg "floor_of" (top 11)) : Fn P w K mg base "floor_of" ["a"] 1 spFloor := by
  refine D_floor_of.fn S_floor_of (fun _ _ _ _ _ _ us hl => match us, hl with | [_], _ => rfl) (fun vs H Q E h => ?_) (fun f cdv A outer s H vs Q E hr h => ?_)
  · obtain ⟨p, a, b, rfl, _⟩ := h
    rfl
  · obtain ⟨p, a, b, rfl, hp, ⟨hb, bb⟩, k⟩ := h
    refine ⟨_, (pss_one (ps_ret (pe_op op_fdivP (pe_ix ix_tup (pv 0) pe_int (fun _ _ => rfl)) (pe_ix ix_tup (pv 0) pe_int (fun _ _ => rfl))))), ?_⟩
    exact ⟨_, rfl, p, _, _, _, rfl, rfl, SqT.of hp, rfl, _, rfl, p, _, _, _, rfl, rfl, SqT.of hp, rfl, a, b, rfl, rfl, ⟨hb, bits_le bb (by decide)⟩, k⟩
theorem S_is_ratio : FnScope ["thing"] ["thing"] (defScope (top 12)) := ⟨rfl, rfl, rfl, by decide +kernel, rfl, by decide +kernel, by decide +kernel⟩
theorem fn_is_ratio (D_is_ratio : Df K mg "is_ratio" (top 12)) (F_is_whole : Fn P w K mg base "is_whole" ["thing"] 1 spWhole) (F_common_divisor : Fn P w K mg base "common_divisor" ["one", "other"] 1 spGcd) (T : Txt mg) : Fn P w K mg base "is_ratio" ["thing"] 2 spLow := by
  refine D_is_ratio.fn S_is_ratio (fun _ _ _ _ _ _ us hl => match us, hl with | [_], _ => rfl) (fun vs H Q E h => ?_) (fun f cdv A outer s H vs Q E hr h => ?_)
  · obtain ⟨x, rfl, _⟩ := h
    rfl
  · obtain ⟨x, rfl, th, q⟩ := h
    obtain ⟨t, k⟩ := th.kn
    refine ⟨_, (pss_cons (ps_if (pw_or (pt_not (pt_val (pe_callB call_isinst (by rfl) T.z_isinstance bt_isinstance (pa_cons (pv 0) (pa_cons (pe_ty T.z_tuple bt_tuple) pa_nil))))) (pw_or1 (pt_cmpR op_ne (pe_callB call_len_seq (by rfl) T.z_len bt_len (pa_cons (pv 0) pa_nil)) pe_int (nomark _)))).pt (pss_one (ps_ret pe_bl)) pss_nil) (pss_cons (ps_if (pw_or (pt_not (pt_val (pe_fn F_is_whole (hr.mono (by decide)) (by rfl) (pa_cons (pe_ix ix_tup (pv 0) pe_int (fun _ _ => rfl)) pa_nil)))) (pw_or1 (pt_not (pt_val (pe_fn F_is_whole (hr.mono (by decide)) (by rfl) (pa_cons (pe_ix ix_tup (pv 0) pe_int (fun _ _ => rfl)) pa_nil)))))).pt (pss_one (ps_ret pe_bl)) pss_nil) (pss_one (ps_ret (pe_and (pe_cmpR op_ge (pe_ix ix_tup (pv 0) pe_int (fun _ _ => rfl)) pe_int (nomark _)) (pe_one (pe_cmpR op_eq (pe_fn F_common_divisor (hr.mono (by decide)) (by rfl) (pa_cons (pe_ix ix_tup (pv 0) pe_int (fun _ _ => rfl)) (pa_cons (pe_ix ix_tup (pv 0) pe_int (fun _ _ => rfl)) pa_nil))) pe_int (nomark _)))))))), ?_⟩
    refine ⟨_, rfl, x, t, "tuple", rfl, k, .inr (.inr (.inl rfl)), _, rfl, ?_⟩
    rcases Kn.cases_tup k with ⟨p, xs, rfl, e, rfl⟩ | ⟨hl, hs⟩
    · -- a tuple
      rw [lowV_tup e] at q
      refine iteF ?_
      refine ⟨_, rfl, p, xs, rfl, .inr (SqT.of e), rfl, _, rfl, ?_⟩
      refine ite3 (fun hc => ?_) (fun hc => ?_)
      · have hn : xs.length ≠ 2 := by
          intro z
          rw [z] at hc
          exact absurd hc (by decide)
        rw [lowL_len hn] at q
        exact q
      · have hn : xs.length = 2 := by
          have z : (xs.length : Int) = 2 := by simpa using hc
          omega
        match xs, hn, e, q with
        | [y, z], _, e, q =>
          obtain ⟨ty, ky⟩ := th.parts p _ rfl e y (by simp)
          obtain ⟨tz, kz⟩ := th.parts p _ rfl e z (by simp)
          refine ⟨_, rfl, p, _, _, _, rfl, rfl, SqT.of e, rfl, y, ty, rfl, ky, _, rfl, ?_⟩
          rcases Kn.cases_int ky with ⟨a, rfl, rfl⟩ | ⟨ny, ey⟩
          · refine iteF ?_
            refine ⟨_, rfl, p, _, _, _, rfl, rfl, SqT.of e, rfl, z, tz, rfl, kz, _, rfl, ?_⟩
            rcases Kn.cases_int kz with ⟨b, rfl, rfl⟩ | ⟨nz, ez⟩
            · refine iteF ?_
              refine ⟨_, rfl, p, _, _, _, rfl, rfl, SqT.of e, rfl, b, 1, rfl, rfl, _, rfl, ?_⟩
              have q' : Q (.bl (lowB a b)) H := q
              unfold lowB at q'
              refine ite3 (fun hc => ?_) (fun hc => ?_)
              · refine ⟨_, rfl, p, _, _, _, rfl, rfl, SqT.of e, rfl, _, rfl, p, _, _, _, rfl, rfl, SqT.of e, rfl, a, b, rfl, rfl, ?_⟩
                rw [hc, Bool.true_and] at q'
                have e1 : decide (V.int (Int.gcd a b : Int) = V.int 1) = decide (Int.gcd a b = 1) := by
                  rw [Bool.eq_iff_iff]
                  simp
                  omega
                rw [← e1] at q'
                exact q'
              · rw [hc, Bool.false_and] at q'
                exact q'
            · rw [ez, lowL_snd nz] at *
              exact q
          · rw [ey, lowL_fst ny] at *
            exact q
    · rw [hs]
      rw [hl] at q
      exact q
theorem S_last_of : FnScope ["line"] ["line"] (defScope (top 14)) := ⟨rfl, rfl, rfl, by decide +kernel, rfl, by decide +kernel, by decide +kernel⟩
theorem fn_last_of (D_last_of : Df K mg "last_of" (top 14)) (T : Txt mg) : Fn P w K mg base "last_of" ["line"] 1 spLast := by
  refine D_last_of.fn S_last_of (fun _ _ _ _ _ _ us hl => match us, hl with | [_], _ => rfl) (fun vs H Q E h => ?_) (fun f cdv A outer s H vs Q E hr h => ?_)
  · obtain ⟨p, xs, rfl, _⟩ := h
    rfl
  · obtain ⟨p, xs, rfl, e, q⟩ := h
    exact ⟨_, (pss_one (ps_ret (pe_op op_sub (pe_callB call_len_seq (by rfl) T.z_len bt_len (pa_cons (pv 0) pa_nil)) pe_int))), _, rfl, p, xs, rfl, .inl (SqL.of e), _, _, rfl, rfl, q⟩
theorem S_is_place : FnScope ["line", "thing"] ["line", "thing"] (defScope (top 16)) := ⟨rfl, rfl, rfl, by decide +kernel, rfl, by decide +kernel, by decide +kernel⟩
theorem fn_is_place (D_is_place : Df K mg "is_place" (top 16)) (F_is_ratio : Fn P w K mg base "is_ratio" ["thing"] 2 spLow) (F_last_of : Fn P w K mg base "last_of" ["line"] 1 spLast) : Fn P w K mg base "is_place" ["line", "thing"] 3 spIsPlace := by
  refine D_is_place.fn S_is_place (fun _ _ _ _ _ _ us hl => match us, hl with | [_, _], _ => rfl) (fun vs H Q E h => ?_) (fun f cdv A outer s H vs Q E hr h => ?_)
  · obtain ⟨p, xs, x, rfl, _⟩ := h
    rfl
  · obtain ⟨p, xs, x, rfl, e, hl, th, q⟩ := h
    refine ⟨_, (pss_one (ps_ret (pe_and (pe_fn F_is_ratio (hr.mono (by decide)) (by rfl) (pa_cons (pv 1) pa_nil)) (pe_one (pe_chain op_le op_le pe_int (pe_ix ix_tup (pv 1) pe_int (fun _ _ => rfl)) (pe_op op_mulX (pe_fn F_last_of (hr.mono (by decide)) (by rfl) (pa_cons (pv 0) pa_nil)) (pe_ix ix_tup (pv 1) pe_int (fun _ _ => rfl)))))))), ?_⟩
    refine ⟨_, rfl, x, rfl, th, _, rfl, ite3 (fun hc => ?_) (fun hc => ?_)⟩
    · obtain ⟨u, a, b, rfl, eu, lw⟩ := lowV_inv hc
      rw [placeV_tup eu, low_B lw, Bool.true_and] at q
      refine ⟨_, rfl, u, _, _, _, rfl, rfl, SqT.of eu, rfl, _, _, rfl, rfl, _, rfl, ite3 (fun hd => ?_) (fun hd => ?_)⟩
      · rw [hd, Bool.true_and] at q
        exact ⟨_, rfl, p, xs, rfl, e, _, rfl, u, _, _, _, rfl, rfl, SqT.of eu, rfl, _, _, rfl, rfl, CM.l (lt64s (by omega) (by omega)), _, _, rfl, rfl, q⟩
      · rw [hd, Bool.false_and] at q
        exact q
    · rw [placeV_low hc] at q
      exact q
theorem S_look_at_place : FnScope ["line", "thing"] ["line", "thing"] (defScope (top 17)) := ⟨rfl, rfl, rfl, by decide +kernel, rfl, by decide +kernel, by decide +kernel⟩
theorem fn_look_at_place {C : Addr} (D_look_at_place : Df K mg "look_at_place" (top 17)) (O_NoPlace : ExcC K mg "NoPlace" C) (F_is_place : Fn P w K mg base "is_place" ["line", "thing"] 3 spIsPlace) : Fx P w K mg base "look_at_place" ["line", "thing"] 4 [] (spLook C) := by
  refine D_look_at_place.fx S_look_at_place (fun _ _ _ _ _ _ us hl => match us, hl with | [_, _], _ => rfl) (fun vs H Q E h => ?_) (fun f cdv A outer s H vs Q E hr h => ?_)
  · obtain ⟨p, xs, x, rfl, _⟩ := h
    rfl
  · obtain ⟨p, xs, x, rfl, e, hl, th, k0, k1⟩ := h
    refine ⟨_, (pss_one (ps_if (pt_not (pt_val (pe_fn F_is_place (hr.mono (by decide)) (by rfl) (pa_cons (pv 0) (pa_cons (pv 1) pa_nil))))) (pss_one (ps_raise O_NoPlace (by rfl))) pss_nil)), ?_⟩
    refine ⟨_, rfl, _, rfl, p, xs, x, rfl, e, hl, th, _, rfl, ite3 (fun hc => ?_) (fun hc => ?_)⟩
    · exact k0 (by simpa using hc)
    · exact k1 (by simpa using hc)
theorem S_plus : FnScope ["a", "b"] ["a", "b"] (defScope (top 8)) := ⟨rfl, rfl, rfl, by decide +kernel, rfl, by decide +kernel, by decide +kernel⟩
theorem fn_plus {C : Addr} (D_plus : Df K mg "plus" (top 8)) (F_ratio : Fx P w K mg base "ratio" ["top", "bottom"] 2 [.int 1] (spRatioN C)) : Fn P w K mg base "plus" ["a", "b"] 3 (spBin (fun a b c d => a * d + c * b) (fun a b c d => b * d)) := by
  refine D_plus.fn S_plus (fun _ _ _ _ _ _ us hl => match us, hl with | [_, _], _ => rfl) (fun vs H Q E h => ?_) (fun f cdv A outer s H vs Q E hr h => ?_)
  · obtain ⟨p, q, a, b, c, d, n, rfl, _⟩ := h
    rfl
  · obtain ⟨p, q, a, b, c, d, n, rfl, fp, fq, hn, hden, k⟩ := h
    have ep := fp.at_
    have eq := fq.at_
    have cm : ∀ {i j : Int}, bits i ≤ n → bits j ≤ n → CM i j := fun hi hj => CM.b hi hj (Nat.le_trans hn (by decide)) (Nat.le_trans hn (by decide))
    have fin : ∀ (r : Addr) (t u : Int), Frac (a * d + c * b) (b * d) t u → bits t ≤ 2 * n + 1 → bits u ≤ 2 * n + 1 → H r = none → Q (.ref r) (upd H r (.tup [.int t, .int u])) := fun r t u fr bt bu hr' => by
      obtain ⟨H1, e1, s1, f1⟩ := grow (o := .tup [.int t, .int u]) hr'
      rw [e1]
      exact k r t u H1 fr ⟨f1, fr.low, bt, bu⟩ s1
    refine ⟨_, (pss_one (ps_ret (pe_fx0 F_ratio (hr.mono (by decide)) (by rfl) (pa_cons (pe_op op_add (pe_op op_mulX (pe_ix ix_tup (pv 0) pe_int (fun _ _ => rfl)) (pe_ix ix_tup (pv 1) pe_int (fun _ _ => rfl))) (pe_op op_mulX (pe_ix ix_tup (pv 1) pe_int (fun _ _ => rfl)) (pe_ix ix_tup (pv 0) pe_int (fun _ _ => rfl)))) (pa_cons (pe_op op_mulX (pe_ix ix_tup (pv 0) pe_int (fun _ _ => rfl)) (pe_ix ix_tup (pv 1) pe_int (fun _ _ => rfl))) pa_nil))))), ?_⟩
    refine ⟨_, rfl, p, _, _, _, rfl, rfl, SqT.of ep, rfl, _, rfl, q, _, _, _, rfl, rfl, SqT.of eq, rfl, _, _, rfl, rfl, cm fp.ba fq.bb, _, rfl, q, _, _, _, rfl, rfl, SqT.of eq, rfl, _, rfl, p, _, _, _, rfl, rfl, SqT.of ep, rfl, _, _, rfl, rfl, cm fq.ba fp.bb, _, _, rfl, rfl, ?_⟩
    refine ⟨_, rfl, p, _, _, _, rfl, rfl, SqT.of ep, rfl, _, rfl, q, _, _, _, rfl, rfl, SqT.of eq, rfl, _, _, rfl, rfl, cm fp.bb fq.bb, _, _, 2 * n + 1, rfl, ⟨bits_le (bits_add (n := 2 * n) (bits_le (bits_mul fp.ba fq.bb) (by omega)) (bits_le (bits_mul fq.ba fp.bb) (by omega))) (by omega), bits_le (bits_mul fp.bb fq.bb) (by omega), by omega⟩, fun z => absurd z hden, fun _ r t u fr bt bu hr' => fin r t u fr bt bu hr'⟩

theorem S_minus : FnScope ["a", "b"] ["a", "b"] (defScope (top 9)) := ⟨rfl, rfl, rfl, by decide +kernel, rfl, by decide +kernel, by decide +kernel⟩
theorem fn_minus {C : Addr} (D_minus : Df K mg "minus" (top 9)) (F_ratio : Fx P w K mg base "ratio" ["top", "bottom"] 2 [.int 1] (spRatioN C)) : Fn P w K mg base "minus" ["a", "b"] 3 (spBin (fun a b c d => a * d - c * b) (fun a b c d => b * d)) := by
  refine D_minus.fn S_minus (fun _ _ _ _ _ _ us hl => match us, hl with | [_, _], _ => rfl) (fun vs H Q E h => ?_) (fun f cdv A outer s H vs Q E hr h => ?_)
  · obtain ⟨p, q, a, b, c, d, n, rfl, _⟩ := h
    rfl
  · obtain ⟨p, q, a, b, c, d, n, rfl, fp, fq, hn, hden, k⟩ := h
    have ep := fp.at_
    have eq := fq.at_
    have cm : ∀ {i j : Int}, bits i ≤ n → bits j ≤ n → CM i j := fun hi hj => CM.b hi hj (Nat.le_trans hn (by decide)) (Nat.le_trans hn (by decide))
    have fin : ∀ (r : Addr) (t u : Int), Frac (a * d - c * b) (b * d) t u → bits t ≤ 2 * n + 1 → bits u ≤ 2 * n + 1 → H r = none → Q (.ref r) (upd H r (.tup [.int t, .int u])) := fun r t u fr bt bu hr' => by
      obtain ⟨H1, e1, s1, f1⟩ := grow (o := .tup [.int t, .int u]) hr'
      rw [e1]
      exact k r t u H1 fr ⟨f1, fr.low, bt, bu⟩ s1
    refine ⟨_, (pss_one (ps_ret (pe_fx0 F_ratio (hr.mono (by decide)) (by rfl) (pa_cons (pe_op op_sub (pe_op op_mulX (pe_ix ix_tup (pv 0) pe_int (fun _ _ => rfl)) (pe_ix ix_tup (pv 1) pe_int (fun _ _ => rfl))) (pe_op op_mulX (pe_ix ix_tup (pv 1) pe_int (fun _ _ => rfl)) (pe_ix ix_tup (pv 0) pe_int (fun _ _ => rfl)))) (pa_cons (pe_op op_mulX (pe_ix ix_tup (pv 0) pe_int (fun _ _ => rfl)) (pe_ix ix_tup (pv 1) pe_int (fun _ _ => rfl))) pa_nil))))), ?_⟩
    refine ⟨_, rfl, p, _, _, _, rfl, rfl, SqT.of ep, rfl, _, rfl, q, _, _, _, rfl, rfl, SqT.of eq, rfl, _, _, rfl, rfl, cm fp.ba fq.bb, _, rfl, q, _, _, _, rfl, rfl, SqT.of eq, rfl, _, rfl, p, _, _, _, rfl, rfl, SqT.of ep, rfl, _, _, rfl, rfl, cm fq.ba fp.bb, _, _, rfl, rfl, ?_⟩
    refine ⟨_, rfl, p, _, _, _, rfl, rfl, SqT.of ep, rfl, _, rfl, q, _, _, _, rfl, rfl, SqT.of eq, rfl, _, _, rfl, rfl, cm fp.bb fq.bb, _, _, 2 * n + 1, rfl, ⟨bits_le (bits_sub (n := 2 * n) (bits_le (bits_mul fp.ba fq.bb) (by omega)) (bits_le (bits_mul fq.ba fp.bb) (by omega))) (by omega), bits_le (bits_mul fp.bb fq.bb) (by omega), by omega⟩, fun z => absurd z hden, fun _ r t u fr bt bu hr' => fin r t u fr bt bu hr'⟩

theorem S_times : FnScope ["a", "b"] ["a", "b"] (defScope (top 10)) := ⟨rfl, rfl, rfl, by decide +kernel, rfl, by decide +kernel, by decide +kernel⟩
theorem fn_times {C : Addr} (D_times : Df K mg "times" (top 10)) (F_ratio : Fx P w K mg base "ratio" ["top", "bottom"] 2 [.int 1] (spRatioN C)) : Fn P w K mg base "times" ["a", "b"] 3 (spBin (fun a b c d => a * c) (fun a b c d => b * d)) := by
  refine D_times.fn S_times (fun _ _ _ _ _ _ us hl => match us, hl with | [_, _], _ => rfl) (fun vs H Q E h => ?_) (fun f cdv A outer s H vs Q E hr h => ?_)
  · obtain ⟨p, q, a, b, c, d, n, rfl, _⟩ := h
    rfl
  · obtain ⟨p, q, a, b, c, d, n, rfl, fp, fq, hn, hden, k⟩ := h
    have ep := fp.at_
    have eq := fq.at_
    have cm : ∀ {i j : Int}, bits i ≤ n → bits j ≤ n → CM i j := fun hi hj => CM.b hi hj (Nat.le_trans hn (by decide)) (Nat.le_trans hn (by decide))
    have fin : ∀ (r : Addr) (t u : Int), Frac (a * c) (b * d) t u → bits t ≤ 2 * n + 1 → bits u ≤ 2 * n + 1 → H r = none → Q (.ref r) (upd H r (.tup [.int t, .int u])) := fun r t u fr bt bu hr' => by
      obtain ⟨H1, e1, s1, f1⟩ := grow (o := .tup [.int t, .int u]) hr'
      rw [e1]
      exact k r t u H1 fr ⟨f1, fr.low, bt, bu⟩ s1
    refine ⟨_, (pss_one (ps_ret (pe_fx0 F_ratio (hr.mono (by decide)) (by rfl) (pa_cons (pe_op op_mulX (pe_ix ix_tup (pv 0) pe_int (fun _ _ => rfl)) (pe_ix ix_tup (pv 1) pe_int (fun _ _ => rfl))) (pa_cons (pe_op op_mulX (pe_ix ix_tup (pv 0) pe_int (fun _ _ => rfl)) (pe_ix ix_tup (pv 1) pe_int (fun _ _ => rfl))) pa_nil))))), ?_⟩
    exact ⟨_, rfl, p, _, _, _, rfl, rfl, SqT.of ep, rfl, _, rfl, q, _, _, _, rfl, rfl, SqT.of eq, rfl, _, _, rfl, rfl, cm fp.ba fq.ba, _, rfl, p, _, _, _, rfl, rfl, SqT.of ep, rfl, _, rfl, q, _, _, _, rfl, rfl, SqT.of eq, rfl, _, _, rfl, rfl, cm fp.bb fq.bb, _, _, 2 * n + 1, rfl, ⟨bits_le (bits_mul fp.ba fq.ba) (by omega), bits_le (bits_mul fp.bb fq.bb) (by omega), by omega⟩, fun z => absurd z hden, fun _ r t u fr bt bu hr' => fin r t u fr bt bu hr'⟩

theorem S_law_common : FnScope ["one", "other"] ["one", "other"] (defScope (top 27)) := ⟨rfl, rfl, rfl, by decide +kernel, rfl, by decide +kernel, by decide +kernel⟩
theorem fn_law_common (D_law_common : Df K mg "_law_common" (top 27)) : Fn P w K mg base "_law_common" ["one", "other"] 1 spCommon := by
  refine D_law_common.fn S_law_common (fun _ _ _ _ _ _ us hl => match us, hl with | [_, _], _ => rfl) (fun vs H Q E h => ?_) (fun f cdv A outer s H vs Q E hr h => ?_)
  · obtain ⟨a, b, rfl, _⟩ := h
    rfl
  · obtain ⟨a, b, rfl, ha, hb, q⟩ := h
    refine ⟨_, (pss_cons (ps_while PassesOwn.never (pt_cmpR op_gt (pv 1) pe_int (nomark _)) (pss_one (ps_par (i := 0) (j := 1) rfl S_law_common.nd rfl rfl (by decide) rfl rfl (pa_cons (pv 1) (pa_cons (pe_op op_mod (pv 0) (pv 1)) pa_nil)) (by rfl)))) (pss_one (ps_ret (pv 0)))), ?_⟩
    refine while_by (fun σ H' => ∃ x y, σ = [some (.int x), some (.int y)] ∧ H' = H ∧ 0 ≤ x ∧ 0 ≤ y ∧ Int.gcd x y = Int.gcd a b)
      (fun σ _ => match σ with | [_, some (.int y)] => y.toNat | _ => 0) ⟨_, _, rfl, rfl, ha, hb, rfl⟩ ?_ ?_
    · rintro σ H' ⟨x, y, rfl, rfl, hx, hy, hg⟩
      refine ⟨_, rfl, _, _, rfl, rfl, _, rfl, ?_⟩
      refine ite3 (fun hc => ?_) (fun hc => ?_)
      · have hy1 : 0 < y := by simpa using hc
        refine ⟨_, rfl, _, rfl, _, rfl, x, y, rfl, rfl, hy1, _, _, rfl, ⟨y, x % y, rfl, rfl, hy, Int.emod_nonneg _ (by omega), ?_⟩, ?_⟩
        · rw [gcd_step hx hy1]
          exact hg
        · have h1 := Int.emod_lt_of_pos x hy1
          have h2 := Int.emod_nonneg x (show y ≠ 0 by omega)
          show (x % y).toNat < y.toNat
          omega
      · have hy1 : ¬ 0 < y := by simpa using hc
        have hy0 : y = 0 := by omega
        subst hy0
        refine ⟨_, rfl, ?_⟩
        have e : (Int.gcd a b : Int) = x := by rw [← hg]; exact gcd_zero hx
        rw [e] at q
        exact q
    · rintro σ H' Q1 Q2 hq ⟨v, e, i, j, e1, e2, k, ek, r⟩
      exact ⟨v, e, i, j, e1, e2, k, ek, hq _ _ r⟩
theorem S_law_mixed : FnScope ["cell", "k", "number"] ["cell", "k"] (defScope (top 25)) := ⟨rfl, rfl, rfl, by decide +kernel, rfl, by decide +kernel, by decide +kernel⟩
theorem fn_law_mixed (D_law_mixed : Df K mg "_law_mixed" (top 25)) : Fn P w K mg base "_law_mixed" ["cell", "k"] 1 spMixed := by
  refine D_law_mixed.fn S_law_mixed (fun _ _ _ _ _ _ us hl => match us, hl with | [_, _], _ => rfl) (fun vs H Q E h => ?_) (fun f cdv A outer s H vs Q E hr h => ?_)
  · obtain ⟨c, k, rfl, _⟩ := h
    rfl
  · obtain ⟨c, k, rfl, q⟩ := h
    refine ⟨_, (pss_cons (ps_set (i := 2) S_law_mixed.nd rfl (Or.inl rfl) (pe_op op_mod (pe_op op_mulX (pe_op op_add (pe_op op_add (pe_op op_mod (pv 0) pe_int) (pe_op op_mulX pe_int (pv 1))) pe_int) pe_int) pe_int)) (pss_cons (ps_set (i := 2) S_law_mixed.nd rfl (Or.inl rfl) (pe_op op_mod (pe_op op_add (pe_op op_mod (pe_op op_mulX (pv 2) (pv 2)) pe_int) (pe_op op_mulX pe_int (pv 1))) pe_int)) (pss_one (ps_ret (pe_op op_mod (pe_op op_mulX (pv 2) pe_int) pe_int))))), ?_⟩
    refine ⟨_, rfl, c, _, rfl, rfl, (by show (0 : Int) < 2147483629; decide), _, rfl, _, _, rfl, rfl, CM.l ⟨by decide, by decide⟩, _, _, rfl, rfl, _, _, rfl, rfl, _, _, rfl, rfl, CM.r ⟨by decide, by decide⟩, _, _, rfl, rfl, (by show (0 : Int) < 2147483647; decide), ?_⟩
    refine ⟨_, rfl, _, rfl, _, _, rfl, rfl, CM.l (lt64 (Int.emod_nonneg _ (by decide)) (Int.emod_lt_of_pos _ (by decide))), _, _, rfl, rfl, (by show (0 : Int) < 2147483629; decide), _, rfl, _, _, rfl, rfl, CM.l ⟨by decide, by decide⟩, _, _, rfl, rfl, _, _, rfl, rfl, (by show (0 : Int) < 2147483629; decide), ?_⟩
    exact ⟨_, rfl, _, _, rfl, rfl, CM.r ⟨by decide, by decide⟩, _, _, rfl, rfl, (by show (0 : Int) < 2147483647; decide), q _⟩
theorem S_law_numbers : FnScope ["cell", "many", "base", "found", "left", "k", "number", "turns"] ["cell", "many", "base"] (defScope (top 26)) := ⟨rfl, rfl, rfl, by decide +kernel, rfl, by decide +kernel, by decide +kernel⟩
theorem fn_law_numbers (D_law_numbers : Df K mg "_law_numbers" (top 26)) (F_law_mixed : Fn P w K mg base "_law_mixed" ["cell", "k"] 1 spMixed) (T : Txt mg) : Fn P w K mg base "_law_numbers" ["cell", "many", "base"] 2 spNumbers := by
  refine D_law_numbers.fn S_law_numbers (fun _ _ _ _ _ _ us hl => match us, hl with | [_, _, _], _ => rfl) (fun vs H Q E h => ?_) (fun f cdv A outer s H vs Q E hr h => ?_)
  · obtain ⟨c, m, b, rfl, _⟩ := h
    rfl
  · obtain ⟨c, m, b, rfl, hm, ⟨hb, bb⟩, q⟩ := h
    refine ⟨_, (pss_cons (ps_set (i := 3) S_law_numbers.nd rfl (Or.inl rfl) (pe_lst pa_nil)) (pss_cons (ps_set (i := 4) S_law_numbers.nd rfl (Or.inl rfl) (pe_op op_sub (pv 0) (pe_op op_pow pe_int pe_int))) (pss_cons (ps_for PassesOwn.never rfl (pi_range1 rfl T.z_range (pa_cons (pv 1) pa_nil)) (pg_name (i := 5) S_law_numbers.nd rfl (Or.inl rfl)) (pss_cons (ps_set (i := 6) S_law_numbers.nd rfl (Or.inl rfl) (pv 4)) (pss_cons (ps_if (pt_cmpR op_gt (pv 4) pe_int (nomark _)) (pss_one (ps_set (i := 4) S_law_numbers.nd rfl (Or.inl rfl) (pe_op op_fdivP (pv 4) (pv 2)))) (pss_cons (ps_set (i := 6) S_law_numbers.nd rfl (Or.inl rfl) pe_int) (pss_cons (ps_set (i := 7) S_law_numbers.nd rfl (Or.inl rfl) pe_int) (pss_one (ps_while PassesOwn.never (pt_cmpR op_lt (pe_op op_mulX (pv 7) pe_int) (pe_op op_add (pe_bm0 PySem.F.plainAttrs_int PySem.F.slot_int_bit_length PySem.F.type_int_bit_length mt_bitlen (pv 2)) pe_int) (nomark _)) (pss_cons (ps_set (i := 6) S_law_numbers.nd rfl (Or.inl rfl) (pe_op op_add (pe_op op_mulX (pv 6) pe_int) (pe_fn F_law_mixed (hr.mono (by decide)) (by rfl) (pa_cons (pv 0) (pa_cons (pe_op op_add (pe_op op_mulX pe_int (pv 5)) (pv 7)) pa_nil))))) (pss_one (ps_set (i := 7) S_law_numbers.nd rfl (Or.inl rfl) (pe_op op_add (pv 7) pe_int))))))))) (pss_one (ps_expr (pe_bm PySem.F.plainAttrs_list PySem.F.slot_list_append PySem.F.type_list_append mt_append (pv 3) (pa_cons (pe_op op_mod (pv 6) (pv 2)) pa_nil))))))) (pss_one (ps_ret (pv 3)))))), ?_⟩
    -- found = []
    refine ⟨by decide, fun l hl => ?_⟩
    -- left = cell - 10 ** 18
    refine ⟨_, rfl, _, _, rfl, rfl, ⟨by decide, by decide, by decide⟩, _, _, rfl, rfl, ?_⟩
    refine ⟨_, rfl, _, rfl, by omega, by omega, ?_⟩
    rw [Int.toNat_natCast]
    refine for_range (fun i σ H' => ∃ (ns : List Int) (left : Int) (x5 x6 x7 : Option V), σ = [some (.int c), some (.int (m : Int)), some (.int b), some (.ref l), some (.int left), x5, x6, x7] ∧ Same H H' ∧ H' l = some (.lst (ns.map V.int)) ∧ ns.length = i ∧ ∀ n ∈ ns, 0 ≤ n ∧ n < b)
      ⟨[], _, _, _, _, rfl, Same.new hl, upd_same, rfl, fun n h => nomatch h⟩ ?_ ?_
    · rintro i σ H' hi ⟨ns, left, x5, x6, x7, rfl, sm, hl', hlen, hns⟩
      -- number = left; if left > 0
      refine ⟨_, rfl, ?_⟩
      refine ⟨_, rfl, _, _, rfl, rfl, _, rfl, ?_⟩
      have tail : ∀ (n left' : Int) (x7' : Option V), (tDrop (tBM K "list" rAppend (tVar 3) (tCons (tOp (rI (fun _ j => 0 < j) fun i j => .int (i % j)) (tVar 6) (tVar 2)) tNil))) { nx := fun σ H' => ∃ (ns : List Int) (left : Int) (x5 x6 x7 : Option V), σ = [some (.int c), some (.int (m : Int)), some (.int b), some (.ref l), some (.int left), x5, x6, x7] ∧ Same H H' ∧ H' l = some (.lst (ns.map V.int)) ∧ ns.length = i + 1 ∧ ∀ n ∈ ns, 0 ≤ n ∧ n < b, rt := Q } [some (.int c), some (.int (m : Int)), some (.int b), some (.ref l), some (.int left'), some (.int (0 + (i : Int))), some (.int n), x7'] H' := by
        intro n left' x7'
        refine ⟨_, rfl, .inl ⟨rfl, _, SqL.of hl'⟩, _, rfl, _, rfl, n, b, rfl, rfl, hb, l, _, _, rfl, rfl, hl', ?_, ?_⟩
        · rw [List.length_map]
          exact small1000 (by omega)
        · refine ⟨ns ++ [n % b], left', _, _, _, rfl, ?_, ?_, ?_, ?_⟩
          · intro a o ea
            rw [upd_ne (ne_of_none ea hl)]
            exact sm a o ea
          · rw [upd_same, List.map_append]
            rfl
          · rw [List.length_append, hlen]
            rfl
          · intro y hy
            rcases List.mem_append.mp hy with hy | hy
            · exact hns y hy
            · rw [List.mem_singleton.mp hy]
              exact ⟨Int.emod_nonneg _ (by omega), Int.emod_lt_of_pos _ hb⟩
      refine ite3 (fun hc => ?_) (fun hc => ?_)
      · refine ⟨_, rfl, _, rfl, _, _, rfl, rfl, ⟨hb, bits_le bb (by decide)⟩, ?_⟩
        exact tail left (left / b) x7
      · refine while_by (fun σ H2 => ∃ (n t : Int), σ = [some (.int c), some (.int (m : Int)), some (.int b), some (.ref l), some (.int left), some (.int (0 + (i : Int))), some (.int n), some (.int t)] ∧ H2 = H' ∧ 0 ≤ t)
          (fun σ _ => match σ with | [_, _, _, _, _, _, _, some (.int t)] => (((bits b : Nat) : Int) + 8 - t).toNat | _ => 0) ⟨_, _, rfl, rfl, Int.le_refl 0⟩ ?_ ?_
        · rintro σ H2 ⟨n, t, rfl, rfl, ht⟩
          refine ⟨_, rfl, _, _, rfl, rfl, CM.r ⟨by decide, by decide⟩, _, rfl, rfl, b, rfl, rfl, _, _, rfl, rfl, _, _, rfl, rfl, _, rfl, ?_⟩
          refine ite3 (fun hd => ?_) (fun hd => ?_)
          · have hd' : t * 30 < ((bits b : Nat) : Int) + 8 := by simpa using hd
            refine ⟨_, rfl, _, _, rfl, rfl, CM.r ⟨by decide, by decide⟩, _, rfl, _, rfl, _, _, rfl, rfl, CM.l ⟨by decide, by decide⟩, _, rfl, _, _, rfl, rfl, c, _, rfl, fun z => ⟨_, _, rfl, rfl, ?_⟩⟩
            refine ⟨_, rfl, _, _, rfl, rfl, ⟨_, t + 1, rfl, rfl, by omega⟩, ?_⟩
            show (((bits b : Nat) : Int) + 8 - (t + 1)).toNat < (((bits b : Nat) : Int) + 8 - t).toNat
            omega
          · exact tail n left _
        · rintro σ H2 Q1 Q2 hq h
          obtain ⟨v, e, i1, j1, e1, e2, cm, v2, e3, ty, i2, e4, e5, i3, j3, e6, e7, i4, j4, e8, e9, k, ek, r⟩ := h
          exact ⟨v, e, i1, j1, e1, e2, cm, v2, e3, ty, i2, e4, e5, i3, j3, e6, e7, i4, j4, e8, e9, k, ek, hq _ _ r⟩
    · rintro σ H' ⟨ns, left, x5, x6, x7, rfl, sm, hl', hlen, hns⟩
      refine ⟨_, rfl, ?_⟩
      exact q l ns H' hlen hns sm hl'

theorem S_law_line : FnScope ["numbers", "sizes", "many", "most", "wide", "corners", "k", "x", "y"] ["numbers", "sizes"] (defScope (top 28)) := ⟨rfl, rfl, rfl, by decide +kernel, rfl, by decide +kernel, by decide +kernel⟩
theorem fn_law_line (D_law_line : Df K mg "_law_line" (top 28)) (T : Txt mg) : Fn P w K mg base "_law_line" ["numbers", "sizes"] 1 spLine := by
  refine D_law_line.fn S_law_line (fun _ _ _ _ _ _ us hl => match us, hl with | [_, _], _ => rfl) (fun vs H Q E h => ?_) (fun f cdv A outer s H vs Q E hr h => ?_)
  · obtain ⟨pn, ns, m, rfl, _⟩ := h
    rfl
  · obtain ⟨pn, ns, m, rfl, en, hm1, hm10, hlen, q⟩ := h
    -- corners.append((x, y))
    have R2 : ∃ u : TS, PSs (cxOf CX0 P w K mg base ["numbers", "sizes", "many", "most", "wide", "corners", "k", "x", "y"] "_law_line" (defScope (top 28)) f cdv A outer s H E).nox ((forBody ((defBody (top 28)).getD 4 (.Pass ⟨0, 0, 0, 0⟩))).drop 4) u ∧ ∀ (D : Ends) (H4 H' : Hp) (pc : Addr) (qs : List (Addr × Int × Int)) (z0 z1 z2 z3 z4 z6 : Option V) (x y : Int),
        H4 pc = none → Same H4 H' → LineAt H' pc qs → qs.length ≤ 20 → bits x ≤ 50 → bits y ≤ 50 →
        (∀ (q : Addr) (H'' : Hp), Same H4 H'' → LineAt H'' pc (qs ++ [(q, x, y)]) → D.nx [z0, z1, z2, z3, z4, some (.ref pc), z6, some (.int x), some (.int y)] H'') →
        u D [z0, z1, z2, z3, z4, some (.ref pc), z6, some (.int x), some (.int y)] H' := by
      refine ⟨_, (pss_one (ps_expr (pe_bm PySem.F.plainAttrs_list PySem.F.slot_list_append PySem.F.type_list_append mt_append (pv 5) (pa_cons (pe_tup (pa_cons (pv 7) (pa_cons (pv 8) pa_nil))) pa_nil)))), ?_⟩
      intro D H4 H' pc qs z0 z1 z2 z3 z4 z6 x y hpc sm L hq20 bx by' nx
      refine ⟨_, rfl, .inl ⟨rfl, _, SqL.of L.lst⟩, _, rfl, _, rfl, sz (by simp), fun r hr' => ?_⟩
      obtain ⟨H5, e5, s5, f5⟩ := grow (o := .tup [.int x, .int y]) hr'
      rw [e5]
      have L5 := L.mono s5
      refine ⟨pc, _, _, rfl, rfl, L5.lst, small1000 (by rw [List.length_map]; omega), nx r _ (fun b o eb => ?_) ⟨?_, fun z hz => ?_⟩⟩
      · rw [upd_ne (ne_of_none eb hpc)]
        exact s5 _ _ (sm b o eb)
      · rw [upd_same, List.map_append]
        rfl
      · rcases List.mem_append.mp hz with hz | hz
        · have z1 := L5.crn z hz
          rw [upd_ne (ne_of z1.1 L5.lst (by intro y; cases y))]
          exact z1
        · rw [List.mem_singleton.mp hz, upd_ne (ne_of f5 L5.lst (by intro y; cases y))]
          exact ⟨f5, bx, by'⟩
    obtain ⟨u2, hu2, rd2⟩ := R2
    have hm0 := Int.emod_nonneg ns[0] (show (m : Int) ≠ 0 by omega)
    have hm1' := Int.emod_lt_of_pos ns[0] (show (0 : Int) < (m : Int) by omega)
    -- the second if
    have R1 : ∃ u : TS, PSs (cxOf CX0 P w K mg base ["numbers", "sizes", "many", "most", "wide", "corners", "k", "x", "y"] "_law_line" (defScope (top 28)) f cdv A outer s H E).nox ((forBody ((defBody (top 28)).getD 4 (.Pass ⟨0, 0, 0, 0⟩))).drop 3) u ∧ ∀ (D : Ends) (H4 H' : Hp) (pc : Addr) (qs : List (Addr × Int × Int)) (z1 z2 z3 z4 : Option V) (x y : Int),
        H4 pc = none → Same H H4 → Same H4 H' → LineAt H' pc qs → qs.length < 10 → qs.length < m → bits x ≤ 50 → bits y ≤ 50 →
        (∀ (q : Addr) (x y : Int) (H'' : Hp), Same H4 H'' → LineAt H'' pc (qs ++ [(q, x, y)]) → D.nx [some (.ref pn), z1, z2, z3, z4, some (.ref pc), some (.int (0 + (qs.length : Int))), some (.int x), some (.int y)] H'') →
        u D [some (.ref pn), z1, z2, z3, z4, some (.ref pc), some (.int (0 + (qs.length : Int))), some (.int x), some (.int y)] H' := by
      refine ⟨_, pss_cons (ps_if (pw_and (pt_cmpR op_eq (pe_op op_mod (pe_ix ix_list (pv 0) pe_int (fun _ _ => rfl)) pe_int) pe_int (nomark _)) (pw_and (pt_cmpR op_gt (pv 6) pe_int (nomark _)) (pw_and1 (pt_cmpR op_eq (pe_op op_mod (pe_op op_fdivP (pe_ix ix_list (pv 0) (pe_op op_add pe_int (pe_op op_mulX pe_int (pv 6))) (fun _ _ => rfl)) pe_int) pe_int) pe_int (nomark _))))).pt (pss_one (ps_asg (pe_ix ix_list (pv 5) (pe_op op_sub (pv 6) pe_int) (fun _ _ => rfl)) (pg_tup rfl (pgs_cons (pg_name (i := 7) S_law_line.nd rfl (Or.inl rfl)) (pgs_cons (pg_name (i := 8) S_law_line.nd rfl (Or.inl rfl)) pgs_nil))))) pss_nil) hu2, ?_⟩
      intro D H4 H' pc qs z1 z2 z3 z4 x y hpc s4 sm L h10 hqm bx by' nx
      have en' := sm _ _ (s4 _ _ en)
      have go : u2 D [some (.ref pn), z1, z2, z3, z4, some (.ref pc), some (.int (0 + (qs.length : Int))), some (.int x), some (.int y)] H' := rd2 D H4 H' pc qs _ _ _ _ _ _ x y hpc sm L (by omega) bx by' fun r H'' a b => nx r x y H'' a b
      refine ⟨_, rfl, pn, _, _, _, rfl, rfl, SqL.of en', at_int 2 rfl (by omega), _, _, rfl, rfl, (by show (0 : Int) < 4; decide), rfl, _, rfl, ite3 (fun _ => ?_) (fun _ => iteF go)⟩
      refine ⟨_, rfl, _, _, rfl, rfl, _, rfl, ite3 (fun hk => ?_) (fun _ => iteF go)⟩
      have hk' : 0 < qs.length := by
        have z : (0 : Int) < 0 + (qs.length : Int) := by simpa using hk
        omega
      refine ⟨_, rfl, _, rfl, _, _, rfl, rfl, CM.l ⟨by decide, by decide⟩, _, _, rfl, rfl, pn, _, _, _, rfl, rfl, SqL.of en', at_int (4 + 2 * qs.length) (by omega) (by omega), _, _, rfl, rfl, ⟨by decide, bits_le (m := 5) (by decide +kernel) (by decide)⟩, _, _, rfl, rfl, (by show (0 : Int) < 3; decide), rfl, _, rfl, ite3 (fun _ => ?_) (fun _ => go)⟩
      obtain ⟨v, hv, mv⟩ := atI_mem (xs := qs.map fun q => V.ref q.1) (k := 0 + (qs.length : Int) - 1) (by omega) (by rw [List.length_map]; omega)
      obtain ⟨z, hz, ez⟩ := List.mem_map.mp mv
      subst ez
      have cz := L.crn z hz
      exact ⟨_, rfl, _, rfl, _, _, rfl, rfl, pc, _, _, _, rfl, rfl, SqL.of L.lst, hv, z.1, _, rfl, SqT.of cz.1, rfl, _, _, rfl, _, _, rfl, rfl, rd2 D H4 H' pc qs _ _ _ _ _ _ z.2.1 z.2.2 hpc sm L (by omega) cz.2.1 cz.2.2 fun r H'' a b => nx r _ _ H'' a b⟩
    obtain ⟨u1, hu1, rd1⟩ := R1
    refine ⟨_, pss_cons (ps_set (i := 2) S_law_line.nd rfl (Or.inl rfl) (pe_op op_add pe_int (pe_op op_mod (pe_ix ix_list (pv 0) pe_int (fun _ _ => rfl)) (pv 1)))) (pss_cons (ps_set (i := 3) S_law_line.nd rfl (Or.inl rfl) (pe_op op_sub (pe_op op_pow pe_int pe_int) pe_int)) (pss_cons (ps_set (i := 4) S_law_line.nd rfl (Or.inl rfl) (pe_ix ix_list (pe_lst (pa_cons pe_int (pa_cons pe_int (pa_cons pe_int (pa_cons (pv 3) pa_nil))))) (pe_op op_mod (pe_ix ix_list (pv 0) pe_int (fun _ _ => rfl)) pe_int) (fun _ _ => rfl))) (pss_cons (ps_set (i := 5) S_law_line.nd rfl (Or.inl rfl) (pe_lst pa_nil)) (pss_cons (ps_for PassesOwn.never rfl (pi_range1 rfl T.z_range (pa_cons (pv 2) pa_nil)) (pg_name (i := 6) S_law_line.nd rfl (Or.inl rfl)) (pss_cons (ps_set (i := 7) S_law_line.nd rfl (Or.inl rfl) (pe_op op_sub (pe_op op_mod (pe_ix ix_list (pv 0) (pe_op op_add pe_int (pe_op op_mulX pe_int (pv 6))) (fun _ _ => rfl)) (pe_op op_add (pe_op op_mulX pe_int (pv 4)) pe_int)) (pv 4))) (pss_cons (ps_set (i := 8) S_law_line.nd rfl (Or.inl rfl) (pe_op op_sub (pe_op op_mod (pe_ix ix_list (pv 0) (pe_op op_add pe_int (pe_op op_mulX pe_int (pv 6))) (fun _ _ => rfl)) (pe_op op_add (pe_op op_mulX pe_int (pv 4)) pe_int)) (pv 4))) (pss_cons (ps_if (pt_cmpR op_eq (pe_op op_mod (pe_ix ix_list (pv 0) pe_int (fun _ _ => rfl)) pe_int) pe_int (nomark _)) (pss_one (ps_set (i := 8) S_law_line.nd rfl (Or.inl rfl) (pe_ix ix_list (pe_lst (pa_cons pe_int (pa_cons (pv 7) pa_nil))) (pe_op op_mod (pe_ix ix_list (pv 0) pe_int (fun _ _ => rfl)) pe_int) (fun _ _ => rfl)))) pss_nil) hu1)))) (pss_one (ps_ret (pv 5))))))), ?_⟩
    -- many, most, wide, corners
    refine ⟨_, rfl, pn, _, _, _, rfl, rfl, SqL.of en, at_int 0 rfl (by omega), _, rfl, _, _, rfl, rfl, (by show (0 : Int) < (m : Int); omega), _, _, rfl, rfl, ?_⟩
    refine ⟨_, _, rfl, rfl, ⟨by decide, by decide, by decide⟩, _, _, rfl, rfl, ?_⟩
    have e12 : ((10 : Int) ^ (12 : Int).toNat - 1) = 999999999999 := by decide +kernel
    refine ⟨_, rfl, sz (by simp), fun pw hw => ?_⟩
    obtain ⟨H1, e1, s1, f1⟩ := grow (o := .lst [.int 1, .int 3, .int 7, .int (10 ^ (12 : Int).toNat - 1)]) hw
    rw [e1]
    have hv0 := Int.emod_nonneg ns[1] (show (4 : Int) ≠ 0 by decide)
    have hv1 := Int.emod_lt_of_pos ns[1] (show (0 : Int) < 4 by decide)
    obtain ⟨vb, hvb, mvb⟩ := atI_mem (xs := [V.int 1, .int 3, .int 7, .int (10 ^ (12 : Int).toNat - 1)]) hv0 hv1
    obtain ⟨wd, rfl, hw0, hw1⟩ : ∃ wd : Int, vb = .int wd ∧ 1 ≤ wd ∧ wd ≤ 999999999999 := by
      simp only [List.mem_cons, List.not_mem_nil, or_false] at mvb
      rcases mvb with rfl | rfl | rfl | rfl
      · exact ⟨_, rfl, by decide, by decide⟩
      · exact ⟨_, rfl, by decide, by decide⟩
      · exact ⟨_, rfl, by decide, by decide⟩
      · exact ⟨_, rfl, by rw [e12]; decide, by rw [e12]; decide⟩
    refine ⟨_, rfl, pn, _, _, _, rfl, rfl, SqL.of (s1 _ _ en), at_int 1 rfl (by omega), _, _, rfl, rfl, (by show (0 : Int) < 4; decide), pw, _, _, _, rfl, rfl, SqL.of f1, hvb, ?_⟩
    refine ⟨sz (by simp), fun pc hpc => ?_⟩
    obtain ⟨H2, e2, s2, f2⟩ := grow (o := .lst []) hpc
    rw [e2]
    have hM : ∃ M : Nat, ((1 : Int) + ns[0] % (m : Int)) = (M : Int) ∧ 1 ≤ M ∧ M ≤ m := ⟨((1 : Int) + ns[0] % (m : Int)).toNat, by omega, by omega, by omega⟩
    obtain ⟨M, eM, hM1, hM2⟩ := hM
    refine ⟨_, rfl, _, rfl, by omega, by omega, ?_⟩
    rw [eM, Int.toNat_natCast]
    have low : ∀ a : Int, bits (a % (2 * wd + 1) - wd) ≤ 50 := fun a => by
      have g0 := Int.emod_nonneg a (show (2 * wd + 1) ≠ 0 by omega)
      have g1 := Int.emod_lt_of_pos a (show (0 : Int) < 2 * wd + 1 by omega)
      refine bits_of (n := 50) ?_
      show _ < 1125899906842624
      omega
    refine for_range (fun i σ H' => ∃ (qs : List (Addr × Int × Int)) (z2 z3 z6 z7 z8 : Option V), σ = [some (.ref pn), some (.int (m : Int)), z2, z3, some (.int wd), some (.ref pc), z6, z7, z8] ∧ Same H1 H' ∧ LineAt H' pc qs ∧ qs.length = i)
      ⟨[], _, _, _, _, _, rfl, s2, ⟨f2, fun z h => nomatch h⟩, rfl⟩ ?_ ?_
    · rintro i σ H' hi ⟨qs, z2, z3, z6, z7, z8, rfl, sm, L, rfl⟩
      have en' := sm _ _ (s1 _ _ en)
      refine ⟨_, rfl, _, rfl, _, _, rfl, rfl, CM.l ⟨by decide, by decide⟩, _, _, rfl, rfl, pn, _, _, _, rfl, rfl, SqL.of en', at_int (4 + 2 * qs.length) (by omega) (by omega), _, rfl, _, _, rfl, rfl, CM.l ⟨by decide, by decide⟩, _, _, rfl, rfl, _, _, rfl, rfl, (by show (0 : Int) < 2 * wd + 1; omega), _, rfl, _, _, rfl, rfl, ?_⟩
      refine ⟨_, rfl, _, rfl, _, _, rfl, rfl, CM.l ⟨by decide, by decide⟩, _, _, rfl, rfl, pn, _, _, _, rfl, rfl, SqL.of en', at_int (5 + 2 * qs.length) (by omega) (by omega), _, rfl, _, _, rfl, rfl, CM.l ⟨by decide, by decide⟩, _, _, rfl, rfl, _, _, rfl, rfl, (by show (0 : Int) < 2 * wd + 1; omega), _, rfl, _, _, rfl, rfl, ?_⟩
      refine ⟨_, rfl, pn, _, _, _, rfl, rfl, SqL.of en', at_int 2 rfl (by omega), _, _, rfl, rfl, (by show (0 : Int) < 4; decide), rfl, _, rfl, ite3 (fun _ => ?_) (fun _ => ?_)⟩
      · refine ⟨_, rfl, sz (by simp), fun p3 h3 => ?_⟩
        obtain ⟨H3, e3, s3, f3⟩ := grow (o := .lst [.int 0, .int (ns[4 + 2 * qs.length] % (2 * wd + 1) - wd)]) h3
        show (fun (H3' : Hp) => _) (upd H' p3 (.lst [.int 0, .int (ns[4 + 2 * qs.length] % (2 * wd + 1) - wd)]))
        rw [e3]
        have g0 := Int.emod_nonneg ns[3] (show (2 : Int) ≠ 0 by decide)
        have g1 := Int.emod_lt_of_pos ns[3] (show (0 : Int) < 2 by decide)
        obtain ⟨vy, hvy, mvy⟩ := atI_mem (xs := [V.int 0, .int (ns[4 + 2 * qs.length] % (2 * wd + 1) - wd)]) g0 g1
        obtain ⟨yy, rfl, byy⟩ : ∃ yy : Int, vy = .int yy ∧ bits yy ≤ 50 := by
          simp only [List.mem_cons, List.not_mem_nil, or_false] at mvy
          rcases mvy with rfl | rfl
          · exact ⟨_, rfl, bits_le (bits_small (by decide) (by decide)) (by decide)⟩
          · exact ⟨_, rfl, low _⟩
        exact ⟨_, rfl, pn, _, _, _, rfl, rfl, SqL.of (s3 _ _ en'), at_int 3 rfl (by omega), _, _, rfl, rfl, (by show (0 : Int) < 2; decide), p3, _, _, _, rfl, rfl, SqL.of f3, hvy,
          rd1 _ H1 H3 pc qs _ _ _ _ _ yy hpc s1 (sm.trans s3) (L.mono s3) (by omega) (by omega) (low _) byy fun r x y H'' a b => ⟨qs ++ [(r, x, y)], _, _, _, _, _, rfl, a, b, by simp⟩⟩
      · exact rd1 _ H1 H' pc qs _ _ _ _ _ _ hpc s1 sm L (by omega) (by omega) (low _) (low _) fun r x y H'' a b => ⟨qs ++ [(r, x, y)], _, _, _, _, _, rfl, a, b, by simp⟩
    · rintro σ H' ⟨qs, z2, z3, z6, z7, z8, rfl, sm, L, hl⟩
      exact ⟨_, rfl, q pc qs H' L (by omega) (by omega) (s1.trans sm)⟩

theorem S_law_place : FnScope ["line", "way", "number", "last", "bottom", "top", "by"] ["line", "way", "number"] (defScope (top 29)) := ⟨rfl, rfl, rfl, by decide +kernel, rfl, by decide +kernel, by decide +kernel⟩
theorem fn_law_place (D_law_place : Df K mg "_law_place" (top 29)) (F_law_common : Fn P w K mg base "_law_common" ["one", "other"] 1 spCommon) (T : Txt mg) : Fn P w K mg base "_law_place" ["line", "way", "number"] 2 spPlaceL := by
  refine D_law_place.fn S_law_place (fun _ _ _ _ _ _ us hl => match us, hl with | [_, _, _], _ => rfl) (fun vs H Q E h => ?_) (fun f cdv A outer s H vs Q E hr h => ?_)
  · obtain ⟨p, xs, v, n, rfl, _⟩ := h
    rfl
  · obtain ⟨p, xs, v, n, rfl, e, h1, h20, hn, q⟩ := h
    refine ⟨_, (pss_cons (ps_set (i := 3) S_law_place.nd rfl (Or.inl rfl) (pe_op op_sub (pe_callB call_len_seq (by rfl) T.z_len bt_len (pa_cons (pv 0) pa_nil)) pe_int)) (pss_cons (ps_if (pw_or (pt_cmpR op_eq (pe_op op_mod (pv 1) pe_int) pe_int (nomark _)) (pw_or1 (pt_cmpR op_eq (pv 3) pe_int (nomark _)))).pt (pss_one (ps_ret (pe_tup (pa_cons (pe_op op_mod (pv 2) (pe_op op_add (pv 3) pe_int)) (pa_cons pe_int pa_nil))))) pss_nil) (pss_cons (ps_set (i := 4) S_law_place.nd rfl (Or.inl rfl) (pe_ix ix_list (pe_lst (pa_cons (pe_op op_add pe_int (pe_op op_mod (pe_op op_fdivP (pv 2) pe_int) pe_int)) (pa_cons pe_int (pa_cons (pe_op op_add (pe_op op_pow pe_int pe_int) pe_int) pa_nil)))) (pe_op op_mod (pe_op op_fdivP (pv 1) pe_int) pe_int) (fun _ _ => rfl))) (pss_cons (ps_set (i := 5) S_law_place.nd rfl (Or.inl rfl) (pe_op op_mod (pv 2) (pe_op op_add (pe_op op_mulX (pv 3) (pv 4)) pe_int))) (pss_cons (ps_set (i := 6) S_law_place.nd rfl (Or.inl rfl) (pe_fn F_law_common (hr.mono (by decide)) (by rfl) (pa_cons (pv 5) (pa_cons (pv 4) pa_nil)))) (pss_one (ps_ret (pe_tup (pa_cons (pe_op op_fdivP (pv 5) (pv 6)) (pa_cons (pe_op op_fdivP (pv 4) (pv 6)) pa_nil)))))))))), ?_⟩
    refine ⟨_, rfl, p, xs, rfl, .inl (SqL.of e), _, _, rfl, rfl, ?_⟩
    have hm0 := Int.emod_nonneg n (show ((xs.length : Int) - 1 + 1) ≠ 0 by omega)
    have hm1 := Int.emod_lt_of_pos n (show (0 : Int) < (xs.length : Int) - 1 + 1 by omega)
    have fin1 : ∀ r, H r = none → Q (.ref r) (upd H r (.tup [.int (n % ((xs.length : Int) - 1 + 1)), .int 1])) := fun r hr' => by
      obtain ⟨H1, e1, s1, f1⟩ := grow (o := .tup [.int (n % ((xs.length : Int) - 1 + 1)), .int 1]) hr'
      rw [e1]
      exact q r _ 1 H1 ⟨Int.le_refl 1, Int.gcd_one⟩ hm0 (by omega) (bits_le (bits_small (by omega) (by omega)) (by decide)) (bits_le (m := 1) (by decide) (by decide)) s1 f1
    refine ⟨_, rfl, _, _, rfl, rfl, (by show (0 : Int) < 4; decide), rfl, _, rfl, ite3 (fun _ => iteT ?_) (fun _ => ?_)⟩
    · exact ⟨_, rfl, _, rfl, _, _, rfl, rfl, _, _, rfl, rfl, (by show (0 : Int) < _; omega), sz (by simp), fin1⟩
    refine ⟨_, rfl, rfl, _, rfl, ite3 (fun _ => ?_) (fun _ => ?_)⟩
    · exact ⟨_, rfl, _, rfl, _, _, rfl, rfl, _, _, rfl, rfl, (by show (0 : Int) < _; omega), sz (by simp), fin1⟩
    have e16 : ((10 : Int) ^ (16 : Int).toNat + 61) = 10000000000000061 := by decide +kernel
    refine ⟨_, rfl, _, _, rfl, rfl, ⟨by decide, bits_le (m := 4) (by decide +kernel) (by decide)⟩, _, _, rfl, rfl, (by show (0 : Int) < 12; decide), _, _, rfl, rfl, _, _, rfl, rfl, ⟨by decide, by decide, by decide⟩, _, _, rfl, rfl, sz (by simp), fun pw hw => ?_⟩
    obtain ⟨H1, e1, s1, f1⟩ := grow (o := .lst [.int (1 + n / 10 % 12), .int 2, .int (10 ^ (16 : Int).toNat + 61)]) hw
    rw [e1]
    have hv0 := Int.emod_nonneg (v / 4) (show (3 : Int) ≠ 0 by decide)
    have hv1 := Int.emod_lt_of_pos (v / 4) (show (0 : Int) < 3 by decide)
    obtain ⟨vb, hvb, mvb⟩ := atI_mem (xs := [V.int (1 + n / 10 % 12), .int 2, .int (10 ^ (16 : Int).toNat + 61)]) hv0 hv1
    obtain ⟨bot, rfl, hb0, hb1⟩ : ∃ bot : Int, vb = .int bot ∧ 0 < bot ∧ bot ≤ 10000000000000061 := by
      have g0 := Int.emod_nonneg (n / 10) (show (12 : Int) ≠ 0 by decide)
      have g1 := Int.emod_lt_of_pos (n / 10) (show (0 : Int) < 12 by decide)
      simp only [List.mem_cons, List.not_mem_nil, or_false] at mvb
      rcases mvb with rfl | rfl | rfl
      · exact ⟨_, rfl, by omega, by omega⟩
      · exact ⟨_, rfl, by decide, by decide⟩
      · exact ⟨_, rfl, by rw [e16]; decide, by rw [e16]; decide⟩
    have bbot : bits bot ≤ 60 := by
      refine bits_of (n := 60) ?_
      show _ < 1152921504606846976
      omega
    refine ⟨_, rfl, _, _, rfl, rfl, ⟨by decide, bits_le (m := 3) (by decide +kernel) (by decide)⟩, _, _, rfl, rfl, (by show (0 : Int) < 3; decide), pw, _, _, _, rfl, rfl, SqL.of f1, hvb, ?_⟩
    have hlb : 0 ≤ ((xs.length : Int) - 1) * bot := Int.mul_nonneg (by omega) (by omega)
    refine ⟨_, rfl, _, rfl, _, rfl, _, _, rfl, rfl, CM.l (lt64s (by omega) (by omega)), _, _, rfl, rfl, _, _, rfl, rfl, (by show (0 : Int) < _; omega), ?_⟩
    have ht0 := Int.emod_nonneg n (show (((xs.length : Int) - 1) * bot + 1) ≠ 0 by omega)
    have ht1 := Int.emod_lt_of_pos n (show (0 : Int) < ((xs.length : Int) - 1) * bot + 1 by omega)
    have btop : bits (n % (((xs.length : Int) - 1) * bot + 1)) ≤ 70 := bits_range (b := ((xs.length : Int) - 1) * bot) ht0 (by omega) (bits_mul (bits_small (by omega) (by omega)) bbot)
    refine ⟨_, rfl, _, rfl, _, bot, rfl, ht0, by omega, ?_⟩
    have fin2 : ∀ top : Int, 0 ≤ top → top < ((xs.length : Int) - 1) * bot + 1 → bits top ≤ 70 → ∀ r, H1 r = none → Q (.ref r) (upd H1 r (.tup [.int (top / (Int.gcd top bot : Int)), .int (bot / (Int.gcd top bot : Int))])) := fun top ht0 ht1 btop r hr' => by
      have hg := gcd_pos (a := top) (b := bot) (by omega)
      obtain ⟨H2, e2, s2, f2⟩ := grow (o := .tup [.int (top / (Int.gcd top bot : Int)), .int (bot / (Int.gcd top bot : Int))]) hr'
      rw [e2]
      refine q r _ _ H2 (div_low hb0) (Int.ediv_nonneg ht0 (by omega)) ?_ (bits_le (bits_ediv hg btop) (by decide)) (bits_ediv hg bbot) (s1.trans s2) f2
      have d1 := div_eq top bot
      have d2 := div_eq' top bot
      have d3 : top / (Int.gcd top bot : Int) * (Int.gcd top bot : Int) ≤ ((xs.length : Int) - 1) * (bot / (Int.gcd top bot : Int)) * (Int.gcd top bot : Int) := by
        rw [← d1, Int.mul_assoc, ← d2]
        omega
      exact Int.le_of_mul_le_mul_right d3 hg
    have hg := gcd_pos (a := n % (((xs.length : Int) - 1) * bot + 1)) (b := bot) (by omega)
    have bg : bits (Int.gcd (n % (((xs.length : Int) - 1) * bot + 1)) bot : Int) ≤ 8000 := bits_le (gcd_bits hb0 bbot) (by decide)
    exact ⟨_, rfl, _, rfl, _, _, rfl, rfl, ⟨hg, bg⟩, _, rfl, _, rfl, _, _, rfl, rfl, ⟨hg, bg⟩, sz (by simp), fun r hr' => fin2 _ ht0 ht1 btop r hr'⟩

theorem S_number_at : FnScope ["begin", "end", "place", "rest"] ["begin", "end", "place"] (defScope (top 18)) := ⟨rfl, rfl, rfl, by decide +kernel, rfl, by decide +kernel, by decide +kernel⟩
theorem fn_number_at {C : Addr} (D_number_at : Df K mg "number_at" (top 18)) (F_ratio : Fx P w K mg base "ratio" ["top", "bottom"] 2 [.int 1] (spRatioN C)) : Fn P w K mg base "number_at" ["begin", "end", "place"] 3 spNumAt := by
  refine D_number_at.fn S_number_at (fun _ _ _ _ _ _ us hl => match us, hl with | [_, _, _], _ => rfl) (fun vs H Q E h => ?_) (fun f cdv A outer s H vs Q E hr h => ?_)
  · obtain ⟨x, y, p, t, b, rfl, _⟩ := h
    rfl
  · obtain ⟨x, y, p, t, b, rfl, fp, bx, by', k⟩ := h
    have hb := fp.low.pos
    have ep := fp.at_
    have br : bits (t % b) ≤ 120 := bits_range (Int.emod_nonneg _ (by omega)) (Int.le_of_lt (Int.emod_lt_of_pos _ (by omega))) fp.bb
    refine ⟨_, (pss_cons (ps_set (i := 3) S_number_at.nd rfl (Or.inl rfl) (pe_op op_mod (pe_ix ix_tup (pv 2) pe_int (fun _ _ => rfl)) (pe_ix ix_tup (pv 2) pe_int (fun _ _ => rfl)))) (pss_one (ps_ret (pe_fx0 F_ratio (hr.mono (by decide)) (by rfl) (pa_cons (pe_op op_add (pe_op op_mulX (pv 0) (pe_ix ix_tup (pv 2) pe_int (fun _ _ => rfl))) (pe_op op_mulX (pe_op op_sub (pv 1) (pv 0)) (pv 3))) (pa_cons (pe_ix ix_tup (pv 2) pe_int (fun _ _ => rfl)) pa_nil)))))), ?_⟩
    refine ⟨_, rfl, p, _, _, _, rfl, rfl, SqT.of ep, rfl, _, rfl, p, _, _, _, rfl, rfl, SqT.of ep, rfl, _, _, rfl, rfl, (by show (0 : Int) < b; omega), ?_⟩
    refine ⟨_, rfl, _, rfl, p, _, _, _, rfl, rfl, SqT.of ep, rfl, _, _, rfl, rfl, CM.b bx fp.bb (by decide) (by decide), _, rfl, _, rfl, _, _, rfl, rfl, _, rfl, _, _, rfl, rfl, CM.b (bits_sub by' bx) br (by decide) (by decide), _, _, rfl, rfl, ?_⟩
    refine ⟨_, rfl, p, _, _, _, rfl, rfl, SqT.of ep, rfl, _, _, 182, rfl, ⟨bits_le (bits_add (n := 181) (bits_le (bits_mul bx fp.bb) (by decide)) (bits_mul (bits_sub by' bx) br)) (by decide), bits_le fp.bb (by decide), by decide⟩, fun z => absurd z (by omega), fun _ r u v fr bu bv hr' => ?_⟩
    obtain ⟨H1, e1, s1, f1⟩ := grow (o := .tup [.int u, .int v]) hr'
    rw [e1]
    exact k r u v H1 fr ⟨f1, fr.low, bu, bv⟩ s1
theorem S_point_at : FnScope ["line", "place", "corner", "begin", "end"] ["line", "place"] (defScope (top 19)) := ⟨rfl, rfl, rfl, by decide +kernel, rfl, by decide +kernel, by decide +kernel⟩
theorem fn_point_at {C : Addr} (D_point_at : Df K mg "point_at" (top 19)) (F_look_at_place : Fx P w K mg base "look_at_place" ["line", "thing"] 4 [] (spLook C)) (F_floor_of : Fn P w K mg base "floor_of" ["a"] 1 spFloor) (F_last_of : Fn P w K mg base "last_of" ["line"] 1 spLast) (F_number_at : Fn P w K mg base "number_at" ["begin", "end", "place"] 3 spNumAt) (T : Txt mg) :
    Fx P w K mg base "point_at" ["line", "place"] 5 [] (spPoint C) := by
  refine D_point_at.fx S_point_at (fun _ _ _ _ _ _ us hl => match us, hl with | [_, _], _ => rfl) (fun vs H Q E h => ?_) (fun f cdv A outer s H vs Q E hr h => ?_)
  · obtain ⟨l, qs, x, rfl, _⟩ := h
    rfl
  · obtain ⟨l, qs, x, rfl, L, h1, h20, th, k0, k1⟩ := h
    have hll : (qs.map fun (q : Addr × Int × Int) => V.ref q.1).length = qs.length := List.length_map _
    refine ⟨_, (pss_cons (ps_expr (pe_fx F_look_at_place (hr.mono (by decide)) (by rfl) (pa_cons (pv 0) (pa_cons (pv 1) pa_nil)))) (pss_cons (ps_set (i := 2) S_point_at.nd rfl (Or.inl rfl) (pe_fn F_floor_of (hr.mono (by decide)) (by rfl) (pa_cons (pv 1) pa_nil))) (pss_cons (ps_set (i := 3) S_point_at.nd rfl (Or.inl rfl) (pe_ix ix_list (pv 0) (pv 2) (fun _ _ => rfl))) (pss_cons (ps_set (i := 4) S_point_at.nd rfl (Or.inl rfl) (pe_ix ix_list (pv 0) (pe_callB (call_min2 rfl) (by rfl) T.z_min bt_min (pa_cons (pe_op op_add (pv 2) pe_int) (pa_cons (pe_fn F_last_of (hr.mono (by decide)) (by rfl) (pa_cons (pv 0) pa_nil)) pa_nil))) (fun _ _ => rfl))) (pss_one (ps_ret (pe_tup (pa_cons (pe_fn F_number_at (hr.mono (by decide)) (by rfl) (pa_cons (pe_ix ix_tup (pv 3) pe_int (fun _ _ => rfl)) (pa_cons (pe_ix ix_tup (pv 4) pe_int (fun _ _ => rfl)) (pa_cons (pv 1) pa_nil)))) (pa_cons (pe_fn F_number_at (hr.mono (by decide)) (by rfl) (pa_cons (pe_ix ix_tup (pv 3) pe_int (fun _ _ => rfl)) (pa_cons (pe_ix ix_tup (pv 4) pe_int (fun _ _ => rfl)) (pa_cons (pv 1) pa_nil)))) pa_nil))))))))), ?_⟩
    refine ⟨_, rfl, _, rfl, l, _, x, rfl, L.lst, by rw [hll]; omega, th, fun z => k0 (by rw [hll] at z; exact z), fun hx => ?_⟩
    rw [hll] at hx
    obtain ⟨p, t, b, rfl, ep, lw, t0, t1⟩ := placeV_inv hx
    obtain ⟨bt, bb, k⟩ := k1 p t b rfl ep lw t0 t1
    have hb := lw.pos
    have fp : Fr2 H p t b 120 := ⟨ep, lw, bt, bb⟩
    have q0 : 0 ≤ t / b := fl_nn (by omega) t0
    have qn : t / b ≤ (qs.length : Int) - 1 := Int.ediv_le_of_le_mul (by omega) t1
    refine ⟨_, rfl, p, t, b, rfl, ep, ⟨by omega, bits_le bb (by decide)⟩, ?_⟩
    have atq : ∀ (j : Nat) (k : Int), k = (j : Int) → j < qs.length → atI (qs.map fun (q : Addr × Int × Int) => V.ref q.1) k = some (.ref (qs.getD j (0, 0, 0)).1) ∧ qs.getD j (0, 0, 0) ∈ qs := fun j k ek hj => by
      have e1 : qs.getD j (0, 0, 0) = qs[j] := by rw [List.getD_eq_getElem?_getD, List.getElem?_eq_getElem hj]; rfl
      rw [e1]
      subst ek
      exact ⟨atI_nat (by rw [List.getElem?_map, List.getElem?_eq_getElem hj]; rfl), List.getElem_mem hj⟩
    obtain ⟨a0, m0⟩ := atq (t / b).toNat (t / b) (by omega) (by omega)
    refine ⟨_, rfl, _, rfl, l, _, _, _, rfl, rfl, SqL.of L.lst, a0, ?_⟩
    obtain ⟨a1, m1⟩ := atq (min ((t / b).toNat + 1) (qs.length - 1)) (if ((((qs.map fun (q : Addr × Int × Int) => V.ref q.1).length : Nat) : Int) - 1) < t / b + 1 then ((((qs.map fun (q : Addr × Int × Int) => V.ref q.1).length : Nat) : Int) - 1) else t / b + 1) (by rw [hll]; split <;> omega) (by omega)
    refine ⟨_, rfl, _, rfl, _, _, rfl, rfl, _, rfl, l, _, rfl, L.lst, _, _, rfl, l, _, _, _, rfl, rfl, SqL.of L.lst, a1, ?_⟩
    have c0 := L.crn _ m0
    have c1 := L.crn _ m1
    refine ⟨_, rfl, _, _, _, _, rfl, rfl, SqT.of c0.1, rfl, _, rfl, _, _, _, _, rfl, rfl, SqT.of c1.1, rfl, _, rfl, _, _, p, t, b, rfl, fp, bits_le c0.2.1 (by decide), bits_le c1.2.1 (by decide), fun rx u v H1 fr1 g1 s1 => ?_⟩
    refine ⟨_, rfl, _, _, _, _, rfl, rfl, SqT.of (s1 _ _ c0.1), rfl, _, rfl, _, _, _, _, rfl, rfl, SqT.of (s1 _ _ c1.1), rfl, _, rfl, _, _, p, t, b, rfl, fp.mono s1, bits_le c0.2.2 (by decide), bits_le c1.2.2 (by decide), fun ry c d H2 fr2 g2 s2 => ?_⟩
    refine ⟨sz (by simp), fun r hr' => ?_⟩
    obtain ⟨H3, e3, s3, f3⟩ := grow (o := .tup [.ref rx, .ref ry]) hr'
    rw [e3]
    exact k r H3 ⟨⟨rx, ry, u, v, c, d, f3, (g1.mono s2).mono s3, g2.mono s3, fr1, fr2⟩⟩ (s1.trans (s2.trans s3))

theorem S_step_from : FnScope ["begin", "end"] ["begin", "end"] (defScope (top 20)) := ⟨rfl, rfl, rfl, by decide +kernel, rfl, by decide +kernel, by decide +kernel⟩
theorem fn_step_from (D_step_from : Df K mg "step_from" (top 20)) (F_minus : Fn P w K mg base "minus" ["a", "b"] 3 (spBin (fun a b c d => a * d - c * b) (fun a b c d => b * d))) : Fn P w K mg base "step_from" ["begin", "end"] 4 spStep := by
  refine D_step_from.fn S_step_from (fun _ _ _ _ _ _ us hl => match us, hl with | [_, _], _ => rfl) (fun vs H Q E h => ?_) (fun f cdv A outer s H vs Q E hr h => ?_)
  · obtain ⟨p, q, u, v, c, d, u', v', c', d', rfl, _⟩ := h
    rfl
  · obtain ⟨p, q, u, v, c, d, u', v', c', d', rfl, fp, fq, k⟩ := h
    obtain ⟨px, py, ep, gx, gy⟩ := fp.ex
    obtain ⟨qx, qy, eq, hx, hy⟩ := fq.ex
    have nz : ∀ {x y : Int}, 1 ≤ x → 1 ≤ y → x * y ≠ 0 := fun hx hy => Int.mul_ne_zero (by omega) (by omega)
    refine ⟨_, (pss_one (ps_ret (pe_tup (pa_cons (pe_fn F_minus (hr.mono (by decide)) (by rfl) (pa_cons (pe_ix ix_tup (pv 1) pe_int (fun _ _ => rfl)) (pa_cons (pe_ix ix_tup (pv 0) pe_int (fun _ _ => rfl)) pa_nil))) (pa_cons (pe_fn F_minus (hr.mono (by decide)) (by rfl) (pa_cons (pe_ix ix_tup (pv 1) pe_int (fun _ _ => rfl)) (pa_cons (pe_ix ix_tup (pv 0) pe_int (fun _ _ => rfl)) pa_nil))) pa_nil))))), ?_⟩
    refine ⟨_, rfl, q, _, _, _, rfl, rfl, SqT.of eq, rfl, _, rfl, p, _, _, _, rfl, rfl, SqT.of ep, rfl, qx, px, u', v', u, v, 182, rfl, hx, gx, by decide, nz hx.low.pos gx.low.pos, fun r1 a b H1 fr1 g1 s1 => ?_⟩
    refine ⟨_, rfl, q, _, _, _, rfl, rfl, SqT.of (s1 _ _ eq), rfl, _, rfl, p, _, _, _, rfl, rfl, SqT.of (s1 _ _ ep), rfl, qy, py, c', d', c, d, 182, rfl, hy.mono s1, gy.mono s1, by decide, nz hy.low.pos gy.low.pos, fun r2 e f H2 fr2 g2 s2 => ?_⟩
    refine ⟨sz (by simp), fun r hr' => ?_⟩
    obtain ⟨H3, e3, s3, f3⟩ := grow (o := .tup [.ref r1, .ref r2]) hr'
    rw [e3]
    exact k r a b e f H3 fr1 fr2 ⟨⟨r1, r2, f3, (g1.mono s2).mono s3, g2.mono s3⟩⟩ (s1.trans (s2.trans s3))
theorem S_inner_product : FnScope ["one", "other"] ["one", "other"] (defScope (top 21)) := ⟨rfl, rfl, rfl, by decide +kernel, rfl, by decide +kernel, by decide +kernel⟩
theorem fn_inner_product (D_inner_product : Df K mg "inner_product" (top 21)) (F_plus : Fn P w K mg base "plus" ["a", "b"] 3 (spBin (fun a b c d => a * d + c * b) (fun a b c d => b * d))) (F_times : Fn P w K mg base "times" ["a", "b"] 3 (spBin (fun a b c d => a * c) (fun a b c d => b * d))) : Fn P w K mg base "inner_product" ["one", "other"] 4 spInner := by
  refine D_inner_product.fn S_inner_product (fun _ _ _ _ _ _ us hl => match us, hl with | [_, _], _ => rfl) (fun vs H Q E h => ?_) (fun f cdv A outer s H vs Q E hr h => ?_)
  · obtain ⟨p, a, b, e, f, rfl, _⟩ := h
    rfl
  · obtain ⟨p, a, b, e, f, rfl, fp, k⟩ := h
    obtain ⟨px, py, ep, gx, gy⟩ := fp.ex
    have nz : ∀ {x y : Int}, 1 ≤ x → 1 ≤ y → x * y ≠ 0 := fun hx hy => Int.mul_ne_zero (by omega) (by omega)
    refine ⟨_, (pss_one (ps_ret (pe_fn F_plus (hr.mono (by decide)) (by rfl) (pa_cons (pe_fn F_times (hr.mono (by decide)) (by rfl) (pa_cons (pe_ix ix_tup (pv 0) pe_int (fun _ _ => rfl)) (pa_cons (pe_ix ix_tup (pv 1) pe_int (fun _ _ => rfl)) pa_nil))) (pa_cons (pe_fn F_times (hr.mono (by decide)) (by rfl) (pa_cons (pe_ix ix_tup (pv 0) pe_int (fun _ _ => rfl)) (pa_cons (pe_ix ix_tup (pv 1) pe_int (fun _ _ => rfl)) pa_nil))) pa_nil))))), ?_⟩
    refine ⟨_, rfl, p, _, _, _, rfl, rfl, SqT.of ep, rfl, _, rfl, p, _, _, _, rfl, rfl, SqT.of ep, rfl, px, px, a, b, a, b, 365, rfl, gx, gx, by decide, nz gx.low.pos gx.low.pos, fun r1 m n H1 fr1 g1 s1 => ?_⟩
    refine ⟨_, rfl, p, _, _, _, rfl, rfl, SqT.of (s1 _ _ ep), rfl, _, rfl, p, _, _, _, rfl, rfl, SqT.of (s1 _ _ ep), rfl, py, py, e, f, e, f, 365, rfl, gy.mono s1, gy.mono s1, by decide, nz gy.low.pos gy.low.pos, fun r2 m' n' H2 fr2 g2 s2 => ?_⟩
    exact ⟨r1, r2, m, n, m', n', 731, rfl, g1.mono s2, g2, by decide, nz g1.low.pos g2.low.pos, fun r s' w' H3 fr3 g3 s3 => k r m n m' n' s' w' H3 fr1 fr2 fr3 g3 (s1.trans (s2.trans s3))⟩
theorem S_square_between : FnScope ["begin", "end", "step"] ["begin", "end"] (defScope (top 22)) := ⟨rfl, rfl, rfl, by decide +kernel, rfl, by decide +kernel, by decide +kernel⟩
theorem fn_square_between (D_square_between : Df K mg "square_between" (top 22)) (F_step_from : Fn P w K mg base "step_from" ["begin", "end"] 4 spStep) (F_inner_product : Fn P w K mg base "inner_product" ["one", "other"] 4 spInner) : Fn P w K mg base "square_between" ["begin", "end"] 5 spSqB := by
  refine D_square_between.fn S_square_between (fun _ _ _ _ _ _ us hl => match us, hl with | [_, _], _ => rfl) (fun vs H Q E h => ?_) (fun f cdv A outer s H vs Q E hr h => ?_)
  · obtain ⟨p, q, X, Y, b, X', Y', b', rfl, _⟩ := h
    rfl
  · obtain ⟨p, q, X, Y, b, X', Y', b', rfl, fp, fq, hb, hb', k⟩ := h
    obtain ⟨px, py, u, v, c, d, ep, gx, gy, f1, f2⟩ := fp.ex
    obtain ⟨qx, qy, u', v', c', d', eq, hx, hy, f3, f4⟩ := fq.ex
    refine ⟨_, (pss_cons (ps_set (i := 2) S_square_between.nd rfl (Or.inl rfl) (pe_fn F_step_from (hr.mono (by decide)) (by rfl) (pa_cons (pv 0) (pa_cons (pv 1) pa_nil)))) (pss_one (ps_ret (pe_fn F_inner_product (hr.mono (by decide)) (by rfl) (pa_cons (pv 2) (pa_cons (pv 2) pa_nil)))))), ?_⟩
    refine ⟨_, rfl, _, rfl, p, q, u, v, c, d, u', v', c', d', rfl, ⟨⟨px, py, ep, gx, gy⟩⟩, ⟨⟨qx, qy, eq, hx, hy⟩⟩, fun r a e a' e' H1 g1 g2 pf s1 => ?_⟩
    exact ⟨_, rfl, _, rfl, r, a, e, a', e', rfl, pf, fun r2 m n m' n' s' w' H2 k1 k2 k3 g3 s2 => k r2 s' w' H2 (sq_frac f1 f2 f3 f4 g1 g2 k1 k2 k3) g3 (s1.trans s2)⟩
theorem S_square_of : FnScope ["one", "x", "other", "y"] ["one", "x", "other", "y"] (defScope (top 23)) := ⟨rfl, rfl, rfl, by decide +kernel, rfl, by decide +kernel, by decide +kernel⟩
theorem fn_square_of {C : Addr} (D_square_of : Df K mg "square_of" (top 23)) (F_square_between : Fn P w K mg base "square_between" ["begin", "end"] 5 spSqB) (F_point_at : Fx P w K mg base "point_at" ["line", "place"] 5 [] (spPoint C)) : Fx P w K mg base "square_of" ["one", "x", "other", "y"] 6 [] (spSquare C) := by
  refine D_square_of.fx S_square_of (fun _ _ _ _ _ _ us hl => match us, hl with | [_, _, _, _], _ => rfl) (fun vs H Q E h => ?_) (fun f cdv A outer s H vs Q E hr h => ?_)
  · obtain ⟨l, l', qs, qs', x, y, rfl, _⟩ := h
    rfl
  · obtain ⟨l, l', qs, qs', x, y, rfl, L, L', h1, h1', tx, ty, h⟩ := h
    refine ⟨_, (pss_one (ps_ret (pe_fn F_square_between (hr.mono (by decide)) (by rfl) (pa_cons (pe_fx F_point_at (hr.mono (by decide)) (by rfl) (pa_cons (pv 0) (pa_cons (pv 1) pa_nil))) (pa_cons (pe_fx F_point_at (hr.mono (by decide)) (by rfl) (pa_cons (pv 2) (pa_cons (pv 3) pa_nil))) pa_nil))))), ?_⟩
    refine ⟨_, rfl, _, rfl, l, qs, x, rfl, L, h1.1, h1.2, tx, fun z => ?_, fun p t b ep eH lw t0 t1 => ?_⟩
    · rcases h with h | ⟨p, t, b, rfl, pl, _⟩
      · exact h.2
      · rw [show placeV ((qs.length : Int) - 1) H (.ref p) = true from pl.place] at z
        cases z
    rcases h with h | ⟨p', t', b', rfl, pl, h⟩
    · subst ep
      have z := h.1
      rw [show placeV (lst_ qs) H (.ref p) = true from placeV_of eH lw t0 t1] at z
      cases z
    cases ep
    have e2 := pl.at_
    rw [eH] at e2
    cases e2
    refine ⟨pl.bt, pl.bb, fun r H1 pt s1 => ?_⟩
    refine ⟨_, rfl, _, rfl, l', qs', y, rfl, L'.mono s1, h1'.1, h1'.2, Thing.mono ty s1, fun z => ?_, fun q u c eq' eH' lw' u0 u1 => ?_⟩
    · rcases h with h | ⟨q, u, c, rfl, pl', _⟩
      · exact h.2 H1 s1
      · rw [show placeV ((qs'.length : Int) - 1) H1 (.ref q) = true from (pl'.mono s1).place] at z
        cases z
    rcases h with h | ⟨q', u', c', rfl, pl', k⟩
    · subst eq'
      have z := h.1
      obtain ⟨kd, kn⟩ := ty.kn
      rw [← placeV_same kn s1, show placeV (lst_ qs') H1 (.ref q) = true from placeV_of eH' lw' u0 u1] at z
      cases z
    cases eq'
    have e3 := (pl'.mono s1).at_
    rw [eH'] at e3
    cases e3
    refine ⟨pl'.bt, pl'.bb, fun r' H2 pt' s2 => ?_⟩
    have hb := lw.pos
    have hc := lw'.pos
    exact ⟨r, r', _, _, _, _, _, _, rfl, pt.mono s2, pt', by omega, by omega, fun r2 s' w' H3 fr f3 s3 => k r2 s' w' H3 fr f3 (s1.trans (s2.trans s3))⟩

def spLower : Sp := fun vs H Q _ => ∃ a b : Int, vs = [.int a, .int b] ∧ 0 ≤ a ∧ (0 < b ∧ bits b ≤ 2000) ∧ ∀ (p : Addr) (t u : Int) (H' : Hp), Frac a b t u → t ≤ a → u ≤ b → Same H H' → H' p = some (.tup [.int t, .int u]) → Q (.ref p) H'
def spAlike : Sp := fun vs H Q _ => ∃ (l p l' p' lb : Addr) (qs qs' bs : Crn) (t b t' b' : Int), vs = [.ref l, .ref p, .ref l', .ref p', .ref lb] ∧ LineAt H l qs ∧ LineAt H l' qs' ∧ LineAt H lb bs ∧ (1 ≤ qs.length ∧ qs.length ≤ 20) ∧ (1 ≤ qs'.length ∧ qs'.length ≤ 20) ∧ (1 ≤ bs.length ∧ bs.length ≤ 20) ∧ Plc H p t b (lst_ qs) ∧ Plc H p' t' b' (lst_ qs') ∧ AL qs t b qs' t' b' ∧ ∀ H', Same H H' → Q (.bl true) H'
theorem pt_rp {H : Hp} {r : Addr} {X Y b : Int} {n : Nat} (p : PtAt H r X Y b n) : ∃ u v c d : Int, Frac X b u v ∧ Frac Y b c d ∧ Rp H 9 (.ref r) (.tup [.tup [.int u, .int v], .tup [.int c, .int d]]) := by
  obtain ⟨rx, ry, u, v, c, d, e, f, g, h, k⟩ := p.ex
  exact ⟨u, v, c, d, h, k, Rp.t2 e (Rp.t2 f.at_ .int .int) (Rp.t2 g.at_ .int .int)⟩
theorem S_law_lower : FnScope ["top", "bottom", "by"] ["top", "bottom"] (defScope (top 31)) := ⟨rfl, rfl, rfl, by decide +kernel, rfl, by decide +kernel, by decide +kernel⟩
theorem fn_law_lower (D_law_lower : Df K mg "_law_lower" (top 31)) (F_law_common : Fn P w K mg base "_law_common" ["one", "other"] 1 spCommon) : Fn P w K mg base "_law_lower" ["top", "bottom"] 2 spLower := by
  refine D_law_lower.fn S_law_lower (fun _ _ _ _ _ _ us hl => match us, hl with | [_, _], _ => rfl) (fun vs H Q E h => ?_) (fun f cdv A outer s H vs Q E hr h => ?_)
  · obtain ⟨a, b, rfl, _⟩ := h
    rfl
  · obtain ⟨a, b, rfl, ha, ⟨hb, bb⟩, q⟩ := h
    refine ⟨_, (pss_cons (ps_set (i := 2) S_law_lower.nd rfl (Or.inl rfl) (pe_fn F_law_common (hr.mono (by decide)) (by rfl) (pa_cons (pv 0) (pa_cons (pv 1) pa_nil)))) (pss_one (ps_ret (pe_tupA (pa_cons (pe_op op_fdivP (pv 0) (pv 2)) (pa_cons (pe_op op_fdivP (pv 1) (pv 2)) pa_nil)))))), ?_⟩
    refine ⟨_, rfl, _, rfl, a, b, rfl, ha, by omega, ?_⟩
    have hg := gcd_pos (a := a) (b := b) (by omega)
    have bg : bits (Int.gcd a b : Int) ≤ 8000 := bits_le (gcd_bits2 (by omega) bb) (by decide)
    refine ⟨_, rfl, _, rfl, _, _, rfl, rfl, ⟨hg, bg⟩, _, rfl, _, rfl, _, _, rfl, rfl, ⟨hg, bg⟩, sz (by simp), fun p H1 s1 f1 n1 => ?_⟩
    exact q p _ _ H1 (frac_pos hb) (Int.ediv_le_self _ ha) (Int.ediv_le_self _ (by omega)) s1 f1
theorem S_law_alike : FnScope ["line", "place", "new", "other", "beside"] ["line", "place", "new", "other", "beside"] (defScope (top 33)) := ⟨rfl, rfl, rfl, by decide +kernel, rfl, by decide +kernel, by decide +kernel⟩
theorem fn_law_alike {C : Addr} (D_law_alike : Df K mg "_law_alike" (top 33)) (F_is_place : Fn P w K mg base "is_place" ["line", "thing"] 3 spIsPlace) (F_point_at : Fx P w K mg base "point_at" ["line", "place"] 5 [] (spPoint C)) (F_square_of : Fx P w K mg base "square_of" ["one", "x", "other", "y"] 6 [] (spSquare C)) (T : Txt mg) : Fn P w K mg base "_law_alike" ["line", "place", "new", "other", "beside"] 7 spAlike := by
  refine D_law_alike.fn S_law_alike (fun _ _ _ _ _ _ us hl => match us, hl with | [_, _, _, _, _], _ => rfl) (fun vs H Q E h => ?_) (fun f cdv A outer s H vs Q E hr h => ?_)
  · obtain ⟨l, p, l', p', lb, qs, qs', bs, t, b, t', b', rfl, _⟩ := h
    rfl
  · obtain ⟨l, p, l', p', lb, qs, qs', bs, t, b, t', b', rfl, L, L', LB, h1, h1', hb1, pl, pl', al, q⟩ := h
    refine ⟨_, (pss_cons (ps_if (pw_or (pt_not (pt_val (pe_fn F_is_place (hr.mono (by decide)) (by rfl) (pa_cons (pv 2) (pa_cons (pv 3) pa_nil))))) (pw_or1 (pt_cmpR (op_neD hr.units10) (pe_fx0 F_point_at (hr.mono (by decide)) (by rfl) (pa_cons (pv 0) (pa_cons (pv 1) pa_nil))) (pe_fx0 F_point_at (hr.mono (by decide)) (by rfl) (pa_cons (pv 2) (pa_cons (pv 3) pa_nil))) (nomark _)))).pt (pss_one (ps_ret pe_bl)) pss_nil) (pss_one (ps_ret (pe_cmpR (op_eqI hr.units0) (pe_fx0 F_square_of (hr.mono (by decide)) (by rfl) (pa_cons (pv 4) (pa_cons (pe_tupA (pa_cons pe_int (pa_cons pe_int pa_nil))) (pa_cons (pv 0) (pa_cons (pv 1) pa_nil))))) (pe_fx0 F_square_of (hr.mono (by decide)) (by rfl) (pa_cons (pv 4) (pa_cons (pe_tupA (pa_cons pe_int (pa_cons pe_int pa_nil))) (pa_cons (pv 2) (pa_cons (pv 3) pa_nil))))) (nomark _))))), ?_⟩
    have hb : (0 : Int) < b := pl.low.pos
    have hb' : (0 : Int) < b' := pl'.low.pos
    have hll : (qs'.map fun (q : Addr × Int × Int) => V.ref q.1).length = qs'.length := List.length_map _
    refine ⟨_, rfl, _, rfl, l', _, _, rfl, L'.lst, by rw [hll]; omega, pl'.th, _, rfl, iteFalse ?_ ?_⟩
    · rw [hll, show placeV ((qs'.length : Int) - 1) H (.ref p') = true from pl'.place]
      rfl
    refine ⟨_, rfl, _, rfl, l, qs, _, rfl, L, h1.1, h1.2, pl.th, fun z => ?_, fun p0 t0 b0 e0 eH lw t00 t01 => ?_⟩
    · rw [show placeV ((qs.length : Int) - 1) H (.ref p) = true from pl.place] at z
      cases z
    cases e0
    have e2 := pl.at_
    rw [eH] at e2
    cases e2
    refine ⟨pl.bt, pl.bb, fun r1 H1 pt1 s1 => ?_⟩
    have pl1 := pl'.mono s1
    refine ⟨_, rfl, _, rfl, l', qs', _, rfl, L'.mono s1, h1'.1, h1'.2, pl1.th, fun z => ?_, fun p0 t0 b0 e0 eH' lw' t00' t01' => ?_⟩
    · rw [show placeV ((qs'.length : Int) - 1) H1 (.ref p') = true from pl1.place] at z
      cases z
    cases e0
    have e3 := pl1.at_
    rw [eH'] at e3
    cases e3
    refine ⟨pl'.bt, pl'.bb, fun r2 H2 pt2 s2 => ?_⟩
    obtain ⟨u, v, c, d, f1, f2, rp1⟩ := pt_rp (pt1.mono s2)
    obtain ⟨u', v', c', d', g1, g2, rp2⟩ := pt_rp pt2
    obtain ⟨e4, e5⟩ := al_frac hb hb' al (fun z => z.1) (.inl rfl) f1 g1
    obtain ⟨e6, e7⟩ := al_frac hb hb' al (fun z => z.2) (.inr rfl) f2 g2
    subst e4 e5 e6 e7
    refine ⟨_, _, rp1, rp2, _, rfl, iteFalse (by rw [deq_self]; rfl) ?_⟩
    have z1 : ∀ {Ha : Hp} {z : Addr}, Ha z = some (.tup [.int 0, .int 1]) → Plc Ha z 0 1 (lst_ bs) := fun e => ⟨e, ⟨by decide, by decide⟩, by decide, by unfold lst_; omega, by decide, by decide⟩
    have S2 := s1.trans s2
    refine ⟨_, rfl, sz (by simp), fun zp H3 s3 f3 n3 => ?_⟩
    have S3 := S2.trans s3
    refine ⟨_, rfl, _, rfl, lb, l, bs, qs, _, _, rfl, LB.mono S3, L.mono S3, hb1, h1, (z1 f3).th, (pl.mono S3).th, .inr ⟨zp, 0, 1, rfl, z1 f3, .inr ⟨p, t, b, rfl, pl.mono S3, fun r3 s w' H4 fr fr2 s4 => ?_⟩⟩⟩
    refine ⟨_, rfl, sz (by simp), fun zp' H5 s5 f5 n5 => ?_⟩
    have S5 := S3.trans (s4.trans s5)
    refine ⟨_, rfl, _, rfl, lb, l', bs, qs', _, _, rfl, LB.mono S5, L'.mono S5, hb1, h1', (z1 f5).th, (pl'.mono S5).th, .inr ⟨zp', 0, 1, rfl, z1 f5, .inr ⟨p', t', b', rfl, pl'.mono S5, fun r6 s' w2 H6 fr' fr2' s6 => ?_⟩⟩⟩
    obtain ⟨es, ew⟩ := al_sq hb hb' (by decide) al fr fr'
    subst es ew
    refine ⟨r3, r6, [s, w'], [s, w'], rfl, rfl, SqT.of (s6 _ _ (s5 _ _ fr2.at_)), SqT.of fr2'.at_, ?_⟩
    show Q (.bl (decide ([s, w'] = [s, w']))) H6
    rw [decide_eq_true rfl]
    exact q H6 (S5.trans s6)

def insL (qs : Crn) (a : Nat) (z : Addr × Int × Int) : Crn := qs.take (a + 1) ++ z :: qs.drop (a + 1)
def spMoved12 : Sp := fun vs H Q _ => ∃ (p : Addr) (t b : Int) (a : Nat) (st v : Int) (qs : Crn) (z : Addr × Int × Int) (d : (Int × Int → Int) → Int), vs = [.ref p, .int (a : Int), .int st, .int v] ∧ Plc H p t b (lst_ qs) ∧ (bits t ≤ 101 ∧ bits b ≤ 60) ∧ (a + 1 < qs.length ∧ qs.length ≤ 15) ∧ (0 < v ∧ v < st ∧ st ≤ 7) ∧ (∀ c, Cd c → cr c qs (a + 1) = cr c qs a + st * d c) ∧ (∀ c : Int × Int → Int, Cd c → c z.2 = cr c qs a + v * d c) ∧ ∀ (p' : Addr) (t' b' : Int) (H' : Hp), Plc H' p' t' b' (lst_ (insL qs a z)) → AL qs t b (insL qs a z) t' b' → Same H H' → Q (.ref p') H'
theorem lst_ins {qs : Crn} {a : Nat} {z : Addr × Int × Int} (h : a < qs.length) : lst_ (insL qs a z) = (qs.length : Int) := by
  unfold lst_ insL
  rw [ins_len h]
  omega
theorem S_law_moved : FnScope ["place", "at", "steps", "behind", "top", "bottom", "part", "left"] ["place", "at", "steps", "behind"] (defScope (top 32)) := ⟨rfl, rfl, rfl, by decide +kernel, rfl, by decide +kernel, by decide +kernel⟩
theorem fn_law_moved (D_law_moved : Df K mg "_law_moved" (top 32)) (F_law_lower : Fn P w K mg base "_law_lower" ["top", "bottom"] 2 spLower) : Fn P w K mg base "_law_moved" ["place", "at", "steps", "behind"] 3 spMoved12 := by
  refine D_law_moved.fn S_law_moved (fun _ _ _ _ _ _ us hl => match us, hl with | [_, _, _, _], _ => rfl) (fun vs H Q E h => ?_) (fun f cdv A outer s H vs Q E hr h => ?_)
  · obtain ⟨p, t, b, a, st, v, qs, z, d, rfl, _⟩ := h
    rfl
  · obtain ⟨p, t, b, a, st, v, qs, z, d, rfl, pl, ⟨bt, bb⟩, ⟨ha, hq⟩, ⟨hv0, hv1, hs7⟩, h1, hz, q⟩ := h
    refine ⟨_, (pss_cons (ps_asg (pv 0) (pg_tup rfl (pgs_cons (pg_name (i := 4) S_law_moved.nd rfl (Or.inl rfl)) (pgs_cons (pg_name (i := 5) S_law_moved.nd rfl (Or.inl rfl)) pgs_nil)))) (pss_cons (ps_if (pt_cmpR op_le (pv 4) (pe_op op_mulX (pv 1) (pv 5)) (nomark _)) (pss_one (ps_ret (pv 0))) pss_nil) (pss_cons (ps_if (pt_cmpR op_ge (pv 4) (pe_op op_mulX (pe_op op_add (pv 1) pe_int) (pv 5)) (nomark _)) (pss_one (ps_ret (pe_tupA (pa_cons (pe_op op_add (pv 4) (pv 5)) (pa_cons (pv 5) pa_nil))))) pss_nil) (pss_cons (ps_set (i := 6) S_law_moved.nd rfl (Or.inl rfl) (pe_op op_sub (pv 4) (pe_op op_mulX (pv 1) (pv 5)))) (pss_cons (ps_if (pt_cmpR op_le (pe_op op_mulX (pv 6) (pv 2)) (pe_op op_mulX (pv 3) (pv 5)) (nomark _)) (pss_one (ps_ret (pe_fn F_law_lower (hr.mono (by decide)) (by rfl) (pa_cons (pe_op op_add (pe_op op_mulX (pe_op op_mulX (pv 1) (pv 5)) (pv 3)) (pe_op op_mulX (pv 6) (pv 2))) (pa_cons (pe_op op_mulX (pv 5) (pv 3)) pa_nil))))) pss_nil) (pss_cons (ps_set (i := 7) S_law_moved.nd rfl (Or.inl rfl) (pe_op op_sub (pv 2) (pv 3))) (pss_one (ps_ret (pe_fn F_law_lower (hr.mono (by decide)) (by rfl) (pa_cons (pe_op op_sub (pe_op op_add (pe_op op_mulX (pe_op op_mulX (pe_op op_add (pv 1) pe_int) (pv 5)) (pv 7)) (pe_op op_mulX (pv 6) (pv 2))) (pe_op op_mulX (pv 3) (pv 5))) (pa_cons (pe_op op_mulX (pv 5) (pv 7)) pa_nil))))))))))), ?_⟩
    have hb : (0 : Int) < b := pl.low.pos
    have ep := pl.at_
    have hi := pl.hi
    unfold lst_ at hi
    have m1 : ((a : Int) + 1) * b = (a : Int) * b + b := by rw [Int.add_mul, Int.one_mul]
    have ca : ∀ x : Int, CM (a : Int) x := fun x => CM.l (lt64s (by omega) (by omega))
    refine ⟨_, rfl, p, _, rfl, SqT.of ep, rfl, _, _, rfl, _, _, rfl, rfl, ?_⟩
    refine ⟨_, rfl, _, rfl, _, rfl, _, _, rfl, rfl, ca _, _, _, rfl, rfl, _, rfl, ite3 (fun c1 => ?_) (fun c1 => ?_)⟩
    · have c1 : t ≤ (a : Int) * b := dec_t c1
      refine ⟨_, rfl, q p t b H ⟨ep, pl.low, pl.lo, ?_, pl.bt, pl.bb⟩ (al_ins_lo hb ha pl.lo c1) (Same.refl _)⟩
      rw [lst_ins (by omega)]
      have : ((qs.length : Int) - 1) * b ≤ (qs.length : Int) * b := Int.mul_le_mul_of_nonneg_right (by omega) (by omega)
      omega
    have c1 : ¬ t ≤ (a : Int) * b := dec_f c1
    refine ⟨_, rfl, _, rfl, _, _, rfl, rfl, _, rfl, _, _, rfl, rfl, CM.l (lt64s (by omega) (by omega)), _, _, rfl, rfl, _, rfl, ite3 (fun c2 => ?_) (fun c2 => ?_)⟩
    · have c2 : ((a : Int) + 1) * b ≤ t := dec_t c2
      refine ⟨_, rfl, _, rfl, _, _, rfl, rfl, _, rfl, sz (by simp), fun r H1 s1 f1 n1 => ?_⟩
      refine q r (t + b) b H1 ⟨f1, ⟨pl.low.pos, ?_⟩, by have := pl.lo; omega, ?_, bits_le (bits_add (n := 101) bt (bits_le bb (by decide))) (by decide), pl.bb⟩ (al_ins_hi hb ha c2 hi) s1
      · rw [Int.gcd_add_self_left]
        exact pl.low.one
      · rw [lst_ins (by omega)]
        have : (qs.length : Int) * b = ((qs.length : Int) - 1) * b + b := by rw [Int.sub_mul, Int.one_mul]; omega
        omega
    have c2 : ¬ ((a : Int) + 1) * b ≤ t := dec_f c2
    have g1 : (a : Int) * b ≤ t := by omega
    have g2 : t ≤ ((a : Int) + 1) * b := by omega
    have sm : ∀ {x y : Int}, 0 ≤ y → y ≤ 100 → CM x y := fun h0 h1 => CM.r (lt64s (by omega) (by omega))
    have sml : ∀ {x y : Int}, 0 ≤ x → x ≤ 100 → CM x y := fun h0 h1 => CM.l (lt64s (by omega) (by omega))
    have b10 : ∀ {x : Int}, 0 ≤ x → x ≤ 100 → bits x ≤ 10 := fun h0 h1 => bits_small (by omega) (by omega)
    have bpart : bits (t - (a : Int) * b) ≤ 102 := bits_sub bt (bits_le (bits_mul (b10 (x := (a : Int)) (by omega) (by omega)) bb) (by decide))
    have bps : bits ((t - (a : Int) * b) * st) ≤ 112 := bits_mul bpart (b10 (by omega) (by omega))
    have hps : 0 ≤ (t - (a : Int) * b) * st := Int.mul_nonneg (by omega) (by omega)
    refine ⟨_, rfl, _, rfl, _, rfl, _, _, rfl, rfl, ca _, _, _, rfl, rfl, ?_⟩
    refine ⟨_, rfl, _, rfl, _, _, rfl, rfl, sm (by omega) (by omega), _, rfl, _, rfl, _, _, rfl, rfl, sml (by omega) (by omega), _, _, rfl, rfl, _, rfl, ite3 (fun c3 => ?_) (fun c3 => ?_)⟩
    · have c3 : (t - (a : Int) * b) * st ≤ v * b := dec_t c3
      have n1 : 0 ≤ (a : Int) * b * v := Int.mul_nonneg (Int.mul_nonneg (by omega) (by omega)) (by omega)
      have bB : bits (b * v) ≤ 70 := bits_mul bb (b10 (by omega) (by omega))
      have bT : bits ((a : Int) * b * v + (t - (a : Int) * b) * st) ≤ 113 := bits_add (bits_le (bits_mul (bits_mul (b10 (x := (a : Int)) (by omega) (by omega)) bb) (b10 (x := v) (by omega) (by omega))) (by decide)) bps
      refine ⟨_, rfl, _, rfl, _, _, rfl, rfl, ca _, _, rfl, _, _, rfl, rfl, sm (by omega) (by omega), _, rfl, _, rfl, _, _, rfl, rfl, sm (by omega) (by omega), _, _, rfl, rfl, _, rfl, _, rfl, _, _, rfl, rfl, sm (by omega) (by omega), _, _, rfl, Int.add_nonneg n1 hps, ⟨Int.mul_pos hb hv0, bits_le bB (by decide)⟩, fun r T B H1 fr ht hu s1 f1 => ?_⟩
      have hB : 0 < B := fr.low.pos
      obtain ⟨al, k0, k1⟩ := al_ins_mid1 (qs := qs) (z := z) hb hB ha g1 g2 d h1 hz hv0 (by omega) c3 fr.eq.symm
      refine q r T B H1 ⟨f1, fr.low, k0, ?_, bits_le (bits_range k0 ht bT) (by decide), bits_le (bits_range (by omega) hu bB) (by decide)⟩ al s1
      rw [lst_ins (by omega)]
      have e : ((qs.length + 1 : Nat) - 1 : Int) = (qs.length : Int) := by omega
      rw [e] at k1
      exact k1
    · have c3 : ¬ (t - (a : Int) * b) * st ≤ v * b := dec_f c3
      refine ⟨_, rfl, _, rfl, _, _, rfl, rfl, ?_⟩
      have hw : 0 < st - v := by omega
      have n1 : 0 ≤ ((a : Int) + 1) * b * (st - v) := Int.mul_nonneg (Int.mul_nonneg (by omega) (by omega)) (by omega)
      have bB : bits (b * (st - v)) ≤ 70 := bits_mul bb (b10 (by omega) (by omega))
      have bT : bits (((a : Int) + 1) * b * (st - v) + (t - (a : Int) * b) * st - v * b) ≤ 114 := bits_sub (bits_add (bits_le (bits_mul (bits_mul (b10 (x := (a : Int) + 1) (by omega) (by omega)) bb) (b10 (x := st - v) (by omega) (by omega))) (by decide)) bps) (bits_le (bits_mul (b10 (x := v) (by omega) (by omega)) bb) (by decide))
      refine ⟨_, rfl, _, _, rfl, rfl, _, rfl, _, _, rfl, rfl, sml (by omega) (by omega), _, rfl, _, _, rfl, rfl, sm (by omega) (by omega), _, rfl, _, rfl, _, _, rfl, rfl, sm (by omega) (by omega), _, _, rfl, rfl, _, rfl, _, rfl, _, _, rfl, rfl, sml (by omega) (by omega), _, _, rfl, rfl, _, rfl, _, rfl, _, _, rfl, rfl, sm (by omega) (by omega), _, _, rfl, by omega, ⟨Int.mul_pos hb hw, bits_le bB (by decide)⟩, fun r T B H1 fr ht hu s1 f1 => ?_⟩
      have hB : 0 < B := fr.low.pos
      obtain ⟨al, k0, k1⟩ := al_ins_mid2 (qs := qs) (z := z) (w := st - v) hb hB ha g1 g2 d h1 hz (by omega) (by omega) hw (by omega) fr.eq.symm
      refine q r T B H1 ⟨f1, fr.low, k0, ?_, bits_le (bits_range k0 ht bT) (by decide), bits_le (bits_range (by omega) hu bB) (by decide)⟩ al s1
      rw [lst_ins (by omega)]
      have e : ((qs.length + 1 : Nat) - 1 : Int) = (qs.length : Int) := by omega
      rw [e] at k1
      exact k1

theorem cut_take {xs : List V} (k : Nat) : cutV xs none (some (k : Int)) = xs.take k := by
  unfold cutV
  rw [HT.sIx_nat, HT.sIx_none, List.drop_zero, Nat.sub_zero]
  by_cases h : k ≤ xs.length
  · rw [Nat.min_eq_left h]
  · rw [Nat.min_eq_right (by omega), List.take_length, List.take_of_length_le (by omega)]
theorem cut_drop {xs : List V} (k : Nat) : cutV xs (some (k : Int)) none = xs.drop k := by
  unfold cutV
  rw [HT.sIx_nat, HT.sIx_none]
  by_cases h : k ≤ xs.length
  · rw [Nat.min_eq_left h, List.take_of_length_le (by rw [List.length_drop]; exact Nat.le_refl _)]
  · rw [Nat.min_eq_right (by omega), List.drop_eq_nil_of_le (Nat.le_refl _), List.drop_eq_nil_of_le (by omega)]
    simp
theorem cut_crn_lo {qs : Crn} {k : Int} (j : Nat) (e : k = (j : Int)) : cutV (qs.map fun (q : Addr × Int × Int) => V.ref q.1) none (some k) = (qs.take j).map fun (q : Addr × Int × Int) => V.ref q.1 := by
  rw [e, cut_take, List.map_take]
theorem cut_crn_hi {qs : Crn} {k : Int} (j : Nat) (e : k = (j : Int)) : cutV (qs.map fun (q : Addr × Int × Int) => V.ref q.1) (some k) none = (qs.drop j).map fun (q : Addr × Int × Int) => V.ref q.1 := by
  rw [e, cut_drop, List.map_drop]
/-- the line with two corners in place of those at a and a + 1 -/
def stpL (qs : Crn) (a : Nat) (u v : Addr × Int × Int) : Crn := qs.take a ++ u :: v :: qs.drop (a + 2)
theorem stp_len {qs : Crn} {a : Nat} {u v : Addr × Int × Int} (h : a + 1 < qs.length) : (stpL qs a u v).length = qs.length := by
  unfold stpL
  rw [List.length_append, List.length_take, List.length_cons, List.length_cons, List.length_drop]; omega
theorem stp_at {qs : Crn} {a : Nat} {u v : Addr × Int × Int} (h : a + 1 < qs.length) : (stpL qs a u v).getD a (0, 0, 0) = u := by
  unfold stpL
  rw [List.getD_eq_getElem?_getD, List.getElem?_append_right (by rw [List.length_take]; omega), List.length_take, show a - min a qs.length = 0 by omega]
  rfl
theorem stp_nx {qs : Crn} {a : Nat} {u v : Addr × Int × Int} (h : a + 1 < qs.length) : (stpL qs a u v).getD (a + 1) (0, 0, 0) = v := by
  unfold stpL
  rw [List.getD_eq_getElem?_getD, List.getElem?_append_right (by rw [List.length_take]; omega), List.length_take, show a + 1 - min a qs.length = 1 by omega]
  rfl
theorem bits47 {x : Int} (h : bits x ≤ 50) : bits (x / 7) ≤ 48 := by
  have h1 := bits_lt h
  refine bits_of ?_
  have e1 : (2 : Nat) ^ 50 = 1125899906842624 := by decide
  have e2 : (2 : Nat) ^ 48 = 281474976710656 := by decide
  rw [e1] at h1
  rw [e2]
  omega
/-- a step of a stretch, within bounds -/
structure StepAt (H : Hp) (s : Addr) (qs : Crn) (a : Nat) (st dx dy : Int) : Prop where
  at_ : H s = some (.tup [.int dx, .int dy])
  bx : bits dx ≤ 36
  by_ : bits dy ≤ 36
  nx : (qs.getD (a + 1) (0, 0, 0)).2.1 = (qs.getD a (0, 0, 0)).2.1 + st * dx
  ny : (qs.getD (a + 1) (0, 0, 0)).2.2 = (qs.getD a (0, 0, 0)).2.2 + st * dy
  b0 : bits (qs.getD a (0, 0, 0)).2.1 ≤ 48
  b1 : bits (qs.getD a (0, 0, 0)).2.2 ≤ 48
def spStepped : Sp := fun vs H Q _ => ∃ (l pn : Addr) (A : Int) (a : Nat) (st : Int) (qs : Crn) (ns : List Int), vs = [.ref l, .int A, .int st, .ref pn] ∧ A = (a : Int) ∧ LineAt H l qs ∧ (a + 1 < qs.length ∧ qs.length ≤ 15) ∧ (0 ≤ st ∧ st ≤ 7) ∧ H pn = some (.lst (ns.map V.int)) ∧ 3 ≤ ns.length ∧
  ∀ (r l' s : Addr) (qs' : Crn) (dx dy : Int) (H' : Hp), Same H H' → H' r = some (.tup [.ref l', .ref s]) → LineAt H' l' qs' → qs'.length = qs.length → StepAt H' s qs' a st dx dy → Q (.ref r) H'
theorem mod_wide {n wd : Int} (h : 3 ≤ wd ∧ wd ≤ 10000000000) : bits (n % (2 * wd + 1) - wd) ≤ 34 := by
  refine bits_of ?_
  have h0 := Int.emod_nonneg n (show 2 * wd + 1 ≠ 0 by omega)
  have h1 := Int.emod_lt_of_pos n (show 0 < 2 * wd + 1 by omega)
  have e : (2 : Nat) ^ 34 = 17179869184 := by decide
  rw [e]
  omega
theorem S_law_stepped : FnScope ["line", "at", "steps", "numbers", "wide", "x", "y", "step", "end"] ["line", "at", "steps", "numbers"] (defScope (top 30)) := ⟨rfl, rfl, rfl, by decide +kernel, rfl, by decide +kernel, by decide +kernel⟩
theorem fn_law_stepped (D_law_stepped : Df K mg "_law_stepped" (top 30)) : Fn P w K mg base "_law_stepped" ["line", "at", "steps", "numbers"] 2 spStepped := by
  refine D_law_stepped.fn S_law_stepped (fun _ _ _ _ _ _ us hl => match us, hl with | [_, _, _, _], _ => rfl) (fun vs H Q E h => ?_) (fun f cdv A outer s H vs Q E hr h => ?_)
  · obtain ⟨l, pn, A, a, st, qs, ns, rfl, _⟩ := h
    rfl
  · obtain ⟨l, pn, A, a, st, qs, ns, rfl, rfl, L, ⟨ha, hq⟩, ⟨hs0, hs7⟩, hn, hn3, q⟩ := h
    refine ⟨_, (pss_cons (ps_set (i := 4) S_law_stepped.nd rfl (Or.inl rfl) (pe_ix ix_list (pe_lstA (pa_cons pe_int (pa_cons (pe_op op_pow pe_int pe_int) pa_nil))) (pe_op op_mod (pe_ix ix_list (pv 3) pe_int (fun _ _ => rfl)) pe_int) (fun _ _ => rfl))) (pss_cons (ps_set (i := 5) S_law_stepped.nd rfl (Or.inl rfl) (pe_op op_fdivP (pe_ix ix_tup (pe_ix ix_list (pv 0) (pv 1) (fun _ _ => rfl)) pe_int (fun _ _ => rfl)) pe_int)) (pss_cons (ps_set (i := 6) S_law_stepped.nd rfl (Or.inl rfl) (pe_op op_fdivP (pe_ix ix_tup (pe_ix ix_list (pv 0) (pv 1) (fun _ _ => rfl)) pe_int (fun _ _ => rfl)) pe_int)) (pss_cons (ps_set (i := 7) S_law_stepped.nd rfl (Or.inl rfl) (pe_tupA (pa_cons (pe_op op_sub (pe_op op_mod (pe_ix ix_list (pv 3) pe_int (fun _ _ => rfl)) (pe_op op_add (pe_op op_mulX pe_int (pv 4)) pe_int)) (pv 4)) (pa_cons (pe_op op_sub (pe_op op_mod (pe_ix ix_list (pv 3) pe_int (fun _ _ => rfl)) (pe_op op_add (pe_op op_mulX pe_int (pv 4)) pe_int)) (pv 4)) pa_nil)))) (pss_cons (ps_set (i := 8) S_law_stepped.nd rfl (Or.inl rfl) (pe_tupA (pa_cons (pe_op op_add (pv 5) (pe_op op_mulX (pv 2) (pe_ix ix_tup (pv 7) pe_int (fun _ _ => rfl)))) (pa_cons (pe_op op_add (pv 6) (pe_op op_mulX (pv 2) (pe_ix ix_tup (pv 7) pe_int (fun _ _ => rfl)))) pa_nil)))) (pss_one (ps_ret (pe_tupA (pa_cons (pe_op op_catA (pe_op op_catA (pe_slice sl_listA (pv 0) po_none (po_some (pv 1))) (pe_lstA (pa_cons (pe_tupA (pa_cons (pv 5) (pa_cons (pv 6) pa_nil))) (pa_cons (pv 8) pa_nil)))) (pe_slice sl_listA (pv 0) (po_some (pe_op op_add (pv 1) pe_int)) po_none)) (pa_cons (pv 7) pa_nil)))))))))), ?_⟩
    have e10 : ((10 : Int) ^ (10 : Int).toNat) = 10000000000 := by decide +kernel
    have m0 := Int.emod_nonneg ns[0] (show (2 : Int) ≠ 0 by decide)
    have m1 := Int.emod_lt_of_pos ns[0] (show (0 : Int) < 2 by decide)
    obtain ⟨wv, hwv, mwv⟩ := atI_mem (xs := [V.int 3, V.int ((10 : Int) ^ (10 : Int).toNat)]) m0 m1
    obtain ⟨wd, rfl, hwd⟩ : ∃ wd : Int, wv = .int wd ∧ 3 ≤ wd ∧ wd ≤ 10000000000 := by
      simp only [List.mem_cons, List.not_mem_nil, or_false] at mwv
      rcases mwv with rfl | rfl
      · exact ⟨_, rfl, by decide, by decide⟩
      · exact ⟨_, rfl, by rw [e10]; decide, by rw [e10]; decide⟩
    have bwd : bits wd ≤ 34 := by
      refine bits_of ?_
      have e : (2 : Nat) ^ 34 = 17179869184 := by decide
      rw [e]
      omega
    refine ⟨_, _, rfl, rfl, ⟨by decide, by decide, by decide⟩, sz (by simp), fun o H1 s1 f1 _ => ?_⟩
    have hn1 := s1 _ _ hn
    refine ⟨_, rfl, pn, _, _, _, rfl, rfl, SqL.of hn1, at_int 0 rfl (by omega), _, _, rfl, rfl, (by show (0 : Int) < 2; decide), o, _, _, _, rfl, rfl, SqL.of f1, hwv, ?_⟩
    obtain ⟨u, hu, au⟩ := Dr.at_crn (qs := qs) (k := (a : Int)) (by omega) (by omega)
    have mu : u ∈ qs := List.mem_of_getElem? hu
    have L1 := L.mono s1
    obtain ⟨fu, bu0, bu1⟩ := L1.crn u mu
    have k7 : (0 : Int) < 7 ∧ bits (7 : Int) ≤ 8000 := ⟨by decide, by decide⟩
    refine ⟨_, rfl, _, rfl, l, _, _, _, rfl, rfl, SqL.of L1.lst, au, u.1, _, _, _, rfl, rfl, SqT.of fu, rfl, _, _, rfl, rfl, k7, ?_⟩
    refine ⟨_, rfl, _, rfl, l, _, _, _, rfl, rfl, SqL.of L1.lst, au, u.1, _, _, _, rfl, rfl, SqT.of fu, rfl, _, _, rfl, rfl, k7, ?_⟩
    have two : ∀ x : Int, CM 2 x := fun x => CM.l (lt64s (by decide) (by decide))
    have wp : (0 : Int) < 2 * wd + 1 := by omega
    refine ⟨_, rfl, pn, _, _, _, rfl, rfl, SqL.of hn1, at_int 1 rfl (by omega), _, rfl, _, _, rfl, rfl, two _, _, _, rfl, rfl, _, _, rfl, rfl, wp, _, rfl, _, _, rfl, rfl, ?_⟩
    refine ⟨_, rfl, pn, _, _, _, rfl, rfl, SqL.of hn1, at_int 2 rfl (by omega), _, rfl, _, _, rfl, rfl, two _, _, _, rfl, rfl, _, _, rfl, rfl, wp, _, rfl, _, _, rfl, rfl, sz (by simp), fun s H2 s2 f2 _ => ?_⟩
    have bx : bits (ns[1] % (2 * wd + 1) - wd) ≤ 34 := mod_wide hwd
    have by_ : bits (ns[2] % (2 * wd + 1) - wd) ≤ 34 := mod_wide hwd
    have cst : ∀ x : Int, CM st x := fun x => CM.l (lt64s (by omega) (by omega))
    refine ⟨_, rfl, _, rfl, _, rfl, s, _, _, _, rfl, rfl, SqT.of f2, rfl, _, _, rfl, rfl, cst _, _, _, rfl, rfl, _, rfl, _, rfl, _, rfl, s, _, _, _, rfl, rfl, SqT.of f2, rfl, _, _, rfl, rfl, cst _, _, _, rfl, rfl, sz (by simp), fun e H3 s3 f3 _ => ?_⟩
    have bx0 := bits47 bu0
    have by0 := bits47 bu1
    have bst : bits st ≤ 10 := bits_small (by omega) (by omega)
    have bx1 : bits (u.2.1 / 7 + st * (ns[1] % (2 * wd + 1) - wd)) ≤ 49 := bits_add bx0 (bits_le (bits_mul bst bx) (by decide))
    have by1 : bits (u.2.2 / 7 + st * (ns[2] % (2 * wd + 1) - wd)) ≤ 49 := bits_add by0 (bits_le (bits_mul bst by_) (by decide))
    have L3 := (L1.mono s2).mono s3
    refine ⟨_, rfl, _, rfl, _, rfl, l, _, rfl, SqL.of L3.lst, fun p4 H4 s4 f4 _ => ?_⟩
    refine ⟨_, rfl, _, rfl, sz (by simp), fun z H5 s5 f5 _ => ?_⟩
    refine ⟨_, rfl, sz (by simp), fun p6 H6 s6 f6 _ => ?_⟩
    rw [cut_crn_lo a rfl] at f4
    have f46 := s6 _ _ (s5 _ _ f4)
    refine ⟨p4, p6, _, _, rfl, rfl, f46, f6, sz (by simp; omega), fun p7 H7 s7 f7 _ => ?_⟩
    have L7 := ((L3.mono s4).mono s5).mono (s6.trans s7)
    refine ⟨_, rfl, _, rfl, _, _, rfl, rfl, _, rfl, l, _, rfl, SqL.of L7.lst, fun p8 H8 s8 f8 _ => ?_⟩
    rw [cut_crn_hi (a + 2) (by omega)] at f8
    refine ⟨p7, p8, _, _, rfl, rfl, s8 _ _ f7, f8, sz (by simp; omega), fun p9 H9 s9 f9 _ => ?_⟩
    refine ⟨_, rfl, sz (by simp), fun r H10 s10 f10 _ => ?_⟩
    have S7 : Same H3 H10 := s4.trans (s5.trans (s6.trans (s7.trans (s8.trans (s9.trans s10)))))
    refine q r p9 s (stpL qs a (z, u.2.1 / 7, u.2.2 / 7) (e, u.2.1 / 7 + st * (ns[1] % (2 * wd + 1) - wd), u.2.2 / 7 + st * (ns[2] % (2 * wd + 1) - wd))) (ns[1] % (2 * wd + 1) - wd) (ns[2] % (2 * wd + 1) - wd) H10 (s1.trans (s2.trans (s3.trans S7))) f10 ⟨?_, ?_⟩ (stp_len ha) ⟨S7 _ _ (s3 _ _ f2), bits_le bx (by decide), bits_le by_ (by decide), ?_, ?_, ?_, ?_⟩
    · rw [s10 _ _ f9]
      unfold stpL
      simp
    · intro w hw
      unfold stpL at hw
      rcases List.mem_append.mp hw with h | h
      · exact (L3.mono S7).crn w (List.mem_of_mem_take h)
      · rcases List.mem_cons.mp h with h | h
        · subst h
          exact ⟨(s6.trans (s7.trans (s8.trans (s9.trans s10)))) _ _ f5, bits_le bx0 (by decide), bits_le by0 (by decide)⟩
        · rcases List.mem_cons.mp h with h | h
          · subst h
            exact ⟨S7 _ _ f3, bits_le bx1 (by decide), bits_le by1 (by decide)⟩
          · exact (L3.mono S7).crn w (List.mem_of_mem_drop h)
    · rw [stp_at ha, stp_nx ha]; rfl
    · rw [stp_at ha, stp_nx ha]; rfl
    · rw [stp_at ha]
      exact bx0
    · rw [stp_at ha]
      exact by0

theorem cut25 {ns : List Int} (h : 5 ≤ ns.length) : cutV (ns.map V.int) (some 2) (some 5) = ((ns.drop 2).take 3).map V.int := by
  unfold cutV
  rw [show HT.sIx (ns.map V.int).length 0 (some 2) = min 2 (ns.map V.int).length from HT.sIx_nat _ _ 2, show HT.sIx (ns.map V.int).length (ns.map V.int).length (some 5) = min 5 (ns.map V.int).length from HT.sIx_nat _ _ 5, List.length_map, Nat.min_eq_left (show 2 ≤ ns.length by omega), Nat.min_eq_left h, ← List.map_drop, ← List.map_take]
theorem gcd_rev (n b t : Int) : Int.gcd (n * b - t) b = Int.gcd t b := by
  rw [Int.sub_eq_add_neg, Int.add_comm]; simp
theorem gcd_on (n b t : Int) : Int.gcd (n * b + t) b = Int.gcd t b := by simp
theorem crn_get {qs : Crn} {a : Nat} {u : Addr × Int × Int} (h : qs[a]? = some u) : qs.getD a (0, 0, 0) = u := by
  rw [List.getD_eq_getElem?_getD, h]; rfl
theorem _root_.Sp2.LineAt.rev {H : Hp} {l r : Addr} {qs : Crn} (L : LineAt H l qs) (e : H r = some (.lst (qs.map fun (q : Addr × Int × Int) => V.ref q.1).reverse)) : LineAt H r qs.reverse :=
  ⟨by rw [e, List.map_reverse], fun q h => L.crn q (List.mem_reverse.mp h)⟩
theorem _root_.Sp2.LineAt.ins {H : Hp} {l r : Addr} {qs : Crn} {a : Nat} {z : Addr × Int × Int} (L : LineAt H l qs) (hz : H z.1 = some (.tup [.int z.2.1, .int z.2.2]) ∧ bits z.2.1 ≤ 50 ∧ bits z.2.2 ≤ 50) (e : H r = some (.lst (((qs.take (a + 1)).map fun (q : Addr × Int × Int) => V.ref q.1) ++ [V.ref z.1] ++ (qs.drop (a + 1)).map fun (q : Addr × Int × Int) => V.ref q.1))) : LineAt H r (insL qs a z) :=
  ⟨by rw [e]; unfold insL; simp, fun q h => by
    unfold insL at h
    rcases List.mem_append.mp h with h | h
    · exact L.crn q (List.mem_of_mem_take h)
    · rcases List.mem_cons.mp h with h | h
      · subst h; exact hz
      · exact L.crn q (List.mem_of_mem_drop h)⟩
theorem _root_.Sp2.LineAt.dbl {H : Hp} {l r : Addr} {qs : Crn} {a : Nat} (L : LineAt H l qs) (e : H r = some (.lst (((qs.take (a + 1)).map fun (q : Addr × Int × Int) => V.ref q.1) ++ (qs.drop a).map fun (q : Addr × Int × Int) => V.ref q.1))) : LineAt H r (qs.take (a + 1) ++ qs.drop a) :=
  ⟨by rw [e]; simp, fun q h => by
    rcases List.mem_append.mp h with h | h
    · exact L.crn q (List.mem_of_mem_take h)
    · exact L.crn q (List.mem_of_mem_drop h)⟩
theorem S_law : FnScope ["script", "cell", "numbers", "line", "last", "at", "steps", "step", "place", "amid", "beside", "behind", "corner", "new", "other"] ["script"] (defScope (top 34)) := ⟨rfl, rfl, rfl, by decide +kernel, rfl, by decide +kernel, by decide +kernel⟩
theorem fn_law (D_law : Df K mg "law" (top 34)) (F_law_numbers : Fn P w K mg base "_law_numbers" ["cell", "many", "base"] 2 spNumbers) (F_law_line : Fn P w K mg base "_law_line" ["numbers", "sizes"] 1 spLine) (F_law_stepped : Fn P w K mg base "_law_stepped" ["line", "at", "steps", "numbers"] 2 spStepped) (F_law_place : Fn P w K mg base "_law_place" ["line", "way", "number"] 2 spPlaceL) (F_law_moved : Fn P w K mg base "_law_moved" ["place", "at", "steps", "behind"] 3 spMoved12) (F_law_alike : Fn P w K mg base "_law_alike" ["line", "place", "new", "other", "beside"] 7 spAlike) (T : Txt mg) : Fn P w K mg base "law" ["script"] 8 (spLaw K) := by
  refine D_law.fn S_law (fun _ _ _ _ _ _ us hl => match us, hl with | [_], _ => rfl) (fun vs H Q E h => ?_) (fun f cdv A outer s H vs Q E hr h => ?_)
  · obtain ⟨sa, ss, rfl, _⟩ := h
    rfl
  · obtain ⟨sa, ss, rfl, hS, hlen, fin⟩ := h
    have R2 : ∃ u : TS, PSs (cxOf CX0 P w K mg base ["script", "cell", "numbers", "line", "last", "at", "steps", "step", "place", "amid", "beside", "behind", "corner", "new", "other"] "law" (defScope (top 34)) f cdv A outer s H E).nox ((forBody ((defBody (top 34)).getD 0 (.Pass ⟨0, 0, 0, 0⟩))).drop 16) u ∧ ∀ (D : Ends) (H : Hp) (l p lb l2 p2 : Addr) (N : Int) (qs bs qs2 : Crn) (t b t2 b2 : Int) (z0 z1 z2 z5 z6 z7 z9 z11 z12 : Option V),
        N = lst_ qs → LineAt H l qs → (2 ≤ qs.length ∧ qs.length ≤ 15) → Plc H p t b (lst_ qs) → (bits t ≤ 101 ∧ bits b ≤ 60) → LineAt H lb bs → (1 ≤ bs.length ∧ bs.length ≤ 20) → LineAt H l2 qs2 → (1 ≤ qs2.length ∧ qs2.length ≤ 20) → Plc H p2 t2 b2 (lst_ qs2) → AL qs t b qs2 t2 b2 →
        (∀ (H' : Hp), Same H H' → D.nx [z0, z1, z2, some (.ref l), some (.int N), z5, z6, z7, some (.ref p), z9, some (.ref lb), z11, z12, some (.ref l2), some (.ref p2)] H') →
        u D [z0, z1, z2, some (.ref l), some (.int N), z5, z6, z7, some (.ref p), z9, some (.ref lb), z11, z12, some (.ref l2), some (.ref p2)] H := by
      refine ⟨_, (pss_cons (ps_if (pt_not (pt_val (pe_fn F_law_alike (hr.mono (by decide)) (by rfl) (pa_cons (pv 3) (pa_cons (pv 8) (pa_cons (pv 13) (pa_cons (pv 14) (pa_cons (pv 10) pa_nil)))))))) (pss_one (ps_ret pe_bl)) pss_nil) (pss_one (ps_if (pt_not (pt_val (pe_fn F_law_alike (hr.mono (by decide)) (by rfl) (pa_cons (pv 3) (pa_cons (pv 8) (pa_cons (pe_sliceR (pv 3) (po_some (pe_un un_neg pe_int))) (pa_cons (pe_tupA (pa_cons (pe_op op_sub (pe_op op_mulX (pv 4) (pe_ix ix_tup (pv 8) pe_int (fun _ _ => rfl))) (pe_ix ix_tup (pv 8) pe_int (fun _ _ => rfl))) (pa_cons (pe_ix ix_tup (pv 8) pe_int (fun _ _ => rfl)) pa_nil))) (pa_cons (pv 10) pa_nil)))))))) (pss_one (ps_ret pe_bl)) pss_nil))), ?_⟩
      intro D H l p lb l2 p2 N qs bs qs2 t b t2 b2 z0 z1 z2 z5 z6 z7 z9 z11 z12 eN L hq pl bt LB hb L2 hq2 pl2 al nx
      have g1 : 1 ≤ qs.length ∧ qs.length ≤ 20 := by omega
      refine ⟨_, rfl, _, rfl, _, rfl, _, rfl, _, rfl, l, p, l2, p2, lb, qs, qs2, bs, t, b, t2, b2, rfl, L, L2, LB, g1, hq2, hb, pl, pl2, al, fun H1 s1 => ⟨_, rfl, iteF ?_⟩⟩
      have L1 := L.mono s1
      have pl1 := pl.mono s1
      have N15 : -1000 ≤ N ∧ N ≤ 1000 := by rw [eN]; unfold lst_; omega
      refine ⟨_, rfl, _, rfl, _, rfl, _, rfl, _, rfl, rfl, l, _, rfl, SqL.of L1.lst, fun p3 H2 s2 f2 _ => ?_⟩
      have pl2' := pl1.mono s2
      refine ⟨_, rfl, _, rfl, p, _, _, _, rfl, rfl, SqT.of pl2'.at_, rfl, _, _, rfl, rfl, CM.l (lt64s N15.1 N15.2), _, rfl, p, _, _, _, rfl, rfl, SqT.of pl2'.at_, rfl, _, _, rfl, rfl, _, rfl, p, _, _, _, rfl, rfl, SqT.of pl2'.at_, rfl, sz (by simp), fun p4 H3 s3 f3 _ => ?_⟩
      have S3 := s1.trans (s2.trans s3)
      have L3 := L.mono S3
      have hb0 := pl.low.pos
      have hi := pl.hi
      rw [← eN] at hi
      have lr : lst_ qs.reverse = N := by rw [eN]; unfold lst_; rw [List.length_reverse]
      have bN : bits N ≤ 10 := bits_small N15.1 N15.2
      have eN' : ((qs.length : Int) - 1) = N := eN.symm
      refine ⟨_, rfl, l, p, p3, p4, lb, qs, qs.reverse, bs, t, b, N * b - t, b, rfl, L3, L3.rev (s3 _ _ f2), LB.mono S3, g1, by rw [List.length_reverse]; exact g1, hb, pl.mono S3, ⟨f3, ⟨hb0, by rw [gcd_rev]; exact pl.low.one⟩, by omega, by rw [lr]; have := pl.lo; omega, ?_, bits_le bt.2 (by decide)⟩, ?_, fun H4 s4 => ⟨_, rfl, iteF ?_⟩⟩
      · exact bits_le (bits_sub (n := 101) (bits_le (bits_mul bN bt.2) (by decide)) bt.1) (by decide)
      · have := al_rev (qs := qs) hb0 hq.1 pl.lo (by rw [eN']; exact hi)
        rw [eN'] at this
        exact this
      · exact nx H4 (S3.trans s4)
    obtain ⟨u2, hu2, rd2⟩ := R2
    have R1 : ∃ u : TS, PSs (cxOf CX0 P w K mg base ["script", "cell", "numbers", "line", "last", "at", "steps", "step", "place", "amid", "beside", "behind", "corner", "new", "other"] "law" (defScope (top 34)) f cdv A outer s H E).nox ((forBody ((defBody (top 34)).getD 0 (.Pass ⟨0, 0, 0, 0⟩))).drop 8) u ∧ ∀ (D : Ends) (H : Hp) (pn l s p : Addr) (ns : List Int) (N A st dx dy t b : Int) (a : Nat) (qs : Crn) (z0 z1 z9 z10 z11 z12 z13 z14 : Option V),
        H pn = some (.lst (ns.map V.int)) → ns.length = 34 → N = lst_ qs → A = (a : Int) → LineAt H l qs → (a + 1 < qs.length ∧ qs.length ≤ 15) → (2 ≤ st ∧ st ≤ 7) → StepAt H s qs a st dx dy → Plc H p t b (lst_ qs) → (bits t ≤ 101 ∧ bits b ≤ 60) →
        (∀ (w10 w11 w12 w13 w14 : Option V) (H' : Hp), Same H H' → D.nx [z0, z1, some (.ref pn), some (.ref l), some (.int N), some (.int A), some (.int st), some (.ref s), some (.ref p), z9, w10, w11, w12, w13, w14] H') →
        u D [z0, z1, some (.ref pn), some (.ref l), some (.int N), some (.int A), some (.int st), some (.ref s), some (.ref p), z9, z10, z11, z12, z13, z14] H := by
      refine ⟨_, pss_cons (ps_set (i := 10) S_law.nd rfl (Or.inl rfl) (pe_lstA (pa_cons (pe_ix ix_list (pv 3) (pe_op op_mod (pe_ix ix_list (pv 2) pe_int (fun _ _ => rfl)) (pe_callB call_len_seq (by rfl) T.z_len bt_len (pa_cons (pv 3) pa_nil))) (fun _ _ => rfl)) pa_nil))) (pss_cons (ps_set (i := 11) S_law.nd rfl (Or.inl rfl) (pe_op op_add pe_int (pe_op op_mod (pe_ix ix_list (pv 2) pe_int (fun _ _ => rfl)) (pe_op op_sub (pv 6) pe_int)))) (pss_cons (ps_set (i := 12) S_law.nd rfl (Or.inl rfl) (pe_tupA (pa_cons (pe_op op_add (pe_ix ix_tup (pe_ix ix_list (pv 3) (pv 5) (fun _ _ => rfl)) pe_int (fun _ _ => rfl)) (pe_op op_mulX (pv 11) (pe_ix ix_tup (pv 7) pe_int (fun _ _ => rfl)))) (pa_cons (pe_op op_add (pe_ix ix_tup (pe_ix ix_list (pv 3) (pv 5) (fun _ _ => rfl)) pe_int (fun _ _ => rfl)) (pe_op op_mulX (pv 11) (pe_ix ix_tup (pv 7) pe_int (fun _ _ => rfl)))) pa_nil)))) (pss_cons (ps_set (i := 13) S_law.nd rfl (Or.inl rfl) (pe_op op_catA (pe_op op_catA (pe_slice sl_listA (pv 3) po_none (po_some (pe_op op_add (pv 5) pe_int))) (pe_lstA (pa_cons (pv 12) pa_nil))) (pe_slice sl_listA (pv 3) (po_some (pe_op op_add (pv 5) pe_int)) po_none))) (pss_cons (ps_if (pt_not (pt_val (pe_fn F_law_alike (hr.mono (by decide)) (by rfl) (pa_cons (pv 3) (pa_cons (pv 8) (pa_cons (pv 13) (pa_cons (pe_fn F_law_moved (hr.mono (by decide)) (by rfl) (pa_cons (pv 8) (pa_cons (pv 5) (pa_cons (pv 6) (pa_cons (pv 11) pa_nil))))) (pa_cons (pv 10) pa_nil)))))))) (pss_one (ps_ret pe_bl)) pss_nil) (pss_cons (ps_set (i := 13) S_law.nd rfl (Or.inl rfl) (pe_op op_catA (pe_slice sl_listA (pv 3) po_none (po_some (pe_op op_add (pv 5) pe_int))) (pe_slice sl_listA (pv 3) (po_some (pv 5)) po_none))) (pss_cons (ps_set (i := 14) S_law.nd rfl (Or.inl rfl) (pv 8)) (pss_cons (ps_if (pt_cmpR op_gt (pe_ix ix_tup (pv 8) pe_int (fun _ _ => rfl)) (pe_op op_mulX (pv 5) (pe_ix ix_tup (pv 8) pe_int (fun _ _ => rfl))) (nomark _)) (pss_one (ps_set (i := 14) S_law.nd rfl (Or.inl rfl) (pe_tupA (pa_cons (pe_op op_add (pe_ix ix_tup (pv 8) pe_int (fun _ _ => rfl)) (pe_ix ix_tup (pv 8) pe_int (fun _ _ => rfl))) (pa_cons (pe_ix ix_tup (pv 8) pe_int (fun _ _ => rfl)) pa_nil))))) pss_nil) hu2))))))), ?_⟩
      rintro D H pn l s p ns N _ st dx dy t b a qs z0 z1 z9 z10 z11 z12 z13 z14 fn hn eN rfl L ⟨ha, hq⟩ ⟨hs2, hs7⟩ S pl bt nx
      have hll : (qs.map fun (q : Addr × Int × Int) => V.ref q.1).length = qs.length := List.length_map _
      have g1 : 1 ≤ qs.length ∧ qs.length ≤ 20 := by omega
      -- beside
      have q0 := Int.emod_nonneg ns[7] (show (((qs.map fun (q : Addr × Int × Int) => V.ref q.1).length : Nat) : Int) ≠ 0 by omega)
      have q1 := Int.emod_lt_of_pos ns[7] (show (0 : Int) < (((qs.map fun (q : Addr × Int × Int) => V.ref q.1).length : Nat) : Int) by omega)
      obtain ⟨w, hw, aw⟩ := Dr.at_crn (qs := qs) q0 (by omega)
      have mw : w ∈ qs := List.mem_of_getElem? hw
      refine ⟨_, rfl, _, rfl, pn, _, _, _, rfl, rfl, SqL.of fn, at_int 7 rfl (by omega), _, rfl, l, _, rfl, .inl (SqL.of L.lst), _, _, rfl, rfl, (by omega), l, _, _, _, rfl, rfl, SqL.of L.lst, aw, sz (by simp), fun lb H1 s1 f1 _ => ?_⟩
      have LB : LineAt H1 lb [w] := ⟨f1, fun q h => by
        rcases List.mem_cons.mp h with h | h
        · subst h; exact (L.mono s1).crn q mw
        · cases h⟩
      have hb : 1 ≤ [w].length ∧ [w].length ≤ 20 := ⟨by simp, by simp⟩
      -- behind
      have v0 := Int.emod_nonneg ns[8] (show st - 1 ≠ 0 by omega)
      have v1 := Int.emod_lt_of_pos ns[8] (show 0 < st - 1 by omega)
      refine ⟨_, rfl, pn, _, _, _, rfl, rfl, SqL.of (s1 _ _ fn), at_int 8 rfl (by omega), _, rfl, _, _, rfl, rfl, _, _, rfl, rfl, (by show 0 < st - 1; omega), _, _, rfl, rfl, ?_⟩
      have hv : 0 < 1 + ns[8] % (st - 1) ∧ 1 + ns[8] % (st - 1) < st ∧ st ≤ 7 := by omega
      have cv : ∀ x : Int, CM (1 + ns[8] % (st - 1)) x := fun x => CM.l (lt64s (by omega) (by omega))
      -- corner
      obtain ⟨u, hu, au⟩ := Dr.at_crn (qs := qs) (k := (a : Int)) (by omega) (by omega)
      have eu : qs.getD a (0, 0, 0) = u := crn_get (by rw [Int.toNat_natCast] at hu; exact hu)
      have mu : u ∈ qs := List.mem_of_getElem? hu
      have L1 := L.mono s1
      have fu := (L1.crn u mu).1
      have fs := s1 _ _ S.at_
      refine ⟨_, rfl, _, rfl, l, _, _, _, rfl, rfl, SqL.of L1.lst, au, u.1, _, _, _, rfl, rfl, SqT.of fu, rfl, _, rfl, _, rfl, s, _, _, _, rfl, rfl, SqT.of fs, rfl, _, _, rfl, rfl, cv _, _, _, rfl, rfl, ?_⟩
      refine ⟨_, rfl, _, rfl, l, _, _, _, rfl, rfl, SqL.of L1.lst, au, u.1, _, _, _, rfl, rfl, SqT.of fu, rfl, _, rfl, _, rfl, s, _, _, _, rfl, rfl, SqT.of fs, rfl, _, _, rfl, rfl, cv _, _, _, rfl, rfl, sz (by simp), fun c H2 s2 f2 _ => ?_⟩
      -- new
      have L2' := L1.mono s2
      refine ⟨_, rfl, _, rfl, _, _, rfl, rfl, _, rfl, l, _, rfl, SqL.of L2'.lst, fun p3 H3 s3 f3 _ => ?_⟩
      rw [cut_crn_lo (a + 1) (by omega)] at f3
      refine ⟨_, rfl, sz (by simp), fun p4 H4 s4 f4 _ => ?_⟩
      refine ⟨p3, p4, _, _, rfl, rfl, s4 _ _ f3, f4, sz (by simp; omega), fun p5 H5 s5 f5 _ => ?_⟩
      have L5 := L2'.mono (s3.trans (s4.trans s5))
      refine ⟨_, rfl, _, rfl, _, _, rfl, rfl, _, rfl, l, _, rfl, SqL.of L5.lst, fun p6 H6 s6 f6 _ => ?_⟩
      rw [cut_crn_hi (a + 1) (by omega)] at f6
      refine ⟨p5, p6, _, _, rfl, rfl, s6 _ _ f5, f6, sz (by simp; omega), fun l1 H7 s7 f7 _ => ?_⟩
      have S17 : Same H1 H7 := s2.trans (s3.trans (s4.trans (s5.trans (s6.trans s7))))
      have S7 : Same H H7 := s1.trans S17
      -- moved
      have hz : ∀ c' : Int × Int → Int, Cd c' → c' (c, u.2.1 + (1 + ns[8] % (st - 1)) * dx, u.2.2 + (1 + ns[8] % (st - 1)) * dy).2 = cr c' qs a + (1 + ns[8] % (st - 1)) * c' (dx, dy) := by
        rintro c' (rfl | rfl) <;> (unfold cr; rw [eu])
      have h1 : ∀ c', Cd c' → cr c' qs (a + 1) = cr c' qs a + st * c' (dx, dy) := by
        rintro c' (rfl | rfl)
        · exact S.nx
        · exact S.ny
      have b0 := S.b0
      have b1 := S.b1
      rw [eu] at b0 b1
      have bv : bits (1 + ns[8] % (st - 1)) ≤ 10 := bits_small (by omega) (by omega)
      refine ⟨_, rfl, _, rfl, _, rfl, _, rfl, _, rfl, _, rfl, _, rfl, p, t, b, a, st, 1 + ns[8] % (st - 1), qs, (c, u.2.1 + (1 + ns[8] % (st - 1)) * dx, u.2.2 + (1 + ns[8] % (st - 1)) * dy), fun c' => c' (dx, dy), rfl, pl.mono S7, bt, ⟨ha, hq⟩, hv, h1, hz, fun p' t' b' H8 pl8 al8 s8 => ?_⟩
      have S8 := S7.trans s8
      have L8 := L.mono S8
      have LI : LineAt H8 l1 (insL qs a (c, u.2.1 + (1 + ns[8] % (st - 1)) * dx, u.2.2 + (1 + ns[8] % (st - 1)) * dy)) := L8.ins ⟨((s3.trans (s4.trans (s5.trans (s6.trans s7)))).trans s8) _ _ f2, bits_le (bits_add b0 (bits_le (bits_mul bv S.bx) (by decide))) (by decide), bits_le (bits_add b1 (bits_le (bits_mul bv S.by_) (by decide))) (by decide)⟩ (s8 _ _ f7)
      have hil : (insL qs a (c, u.2.1 + (1 + ns[8] % (st - 1)) * dx, u.2.2 + (1 + ns[8] % (st - 1)) * dy)).length = qs.length + 1 := ins_len (by omega)
      refine ⟨_, rfl, l, p, l1, p', lb, qs, _, [w], t, b, t', b', rfl, L8, LI, LB.mono (S17.trans s8), g1, by rw [hil]; omega, hb, pl.mono S8, pl8, al8, fun H9 s9 => ⟨_, rfl, iteF ?_⟩⟩
      -- doubled
      have S9 := S8.trans s9
      have L9 := L.mono S9
      refine ⟨_, rfl, _, rfl, _, _, rfl, rfl, _, rfl, l, _, rfl, SqL.of L9.lst, fun p10 H10 s10 f10 _ => ?_⟩
      rw [cut_crn_lo (a + 1) (by omega)] at f10
      have L10 := L9.mono s10
      refine ⟨_, rfl, _, rfl, _, rfl, l, _, rfl, SqL.of L10.lst, fun p11 H11 s11 f11 _ => ?_⟩
      rw [cut_crn_hi a rfl] at f11
      refine ⟨p10, p11, _, _, rfl, rfl, s11 _ _ f10, f11, sz (by simp; omega), fun l2 H12 s12 f12 _ => ?_⟩
      have S12 := S9.trans (s10.trans (s11.trans s12))
      have L12 := L.mono S12
      have LD := L12.dbl f12
      have pl12 := pl.mono S12
      have hdl := dbl_len (qs := qs) (a := a) (by omega)
      have LB12 := LB.mono (S17.trans (s8.trans (s9.trans (s10.trans (s11.trans s12)))))
      have hd0 := pl.low.pos
      have hi := pl.hi
      have dl : lst_ (qs.take (a + 1) ++ qs.drop a) = lst_ qs + 1 := by unfold lst_; rw [hdl]; omega
      have db : (lst_ qs + 1) * b = lst_ qs * b + b := by rw [Int.add_mul, Int.one_mul]
      refine ⟨_, rfl, ?_⟩
      refine ⟨_, rfl, p, _, _, _, rfl, rfl, SqT.of pl12.at_, rfl, _, rfl, _, rfl, p, _, _, _, rfl, rfl, SqT.of pl12.at_, rfl, _, _, rfl, rfl, CM.l (lt64s (by omega) (by omega)), _, _, rfl, rfl, _, rfl, ite3 (fun c3 => ?_) (fun c3 => ?_)⟩
      · have c3 : t > (a : Int) * b := dec_t c3
        refine ⟨_, rfl, p, _, _, _, rfl, rfl, SqT.of pl12.at_, rfl, _, rfl, p, _, _, _, rfl, rfl, SqT.of pl12.at_, rfl, _, _, rfl, rfl, _, rfl, p, _, _, _, rfl, rfl, SqT.of pl12.at_, rfl, sz (by simp), fun p2 H13 s13 f13 _ => ?_⟩
        refine rd2 _ H13 l p lb l2 p2 N qs [w] _ t b (t + b) b _ _ _ _ _ _ _ _ _ eN (L12.mono s13) (by omega) (pl12.mono s13) bt (LB12.mono s13) hb (LD.mono s13) (by rw [hdl]; omega) ⟨f13, ⟨hd0, by rw [Int.gcd_add_self_left]; exact pl.low.one⟩, by have := pl.lo; omega, by rw [dl, db]; omega, bits_le (bits_add (n := 101) bt.1 (bits_le bt.2 (by decide))) (by decide), pl.bb⟩ (al_dbl_hi hd0 ha (by omega) hi) fun H' s' => nx _ _ _ _ _ H' (S12.trans (s13.trans s'))
      · have c3 : ¬ t > (a : Int) * b := dec_f c3
        refine rd2 _ H12 l p lb l2 p N qs [w] _ t b t b _ _ _ _ _ _ _ _ _ eN L12 (by omega) pl12 bt LB12 hb LD (by rw [hdl]; omega) ⟨pl12.at_, pl.low, pl.lo, by rw [dl, db]; omega, pl.bt, pl.bb⟩ (al_dbl_lo hd0 ha pl.lo (by omega)) fun H' s' => nx _ _ _ _ _ H' (S12.trans s')
    obtain ⟨u1, hu1, rd1⟩ := R1
    refine ⟨_, pss_cons (ps_for PassesOwn.never rfl (pi_list (pe_op op_catA (pe_slice sl_listA (pv 0) po_none (po_some pe_int)) (pe_lstA (pa_cons (pe_callB call_len_seq (by rfl) T.z_len bt_len (pa_cons (pv 0) pa_nil)) pa_nil)))) (pg_name (i := 1) S_law.nd rfl (Or.inl rfl)) (pss_cons (ps_set (i := 2) S_law.nd rfl (Or.inl rfl) (pe_fn F_law_numbers (hr.mono (by decide)) (by rfl) (pa_cons (pv 1) (pa_cons pe_int (pa_cons (pe_op op_pow pe_int pe_int) pa_nil))))) (pss_cons (ps_set (i := 3) S_law.nd rfl (Or.inl rfl) (pe_op op_catA (pe_fn F_law_line (hr.mono (by decide)) (by rfl) (pa_cons (pe_slice sl_listA (pv 2) (po_some pe_int) po_none) (pa_cons pe_int pa_nil))) (pe_lstA (pa_cons (pe_tupA (pa_cons pe_int (pa_cons pe_int pa_nil))) (pa_cons (pe_tupA (pa_cons pe_int (pa_cons pe_int pa_nil))) pa_nil))))) (pss_cons (ps_set (i := 4) S_law.nd rfl (Or.inl rfl) (pe_op op_sub (pe_callB call_len_seq (by rfl) T.z_len bt_len (pa_cons (pv 3) pa_nil)) pe_int)) (pss_cons (ps_set (i := 5) S_law.nd rfl (Or.inl rfl) (pe_op op_mod (pe_ix ix_list (pv 2) pe_int (fun _ _ => rfl)) (pv 4))) (pss_cons (ps_set (i := 6) S_law.nd rfl (Or.inl rfl) (pe_op op_add pe_int (pe_op op_mod (pe_ix ix_list (pv 2) pe_int (fun _ _ => rfl)) pe_int))) (pss_cons (ps_asg (pe_fn F_law_stepped (hr.mono (by decide)) (by rfl) (pa_cons (pv 3) (pa_cons (pv 5) (pa_cons (pv 6) (pa_cons (pe_slice sl_listA (pv 2) (po_some pe_int) (po_some pe_int)) pa_nil))))) (pg_tup rfl (pgs_cons (pg_name (i := 3) S_law.nd rfl (Or.inl rfl)) (pgs_cons (pg_name (i := 7) S_law.nd rfl (Or.inl rfl)) pgs_nil)))) (pss_cons (ps_set (i := 8) S_law.nd rfl (Or.inl rfl) (pe_fn F_law_place (hr.mono (by decide)) (by rfl) (pa_cons (pv 3) (pa_cons (pe_ix ix_list (pv 2) pe_int (fun _ _ => rfl)) (pa_cons (pe_ix ix_list (pv 2) pe_int (fun _ _ => rfl)) pa_nil))))) (pss_cons (ps_if (pt_cmpR op_eq (pe_op op_mod (pe_ix ix_list (pv 2) pe_int (fun _ _ => rfl)) pe_int) pe_int (nomark _)) (pss_cons (ps_set (i := 9) S_law.nd rfl (Or.inl rfl) (pe_fn F_law_place (hr.mono (by decide)) (by rfl) (pa_cons (pe_lstA (pa_cons (pe_ix ix_list (pv 3) pe_int (fun _ _ => rfl)) (pa_cons (pe_ix ix_list (pv 3) pe_int (fun _ _ => rfl)) pa_nil))) (pa_cons (pe_op op_add (pe_op op_mulX pe_int (pe_ix ix_list (pv 2) pe_int (fun _ _ => rfl))) pe_int) (pa_cons (pe_ix ix_list (pv 2) pe_int (fun _ _ => rfl)) pa_nil))))) (pss_one (ps_set (i := 8) S_law.nd rfl (Or.inl rfl) (pe_tupA (pa_cons (pe_op op_add (pe_op op_mulX (pv 5) (pe_ix ix_tup (pv 9) pe_int (fun _ _ => rfl))) (pe_ix ix_tup (pv 9) pe_int (fun _ _ => rfl))) (pa_cons (pe_ix ix_tup (pv 9) pe_int (fun _ _ => rfl)) pa_nil)))))) pss_nil) hu1))))))))) (pss_one (ps_ret pe_bl)), ?_⟩
    refine ⟨_, rfl, _, rfl, sa, _, rfl, hS, fun p0 H0 s0 f0 _ => ?_⟩
    refine ⟨_, rfl, sa, _, rfl, .inl (s0.seq hS), sz (by simp), fun p1 H1 s1 f1 _ => ?_⟩
    refine ⟨p0, p1, _, _, rfl, rfl, s1 _ _ f0, f1, cells_len hlen, fun p2 H2 s2 f2 _ => ?_⟩
    refine ⟨p2, rfl, ⟨_, SqL.of f2⟩, for_list (K := K) (a := p2) (xs := cutV (ss.map V.int) none (some 8) ++ [.int (((ss.map V.int).length : Nat) : Int)]) (fun _ σ H3 => ∃ z1 z2 z3 z4 z5 z6 z7 z8 z9 z10 z11 z12 z13 z14, σ = [some (.ref sa), z1, z2, z3, z4, z5, z6, z7, z8, z9, z10, z11, z12, z13, z14] ∧ Same H2 H3)
      ⟨_, _, _, _, _, _, _, _, _, _, _, _, _, _, rfl, Same.refl _⟩ (fun i σ H3 _ ⟨_, _, _, _, _, _, _, _, _, _, _, _, _, _, _, sm⟩ => SqL.of (sm _ _ f2)) ?_ ?_⟩
    · rintro i o σ H3 hi ⟨z1, z2, z3, z4, z5, z6, z7, z8, z9, z10, z11, z12, z13, z14, rfl, sm⟩
      obtain ⟨c, rfl⟩ := cells_int hi
      have eb : ((10 : Int) ^ (20 : Int).toNat) = 100000000000000000000 := by decide +kernel
      have bb : bits ((10 : Int) ^ (20 : Int).toNat) ≤ 300 := by rw [eb]; decide +kernel
      refine ⟨_, rfl, _, _, rfl, rfl, ⟨by decide, by decide, by decide⟩, c, 34, _, rfl, by decide, ⟨by rw [eb]; decide, bits_le bb (by decide)⟩, fun pn ns H4 hn hns s4 f4 => ?_⟩
      have nn : ∀ n ∈ ns, 0 ≤ n := fun n h => (hns n h).1
      -- line
      refine ⟨_, rfl, _, rfl, pn, _, rfl, SqL.of f4, fun p5 H5 s5 f5 _ => ?_⟩
      rw [show cutV (ns.map V.int) (some 10) none = (ns.drop 10).map V.int from cut_from 10] at f5
      refine ⟨p5, ns.drop 10, 7, rfl, f5, by decide, by decide, by rw [List.length_drop]; omega, fun l0 rs H6 L0 hr1 hr7 s6 => ?_⟩
      refine ⟨sz (by simp), fun c0 H7 s7 f7 _ => ⟨sz (by simp), fun c1 H8 s8 f8 _ => ⟨sz (by simp), fun p9 H9 s9 f9 _ => ?_⟩⟩⟩
      have hrl : (rs.map fun (q : Addr × Int × Int) => V.ref q.1).length = rs.length := List.length_map _
      refine ⟨l0, p9, _, _, rfl, rfl, (s7.trans (s8.trans s9)) _ _ L0.lst, f9, sz (by simp; omega), fun l H10 s10 f10 _ => ?_⟩
      have b01 : bits 0 ≤ 50 ∧ bits 1 ≤ 50 := ⟨by decide, by decide⟩
      have L : LineAt H10 l (rs ++ [(c0, 0, 0), (c1, 1, 0)]) := ⟨by rw [f10]; simp, fun q h => by
        rcases List.mem_append.mp h with h | h
        · exact (L0.mono (s7.trans (s8.trans (s9.trans s10)))).crn q h
        · rcases List.mem_cons.mp h with h | h
          · subst h; exact ⟨(s8.trans (s9.trans s10)) _ _ f7, b01.1, b01.1⟩
          · rcases List.mem_cons.mp h with h | h
            · subst h; exact ⟨(s9.trans s10) _ _ f8, b01.2, b01.1⟩
            · cases h⟩
      have hql : (rs ++ [(c0, (0 : Int), (0 : Int)), (c1, 1, 0)]).length = rs.length + 2 := by simp
      generalize rs ++ [(c0, (0 : Int), (0 : Int)), (c1, 1, 0)] = qs at L hql
      have hll : (qs.map fun (q : Addr × Int × Int) => V.ref q.1).length = qs.length := List.length_map _
      have f410 := (s5.trans (s6.trans (s7.trans (s8.trans (s9.trans s10))))) _ _ f4
      refine ⟨_, rfl, l, _, rfl, .inl (SqL.of L.lst), _, _, rfl, rfl, ?_⟩
      have N0 : (0 : Int) < (((qs.map fun (q : Addr × Int × Int) => V.ref q.1).length : Nat) : Int) - 1 := by omega
      refine ⟨_, rfl, pn, _, _, _, rfl, rfl, SqL.of f410, at_int 0 rfl (by omega), _, rfl, _, _, rfl, rfl, N0, ?_⟩
      have a0 := Int.emod_nonneg ns[0] (show (((qs.map fun (q : Addr × Int × Int) => V.ref q.1).length : Nat) : Int) - 1 ≠ 0 by omega)
      have a1 := Int.emod_lt_of_pos ns[0] N0
      have t0 := Int.emod_nonneg ns[1] (show (6 : Int) ≠ 0 by decide)
      have t1 := Int.emod_lt_of_pos ns[1] (show (0 : Int) < 6 by decide)
      refine ⟨_, rfl, pn, _, _, _, rfl, rfl, SqL.of f410, at_int 1 rfl (by omega), _, _, rfl, rfl, (by show (0 : Int) < 6; decide), _, _, rfl, rfl, ?_⟩
      refine ⟨_, rfl, _, rfl, _, rfl, _, rfl, _, rfl, _, rfl, pn, _, rfl, SqL.of f410, fun p11 H11 s11 f11 _ => ?_⟩
      rw [cut25 (by omega)] at f11
      obtain ⟨a, ea⟩ : ∃ a : Nat, ns[0] % ((((qs.map fun (q : Addr × Int × Int) => V.ref q.1).length : Nat) : Int) - 1) = (a : Int) := ⟨(ns[0] % ((((qs.map fun (q : Addr × Int × Int) => V.ref q.1).length : Nat) : Int) - 1)).toNat, by omega⟩
      refine ⟨l, p11, _, a, _, qs, _, rfl, ea, L.mono s11, (by omega), (by omega), f11, by rw [List.length_take, List.length_drop]; omega, fun r l2 s qs2 dx dy H12 s12 er L2 hq2 S2 => ?_⟩
      refine ⟨r, _, rfl, SqT.of er, rfl, _, _, rfl, _, _, rfl, rfl, ?_⟩
      have f412 := (s11.trans s12) _ _ f410
      have hl2 : (qs2.map fun (q : Addr × Int × Int) => V.ref q.1).length = qs2.length := List.length_map _
      have n6 : 0 ≤ ns[6] := nn _ (List.getElem_mem _)
      have hN : (((qs.map fun (q : Addr × Int × Int) => V.ref q.1).length : Nat) : Int) - 1 = lst_ qs2 := by rw [hll]; unfold lst_; rw [hq2]
      have S12 : Same H2 H12 := sm.trans (s4.trans (s5.trans (s6.trans (s7.trans (s8.trans (s9.trans (s10.trans (s11.trans s12))))))))
      -- place
      refine ⟨_, rfl, _, rfl, pn, _, _, _, rfl, rfl, SqL.of f412, at_int 5 rfl (by omega), _, rfl, pn, _, _, _, rfl, rfl, SqL.of f412, at_int 6 rfl (by omega), l2, _, _, _, rfl, L2.lst, by omega, by omega, n6, fun p t b H13 lw h0 h1 bt btb s13 e13 => ?_⟩
      have f413 := s13 _ _ f412
      have L3 := L2.mono s13
      refine ⟨_, rfl, pn, _, _, _, rfl, rfl, SqL.of f413, at_int 9 rfl (by omega), _, _, rfl, rfl, (by show (0 : Int) < 2; decide), rfl, _, rfl, ite3 (fun _ => ?_) (fun _ => ?_)⟩
      · obtain ⟨v, hv, av⟩ := Dr.at_crn (qs := qs2) (k := 0) (by omega) (by omega)
        refine ⟨_, rfl, l2, _, _, _, rfl, rfl, SqL.of L3.lst, av, _, rfl, l2, _, _, _, rfl, rfl, SqL.of L3.lst, av, sz (by simp), fun p14 H14 s14 f14 _ => ?_⟩
        have f414 := s14 _ _ f413
        refine ⟨_, rfl, pn, _, _, _, rfl, rfl, SqL.of f414, at_int 5 rfl (by omega), _, _, rfl, rfl, CM.l (lt64s (by decide) (by decide)), _, _, rfl, rfl, _, rfl, pn, _, _, _, rfl, rfl, SqL.of f414, at_int 6 rfl (by omega), p14, _, _, _, rfl, f14, by simp, by simp, n6, fun am t' b' H15 lw' h0' h1' bt' bb' s15 e15 => ?_⟩
        have ca : ∀ x : Int, CM (ns[0] % ((((qs.map fun (q : Addr × Int × Int) => V.ref q.1).length : Nat) : Int) - 1)) x := fun x => CM.l (lt64s (by omega) (by omega))
        refine ⟨_, rfl, _, rfl, am, _, _, _, rfl, rfl, SqT.of e15, rfl, _, _, rfl, rfl, ca _, _, rfl, am, _, _, _, rfl, rfl, SqT.of e15, rfl, _, _, rfl, rfl, _, rfl, am, _, _, _, rfl, rfl, SqT.of e15, rfl, sz (by simp), fun p16 H16 s16 f16 _ => ?_⟩
        have S16 := s13.trans (s14.trans (s15.trans s16))
        have hb' := lw'.pos
        have h1'' : t' ≤ b' := by simpa using h1'
        have ba : bits (a : Int) ≤ 10 := bits_small (by omega) (by omega)
        have bT : bits ((a : Int) * b' + t') ≤ 101 := bits_add (bits_le (bits_mul ba bb') (by decide)) bt'
        have m0 : 0 ≤ (a : Int) * b' := Int.mul_nonneg (by omega) (by omega)
        have m1 : ((a : Int) + 1) * b' ≤ lst_ qs2 * b' := Int.mul_le_mul_of_nonneg_right (by rw [← hN]; omega) (by omega)
        rw [Int.add_mul, Int.one_mul] at m1
        refine rd1 _ H16 pn l2 s p16 ns _ _ _ dx dy ((a : Int) * b' + t') b' a qs2 _ _ _ _ _ _ _ _ (S16 _ _ f412) hn hN ea (L2.mono S16) (by omega) (by omega) ?_ ⟨by rw [← ea]; exact f16, ⟨hb', by rw [gcd_on]; exact lw'.one⟩, by omega, by omega, bits_le bT (by decide), bits_le bb' (by decide)⟩ ⟨bT, bb'⟩ fun w10 w11 w12 w13 w14 H' s' => ⟨_, _, _, _, _, _, _, _, _, _, _, _, _, _, rfl, S12.trans (S16.trans s')⟩
        exact ⟨S16 _ _ S2.at_, S2.bx, S2.by_, S2.nx, S2.ny, S2.b0, S2.b1⟩
      · rw [hl2] at h1
        refine rd1 _ H13 pn l2 s p ns _ _ _ dx dy t b a qs2 _ _ _ _ _ _ _ _ f413 hn hN ea L3 (by omega) (by omega) ?_ ⟨e13, lw, h0, h1, bits_le bt (by decide), bits_le btb (by decide)⟩ ⟨bits_le bt (by decide), btb⟩ fun w10 w11 w12 w13 w14 H' s' => ⟨_, _, _, _, _, _, _, _, _, _, _, _, _, _, rfl, S12.trans (s13.trans s')⟩
        exact ⟨s13 _ _ S2.at_, S2.bx, S2.by_, S2.nx, S2.ny, S2.b0, S2.b1⟩
    · rintro σ H3 ⟨z1, z2, z3, z4, z5, z6, z7, z8, z9, z10, z11, z12, z13, z14, rfl, sm⟩
      exact fin H3
end
/-! ### the whole -/
theorem all_mk {P : Program} {w : World} {K : PySem.W.Frag} {h : Heap} {mg : Str → Option Value} {fa : Addr} (X : K.In h) (G : h.Ns mainGlobals mg) (hfa : mg "law" = some (.ref fa))
    {f0 : Addr} {od0 an0 : Option Addr} {sl0 : Array (Option Value)} {oc0 kV0 dc0 pm0 cd0 ct0 : Value}
    {f1 : Addr} {od1 an1 : Option Addr} {sl1 : Array (Option Value)} {oc1 kV1 dc1 pm1 cd1 ct1 : Value}
    {T2 : Addr} {ocT2 : Value} {odT2 : Option Addr} {nT2 : Nat} {tkT2 : Tok} {slT2 : Array (Option Value)}
    {f2 : Addr} {od2 an2 : Option Addr} {sl2 : Array (Option Value)} {oc2 kV2 dc2 pm2 cd2 ct2 : Value}
    {f3 : Addr} {od3 an3 : Option Addr} {sl3 : Array (Option Value)} {oc3 kV3 dc3 pm3 cd3 ct3 : Value}
    {f4 : Addr} {od4 an4 : Option Addr} {sl4 : Array (Option Value)} {oc4 kV4 dc4 pm4 cd4 ct4 : Value}
    {f5 : Addr} {od5 an5 : Option Addr} {sl5 : Array (Option Value)} {oc5 kV5 dc5 pm5 cd5 ct5 : Value}
    {f6 : Addr} {od6 an6 : Option Addr} {sl6 : Array (Option Value)} {oc6 kV6 dc6 pm6 cd6 ct6 : Value}
    {f7 : Addr} {od7 an7 : Option Addr} {sl7 : Array (Option Value)} {oc7 kV7 dc7 pm7 cd7 ct7 : Value}
    {f8 : Addr} {od8 an8 : Option Addr} {sl8 : Array (Option Value)} {oc8 kV8 dc8 pm8 cd8 ct8 : Value}
    {f9 : Addr} {od9 an9 : Option Addr} {sl9 : Array (Option Value)} {oc9 kV9 dc9 pm9 cd9 ct9 : Value}
    {f10 : Addr} {od10 an10 : Option Addr} {sl10 : Array (Option Value)} {oc10 kV10 dc10 pm10 cd10 ct10 : Value}
    {f11 : Addr} {od11 an11 : Option Addr} {sl11 : Array (Option Value)} {oc11 kV11 dc11 pm11 cd11 ct11 : Value}
    {f12 : Addr} {od12 an12 : Option Addr} {sl12 : Array (Option Value)} {oc12 kV12 dc12 pm12 cd12 ct12 : Value}
    {f13 : Addr} {od13 an13 : Option Addr} {sl13 : Array (Option Value)} {oc13 kV13 dc13 pm13 cd13 ct13 : Value}
    {f14 : Addr} {od14 an14 : Option Addr} {sl14 : Array (Option Value)} {oc14 kV14 dc14 pm14 cd14 ct14 : Value}
    {f15 : Addr} {od15 an15 : Option Addr} {sl15 : Array (Option Value)} {oc15 kV15 dc15 pm15 cd15 ct15 : Value}
    {f16 : Addr} {od16 an16 : Option Addr} {sl16 : Array (Option Value)} {oc16 kV16 dc16 pm16 cd16 ct16 : Value}
    {f17 : Addr} {od17 an17 : Option Addr} {sl17 : Array (Option Value)} {oc17 kV17 dc17 pm17 cd17 ct17 : Value}
    {f18 : Addr} {od18 an18 : Option Addr} {sl18 : Array (Option Value)} {oc18 kV18 dc18 pm18 cd18 ct18 : Value}
    {f19 : Addr} {od19 an19 : Option Addr} {sl19 : Array (Option Value)} {oc19 kV19 dc19 pm19 cd19 ct19 : Value}
    {f20 : Addr} {od20 an20 : Option Addr} {sl20 : Array (Option Value)} {oc20 kV20 dc20 pm20 cd20 ct20 : Value}
    {f21 : Addr} {od21 an21 : Option Addr} {sl21 : Array (Option Value)} {oc21 kV21 dc21 pm21 cd21 ct21 : Value}
    {f22 : Addr} {od22 an22 : Option Addr} {sl22 : Array (Option Value)} {oc22 kV22 dc22 pm22 cd22 ct22 : Value}
    {f23 : Addr} {od23 an23 : Option Addr} {sl23 : Array (Option Value)} {oc23 kV23 dc23 pm23 cd23 ct23 : Value}
    {f24 : Addr} {od24 an24 : Option Addr} {sl24 : Array (Option Value)} {oc24 kV24 dc24 pm24 cd24 ct24 : Value}
    {f25 : Addr} {od25 an25 : Option Addr} {sl25 : Array (Option Value)} {oc25 kV25 dc25 pm25 cd25 ct25 : Value}
    {f26 : Addr} {od26 an26 : Option Addr} {sl26 : Array (Option Value)} {oc26 kV26 dc26 pm26 cd26 ct26 : Value}
    {C_NoPlace : Addr}
    {C_NoRatio : Addr}
    (a0 : PySem.W.nsIn K mainGlobals "is_whole" = some (some (.ref f0))) (l0 : K.lookup f0 = some ⟨oc0, od0, .func (PySem.W.fnOf "is_whole" "is_whole" (defArgs (top 5)) (defBody (top 5)) (defScope (top 5)) .none kV0 dc0 pm0 an0 cd0 ct0), sl0⟩) (c0 : PySem.W.codeIn K cd0 "is_whole" = true) (k0 : PySem.W.keepIn K (.ref f0) = true)
    (a1 : PySem.W.nsIn K mainGlobals "common_divisor" = some (some (.ref f1))) (l1 : K.lookup f1 = some ⟨oc1, od1, .func (PySem.W.fnOf "common_divisor" "common_divisor" (defArgs (top 6)) (defBody (top 6)) (defScope (top 6)) .none kV1 dc1 pm1 an1 cd1 ct1), sl1⟩) (c1 : PySem.W.codeIn K cd1 "common_divisor" = true) (k1 : PySem.W.keepIn K (.ref f1) = true)
    (a2 : PySem.W.nsIn K mainGlobals "ratio" = some (some (.ref f2))) (l2 : K.lookup f2 = some ⟨oc2, od2, .func (PySem.W.fnOf "ratio" "ratio" (defArgs (top 7)) (defBody (top 7)) (defScope (top 7)) (.ref T2) kV2 dc2 pm2 an2 cd2 ct2), sl2⟩) (c2 : PySem.W.codeIn K cd2 "ratio" = true) (k2 : PySem.W.keepIn K (.ref f2) = true)
    (t2 : K.lookup T2 = some ⟨ocT2, odT2, .seq #[.int 1 tkT2] nT2, slT2⟩)
    (a3 : PySem.W.nsIn K mainGlobals "plus" = some (some (.ref f3))) (l3 : K.lookup f3 = some ⟨oc3, od3, .func (PySem.W.fnOf "plus" "plus" (defArgs (top 8)) (defBody (top 8)) (defScope (top 8)) .none kV3 dc3 pm3 an3 cd3 ct3), sl3⟩) (c3 : PySem.W.codeIn K cd3 "plus" = true) (k3 : PySem.W.keepIn K (.ref f3) = true)
    (a4 : PySem.W.nsIn K mainGlobals "minus" = some (some (.ref f4))) (l4 : K.lookup f4 = some ⟨oc4, od4, .func (PySem.W.fnOf "minus" "minus" (defArgs (top 9)) (defBody (top 9)) (defScope (top 9)) .none kV4 dc4 pm4 an4 cd4 ct4), sl4⟩) (c4 : PySem.W.codeIn K cd4 "minus" = true) (k4 : PySem.W.keepIn K (.ref f4) = true)
    (a5 : PySem.W.nsIn K mainGlobals "times" = some (some (.ref f5))) (l5 : K.lookup f5 = some ⟨oc5, od5, .func (PySem.W.fnOf "times" "times" (defArgs (top 10)) (defBody (top 10)) (defScope (top 10)) .none kV5 dc5 pm5 an5 cd5 ct5), sl5⟩) (c5 : PySem.W.codeIn K cd5 "times" = true) (k5 : PySem.W.keepIn K (.ref f5) = true)
    (a6 : PySem.W.nsIn K mainGlobals "floor_of" = some (some (.ref f6))) (l6 : K.lookup f6 = some ⟨oc6, od6, .func (PySem.W.fnOf "floor_of" "floor_of" (defArgs (top 11)) (defBody (top 11)) (defScope (top 11)) .none kV6 dc6 pm6 an6 cd6 ct6), sl6⟩) (c6 : PySem.W.codeIn K cd6 "floor_of" = true) (k6 : PySem.W.keepIn K (.ref f6) = true)
    (a7 : PySem.W.nsIn K mainGlobals "is_ratio" = some (some (.ref f7))) (l7 : K.lookup f7 = some ⟨oc7, od7, .func (PySem.W.fnOf "is_ratio" "is_ratio" (defArgs (top 12)) (defBody (top 12)) (defScope (top 12)) .none kV7 dc7 pm7 an7 cd7 ct7), sl7⟩) (c7 : PySem.W.codeIn K cd7 "is_ratio" = true) (k7 : PySem.W.keepIn K (.ref f7) = true)
    (a8 : PySem.W.nsIn K mainGlobals "last_of" = some (some (.ref f8))) (l8 : K.lookup f8 = some ⟨oc8, od8, .func (PySem.W.fnOf "last_of" "last_of" (defArgs (top 14)) (defBody (top 14)) (defScope (top 14)) .none kV8 dc8 pm8 an8 cd8 ct8), sl8⟩) (c8 : PySem.W.codeIn K cd8 "last_of" = true) (k8 : PySem.W.keepIn K (.ref f8) = true)
    (a9 : PySem.W.nsIn K mainGlobals "is_place" = some (some (.ref f9))) (l9 : K.lookup f9 = some ⟨oc9, od9, .func (PySem.W.fnOf "is_place" "is_place" (defArgs (top 16)) (defBody (top 16)) (defScope (top 16)) .none kV9 dc9 pm9 an9 cd9 ct9), sl9⟩) (c9 : PySem.W.codeIn K cd9 "is_place" = true) (k9 : PySem.W.keepIn K (.ref f9) = true)
    (a10 : PySem.W.nsIn K mainGlobals "look_at_place" = some (some (.ref f10))) (l10 : K.lookup f10 = some ⟨oc10, od10, .func (PySem.W.fnOf "look_at_place" "look_at_place" (defArgs (top 17)) (defBody (top 17)) (defScope (top 17)) .none kV10 dc10 pm10 an10 cd10 ct10), sl10⟩) (c10 : PySem.W.codeIn K cd10 "look_at_place" = true) (k10 : PySem.W.keepIn K (.ref f10) = true)
    (a11 : PySem.W.nsIn K mainGlobals "number_at" = some (some (.ref f11))) (l11 : K.lookup f11 = some ⟨oc11, od11, .func (PySem.W.fnOf "number_at" "number_at" (defArgs (top 18)) (defBody (top 18)) (defScope (top 18)) .none kV11 dc11 pm11 an11 cd11 ct11), sl11⟩) (c11 : PySem.W.codeIn K cd11 "number_at" = true) (k11 : PySem.W.keepIn K (.ref f11) = true)
    (a12 : PySem.W.nsIn K mainGlobals "point_at" = some (some (.ref f12))) (l12 : K.lookup f12 = some ⟨oc12, od12, .func (PySem.W.fnOf "point_at" "point_at" (defArgs (top 19)) (defBody (top 19)) (defScope (top 19)) .none kV12 dc12 pm12 an12 cd12 ct12), sl12⟩) (c12 : PySem.W.codeIn K cd12 "point_at" = true) (k12 : PySem.W.keepIn K (.ref f12) = true)
    (a13 : PySem.W.nsIn K mainGlobals "step_from" = some (some (.ref f13))) (l13 : K.lookup f13 = some ⟨oc13, od13, .func (PySem.W.fnOf "step_from" "step_from" (defArgs (top 20)) (defBody (top 20)) (defScope (top 20)) .none kV13 dc13 pm13 an13 cd13 ct13), sl13⟩) (c13 : PySem.W.codeIn K cd13 "step_from" = true) (k13 : PySem.W.keepIn K (.ref f13) = true)
    (a14 : PySem.W.nsIn K mainGlobals "inner_product" = some (some (.ref f14))) (l14 : K.lookup f14 = some ⟨oc14, od14, .func (PySem.W.fnOf "inner_product" "inner_product" (defArgs (top 21)) (defBody (top 21)) (defScope (top 21)) .none kV14 dc14 pm14 an14 cd14 ct14), sl14⟩) (c14 : PySem.W.codeIn K cd14 "inner_product" = true) (k14 : PySem.W.keepIn K (.ref f14) = true)
    (a15 : PySem.W.nsIn K mainGlobals "square_between" = some (some (.ref f15))) (l15 : K.lookup f15 = some ⟨oc15, od15, .func (PySem.W.fnOf "square_between" "square_between" (defArgs (top 22)) (defBody (top 22)) (defScope (top 22)) .none kV15 dc15 pm15 an15 cd15 ct15), sl15⟩) (c15 : PySem.W.codeIn K cd15 "square_between" = true) (k15 : PySem.W.keepIn K (.ref f15) = true)
    (a16 : PySem.W.nsIn K mainGlobals "square_of" = some (some (.ref f16))) (l16 : K.lookup f16 = some ⟨oc16, od16, .func (PySem.W.fnOf "square_of" "square_of" (defArgs (top 23)) (defBody (top 23)) (defScope (top 23)) .none kV16 dc16 pm16 an16 cd16 ct16), sl16⟩) (c16 : PySem.W.codeIn K cd16 "square_of" = true) (k16 : PySem.W.keepIn K (.ref f16) = true)
    (a17 : PySem.W.nsIn K mainGlobals "_law_mixed" = some (some (.ref f17))) (l17 : K.lookup f17 = some ⟨oc17, od17, .func (PySem.W.fnOf "_law_mixed" "_law_mixed" (defArgs (top 25)) (defBody (top 25)) (defScope (top 25)) .none kV17 dc17 pm17 an17 cd17 ct17), sl17⟩) (c17 : PySem.W.codeIn K cd17 "_law_mixed" = true) (k17 : PySem.W.keepIn K (.ref f17) = true)
    (a18 : PySem.W.nsIn K mainGlobals "_law_numbers" = some (some (.ref f18))) (l18 : K.lookup f18 = some ⟨oc18, od18, .func (PySem.W.fnOf "_law_numbers" "_law_numbers" (defArgs (top 26)) (defBody (top 26)) (defScope (top 26)) .none kV18 dc18 pm18 an18 cd18 ct18), sl18⟩) (c18 : PySem.W.codeIn K cd18 "_law_numbers" = true) (k18 : PySem.W.keepIn K (.ref f18) = true)
    (a19 : PySem.W.nsIn K mainGlobals "_law_common" = some (some (.ref f19))) (l19 : K.lookup f19 = some ⟨oc19, od19, .func (PySem.W.fnOf "_law_common" "_law_common" (defArgs (top 27)) (defBody (top 27)) (defScope (top 27)) .none kV19 dc19 pm19 an19 cd19 ct19), sl19⟩) (c19 : PySem.W.codeIn K cd19 "_law_common" = true) (k19 : PySem.W.keepIn K (.ref f19) = true)
    (a20 : PySem.W.nsIn K mainGlobals "_law_line" = some (some (.ref f20))) (l20 : K.lookup f20 = some ⟨oc20, od20, .func (PySem.W.fnOf "_law_line" "_law_line" (defArgs (top 28)) (defBody (top 28)) (defScope (top 28)) .none kV20 dc20 pm20 an20 cd20 ct20), sl20⟩) (c20 : PySem.W.codeIn K cd20 "_law_line" = true) (k20 : PySem.W.keepIn K (.ref f20) = true)
    (a21 : PySem.W.nsIn K mainGlobals "_law_place" = some (some (.ref f21))) (l21 : K.lookup f21 = some ⟨oc21, od21, .func (PySem.W.fnOf "_law_place" "_law_place" (defArgs (top 29)) (defBody (top 29)) (defScope (top 29)) .none kV21 dc21 pm21 an21 cd21 ct21), sl21⟩) (c21 : PySem.W.codeIn K cd21 "_law_place" = true) (k21 : PySem.W.keepIn K (.ref f21) = true)
    (a22 : PySem.W.nsIn K mainGlobals "_law_stepped" = some (some (.ref f22))) (l22 : K.lookup f22 = some ⟨oc22, od22, .func (PySem.W.fnOf "_law_stepped" "_law_stepped" (defArgs (top 30)) (defBody (top 30)) (defScope (top 30)) .none kV22 dc22 pm22 an22 cd22 ct22), sl22⟩) (c22 : PySem.W.codeIn K cd22 "_law_stepped" = true) (k22 : PySem.W.keepIn K (.ref f22) = true)
    (a23 : PySem.W.nsIn K mainGlobals "_law_lower" = some (some (.ref f23))) (l23 : K.lookup f23 = some ⟨oc23, od23, .func (PySem.W.fnOf "_law_lower" "_law_lower" (defArgs (top 31)) (defBody (top 31)) (defScope (top 31)) .none kV23 dc23 pm23 an23 cd23 ct23), sl23⟩) (c23 : PySem.W.codeIn K cd23 "_law_lower" = true) (k23 : PySem.W.keepIn K (.ref f23) = true)
    (a24 : PySem.W.nsIn K mainGlobals "_law_moved" = some (some (.ref f24))) (l24 : K.lookup f24 = some ⟨oc24, od24, .func (PySem.W.fnOf "_law_moved" "_law_moved" (defArgs (top 32)) (defBody (top 32)) (defScope (top 32)) .none kV24 dc24 pm24 an24 cd24 ct24), sl24⟩) (c24 : PySem.W.codeIn K cd24 "_law_moved" = true) (k24 : PySem.W.keepIn K (.ref f24) = true)
    (a25 : PySem.W.nsIn K mainGlobals "_law_alike" = some (some (.ref f25))) (l25 : K.lookup f25 = some ⟨oc25, od25, .func (PySem.W.fnOf "_law_alike" "_law_alike" (defArgs (top 33)) (defBody (top 33)) (defScope (top 33)) .none kV25 dc25 pm25 an25 cd25 ct25), sl25⟩) (c25 : PySem.W.codeIn K cd25 "_law_alike" = true) (k25 : PySem.W.keepIn K (.ref f25) = true)
    (a26 : PySem.W.nsIn K mainGlobals "law" = some (some (.ref f26))) (l26 : K.lookup f26 = some ⟨oc26, od26, .func (PySem.W.fnOf "law" "law" (defArgs (top 34)) (defBody (top 34)) (defScope (top 34)) .none kV26 dc26 pm26 an26 cd26 ct26), sl26⟩) (c26 : PySem.W.codeIn K cd26 "law" = true) (k26 : PySem.W.keepIn K (.ref f26) = true)
    (e_NoPlace : PySem.W.nsIn K mainGlobals "NoPlace" = some (some (.ref C_NoPlace))) (x_NoPlace : PySem.W.excIn K C_NoPlace [.type "ValueError", .type "Exception", .type "BaseException", .type "object"] "ValueError.__new__" = true)
    (e_NoRatio : PySem.W.nsIn K mainGlobals "NoRatio" = some (some (.ref C_NoRatio))) (x_NoRatio : PySem.W.excIn K C_NoRatio [.type "ValueError", .type "Exception", .type "BaseException", .type "object"] "ValueError.__new__" = true)
    (z_abs : PySem.W.nsIn K mainGlobals "abs" = some none)
    (z_bool : PySem.W.nsIn K mainGlobals "bool" = some none)
    (z_int : PySem.W.nsIn K mainGlobals "int" = some none)
    (z_isinstance : PySem.W.nsIn K mainGlobals "isinstance" = some none)
    (z_len : PySem.W.nsIn K mainGlobals "len" = some none)
    (z_min : PySem.W.nsIn K mainGlobals "min" = some none)
    (z_range : PySem.W.nsIn K mainGlobals "range" = some none)
    (z_tuple : PySem.W.nsIn K mainGlobals "tuple" = some none) :
    ∃ fd : FuncData, (∀ (s : Shared) (v : Value), BindsTo s fd ⟨[v], []⟩ [("script", v)]) ∧ ∀ base : Heap, K.In base → base.Ns mainGlobals mg → FnOk P w K mg base CX0 8 fa fd ["script"] (spLaw K) := by
  have D_is_whole : Df K mg "is_whole" (top 5) := df_mk X G a0 l0 c0 k0
  have D_common_divisor : Df K mg "common_divisor" (top 6) := df_mk X G a1 l1 c1 k1
  have D_ratio : DfD K mg "ratio" (top 7) [.int 1] := dfd_mk (its := [Value.int 1 tkT2]) X G a2 l2 c2 k2 t2 rfl (.cons ⟨_, rfl⟩ .nil)
  have D_plus : Df K mg "plus" (top 8) := df_mk X G a3 l3 c3 k3
  have D_minus : Df K mg "minus" (top 9) := df_mk X G a4 l4 c4 k4
  have D_times : Df K mg "times" (top 10) := df_mk X G a5 l5 c5 k5
  have D_floor_of : Df K mg "floor_of" (top 11) := df_mk X G a6 l6 c6 k6
  have D_is_ratio : Df K mg "is_ratio" (top 12) := df_mk X G a7 l7 c7 k7
  have D_last_of : Df K mg "last_of" (top 14) := df_mk X G a8 l8 c8 k8
  have D_is_place : Df K mg "is_place" (top 16) := df_mk X G a9 l9 c9 k9
  have D_look_at_place : Df K mg "look_at_place" (top 17) := df_mk X G a10 l10 c10 k10
  have D_number_at : Df K mg "number_at" (top 18) := df_mk X G a11 l11 c11 k11
  have D_point_at : Df K mg "point_at" (top 19) := df_mk X G a12 l12 c12 k12
  have D_step_from : Df K mg "step_from" (top 20) := df_mk X G a13 l13 c13 k13
  have D_inner_product : Df K mg "inner_product" (top 21) := df_mk X G a14 l14 c14 k14
  have D_square_between : Df K mg "square_between" (top 22) := df_mk X G a15 l15 c15 k15
  have D_square_of : Df K mg "square_of" (top 23) := df_mk X G a16 l16 c16 k16
  have D_law_mixed : Df K mg "_law_mixed" (top 25) := df_mk X G a17 l17 c17 k17
  have D_law_numbers : Df K mg "_law_numbers" (top 26) := df_mk X G a18 l18 c18 k18
  have D_law_common : Df K mg "_law_common" (top 27) := df_mk X G a19 l19 c19 k19
  have D_law_line : Df K mg "_law_line" (top 28) := df_mk X G a20 l20 c20 k20
  have D_law_place : Df K mg "_law_place" (top 29) := df_mk X G a21 l21 c21 k21
  have D_law_stepped : Df K mg "_law_stepped" (top 30) := df_mk X G a22 l22 c22 k22
  have D_law_lower : Df K mg "_law_lower" (top 31) := df_mk X G a23 l23 c23 k23
  have D_law_moved : Df K mg "_law_moved" (top 32) := df_mk X G a24 l24 c24 k24
  have D_law_alike : Df K mg "_law_alike" (top 33) := df_mk X G a25 l25 c25 k25
  have D_law : Df K mg "law" (top 34) := df_mk X G a26 l26 c26 k26
  have O_NoPlace : ExcC K mg "NoPlace" C_NoPlace := exc_mk X G e_NoPlace x_NoPlace
  have O_NoRatio : ExcC K mg "NoRatio" C_NoRatio := exc_mk X G e_NoRatio x_NoRatio
  have T : Txt mg := ⟨PySem.W.mg_none_of X G z_abs, PySem.W.mg_none_of X G z_bool, PySem.W.mg_none_of X G z_int, PySem.W.mg_none_of X G z_isinstance, PySem.W.mg_none_of X G z_len, PySem.W.mg_none_of X G z_min, PySem.W.mg_none_of X G z_range, PySem.W.mg_none_of X G z_tuple⟩
  refine law_fd h hfa fun base => ?_
  have F_is_whole := fn_is_whole (P := P) (w := w) (base := base) D_is_whole T
  have F_common_divisor := fn_common_divisor (P := P) (w := w) (base := base) D_common_divisor T
  have F_ratio := fn_ratio (P := P) (w := w) (base := base) D_ratio O_NoRatio F_is_whole F_common_divisor
  have F_floor_of := fn_floor_of (P := P) (w := w) (base := base) D_floor_of
  have F_is_ratio := fn_is_ratio (P := P) (w := w) (base := base) D_is_ratio F_is_whole F_common_divisor T
  have F_last_of := fn_last_of (P := P) (w := w) (base := base) D_last_of T
  have F_is_place := fn_is_place (P := P) (w := w) (base := base) D_is_place F_is_ratio F_last_of
  have F_look_at_place := fn_look_at_place (P := P) (w := w) (base := base) D_look_at_place O_NoPlace F_is_place
  have F_plus := fn_plus (P := P) (w := w) (base := base) D_plus F_ratio
  have F_minus := fn_minus (P := P) (w := w) (base := base) D_minus F_ratio
  have F_times := fn_times (P := P) (w := w) (base := base) D_times F_ratio
  have F_law_common := fn_law_common (P := P) (w := w) (base := base) D_law_common
  have F_law_mixed := fn_law_mixed (P := P) (w := w) (base := base) D_law_mixed
  have F_law_numbers := fn_law_numbers (P := P) (w := w) (base := base) D_law_numbers F_law_mixed T
  have F_law_line := fn_law_line (P := P) (w := w) (base := base) D_law_line T
  have F_law_place := fn_law_place (P := P) (w := w) (base := base) D_law_place F_law_common T
  have F_number_at := fn_number_at (P := P) (w := w) (base := base) D_number_at F_ratio
  have F_point_at := fn_point_at (P := P) (w := w) (base := base) D_point_at F_look_at_place F_floor_of F_last_of F_number_at T
  have F_step_from := fn_step_from (P := P) (w := w) (base := base) D_step_from F_minus
  have F_inner_product := fn_inner_product (P := P) (w := w) (base := base) D_inner_product F_plus F_times
  have F_square_between := fn_square_between (P := P) (w := w) (base := base) D_square_between F_step_from F_inner_product
  have F_square_of := fn_square_of (P := P) (w := w) (base := base) D_square_of F_square_between F_point_at
  have F_law_lower := fn_law_lower (P := P) (w := w) (base := base) D_law_lower F_law_common
  have F_law_alike := fn_law_alike (P := P) (w := w) (base := base) D_law_alike F_is_place F_point_at F_square_of T
  have F_law_moved := fn_law_moved (P := P) (w := w) (base := base) D_law_moved F_law_lower
  have F_law_stepped := fn_law_stepped (P := P) (w := w) (base := base) D_law_stepped
  exact fn_law D_law F_law_numbers F_law_line F_law_stepped F_law_place F_law_moved F_law_alike T
end K12
end
open PySem PySem.W PyProof.Rows
set_option maxRecDepth 100000 in
set_option maxHeartbeats 0 in
theorem PySem.Challenge.cw_oneleash_k12_whole_points_stay_holds : PySem.Challenge.rw_oneleash_k12_whole_points_stay.Holds := by
  w_on; o_law; k_head; (case hw => w_witness2)
  k_fill
  refine L2.law_walk (l := PySem.Challenge.rw_oneleash_k12_whole_points_stay) (k := 8) ⟨rfl, by decide, by decide⟩ rfl rfl (fun w h Y => PySem.W.kIn_of Y) ?F
  case F =>
    intro w mg fa h KX G hmg
    refine' K12.all_mk KX G hmg ?a0 ?l0 ?c0 ?k0 ?a1 ?l1 ?c1 ?k1 ?a2 ?l2 ?c2 ?k2 ?t2 ?a3 ?l3 ?c3 ?k3 ?a4 ?l4 ?c4 ?k4 ?a5 ?l5 ?c5 ?k5 ?a6 ?l6 ?c6 ?k6 ?a7 ?l7 ?c7 ?k7 ?a8 ?l8 ?c8 ?k8 ?a9 ?l9 ?c9 ?k9 ?a10 ?l10 ?c10 ?k10 ?a11 ?l11 ?c11 ?k11 ?a12 ?l12 ?c12 ?k12 ?a13 ?l13 ?c13 ?k13 ?a14 ?l14 ?c14 ?k14 ?a15 ?l15 ?c15 ?k15 ?a16 ?l16 ?c16 ?k16 ?a17 ?l17 ?c17 ?k17 ?a18 ?l18 ?c18 ?k18 ?a19 ?l19 ?c19 ?k19 ?a20 ?l20 ?c20 ?k20 ?a21 ?l21 ?c21 ?k21 ?a22 ?l22 ?c22 ?k22 ?a23 ?l23 ?c23 ?k23 ?a24 ?l24 ?c24 ?k24 ?a25 ?l25 ?c25 ?k25 ?a26 ?l26 ?c26 ?k26 ?e_NoPlace ?x_NoPlace ?e_NoRatio ?x_NoRatio  ?z_abs ?z_bool ?z_int ?z_isinstance ?z_len ?z_min ?z_range ?z_tuple
    (case a0 => k_is); (case l0 => k_is); (case c0 => k_is); (case k0 => k_is)
    (case a1 => k_is); (case l1 => k_is); (case c1 => k_is); (case k1 => k_is)
    (case a2 => k_is); (case l2 => k_is); (case c2 => k_is); (case k2 => k_is); (case t2 => k_is)
    (case a3 => k_is); (case l3 => k_is); (case c3 => k_is); (case k3 => k_is)
    (case a4 => k_is); (case l4 => k_is); (case c4 => k_is); (case k4 => k_is)
    (case a5 => k_is); (case l5 => k_is); (case c5 => k_is); (case k5 => k_is)
    (case a6 => k_is); (case l6 => k_is); (case c6 => k_is); (case k6 => k_is)
    (case a7 => k_is); (case l7 => k_is); (case c7 => k_is); (case k7 => k_is)
    (case a8 => k_is); (case l8 => k_is); (case c8 => k_is); (case k8 => k_is)
    (case a9 => k_is); (case l9 => k_is); (case c9 => k_is); (case k9 => k_is)
    (case a10 => k_is); (case l10 => k_is); (case c10 => k_is); (case k10 => k_is)
    (case a11 => k_is); (case l11 => k_is); (case c11 => k_is); (case k11 => k_is)
    (case a12 => k_is); (case l12 => k_is); (case c12 => k_is); (case k12 => k_is)
    (case a13 => k_is); (case l13 => k_is); (case c13 => k_is); (case k13 => k_is)
    (case a14 => k_is); (case l14 => k_is); (case c14 => k_is); (case k14 => k_is)
    (case a15 => k_is); (case l15 => k_is); (case c15 => k_is); (case k15 => k_is)
    (case a16 => k_is); (case l16 => k_is); (case c16 => k_is); (case k16 => k_is)
    (case a17 => k_is); (case l17 => k_is); (case c17 => k_is); (case k17 => k_is)
    (case a18 => k_is); (case l18 => k_is); (case c18 => k_is); (case k18 => k_is)
    (case a19 => k_is); (case l19 => k_is); (case c19 => k_is); (case k19 => k_is)
    (case a20 => k_is); (case l20 => k_is); (case c20 => k_is); (case k20 => k_is)
    (case a21 => k_is); (case l21 => k_is); (case c21 => k_is); (case k21 => k_is)
    (case a22 => k_is); (case l22 => k_is); (case c22 => k_is); (case k22 => k_is)
    (case a23 => k_is); (case l23 => k_is); (case c23 => k_is); (case k23 => k_is)
    (case a24 => k_is); (case l24 => k_is); (case c24 => k_is); (case k24 => k_is)
    (case a25 => k_is); (case l25 => k_is); (case c25 => k_is); (case k25 => k_is)
    (case a26 => k_is); (case l26 => k_is); (case c26 => k_is); (case k26 => k_is)
    (case e_NoPlace => k_is); (case x_NoPlace => k_exc)
    (case e_NoRatio => k_is); (case x_NoRatio => k_exc)
    (case z_abs => k_is); (case z_bool => k_is); (case z_int => k_is); (case z_isinstance => k_is); (case z_len => k_is); (case z_min => k_is); (case z_range => k_is); (case z_tuple => k_is)
