import PyProof.Rows.All
import Wide.All
import OpenK.AllK
import Wide.FinOn
import Lean
import PyProof.EqAt
import PyProof.EqKinds
import PyProof.TupleCall
import PyProof.ExcArgsOwn
import KE.KTryMore
import PyProof.NsDelKeeps
import PyProof.ConsumeWalk
import PyProof.ZipIter
import PyProof.WalksEnum
import PyProof.EnumMake
import PyProof.NeKinds
import PyProof.CompMap
import PySem.Challenge.RW_oneleash_k11_whole_least_along
section
set_option Elab.async false
set_option linter.all false
set_option maxRecDepth 100000
/-! THE HAND LAYER, for ints, bools, texts, own classes, LISTS and tuples (index, slices, in, append, pop ..), calls, loops. Paste it whole ahead of your own text; what your proof does not reach may be deleted. -/
namespace L2
open PySem PySem.Spec PyProof.Rows

/-- a key: an int or a str -/
abbrev Key := Sum Int Str
def keyIs : Key → Value → Bool
  | .inl k, v => Value.isInt k v
  | .inr x, v => Value.isStrOf x v
def keyH (w : World) : Key → Int
  | .inl k => hashInt k
  | .inr x => hashStr w x
theorem keyIs_shape : ∀ {k : Key} {v : Value}, keyIs k v = true → (∃ i t, k = Sum.inl i ∧ v = Value.int i t) ∨ (∃ x t, k = Sum.inr x ∧ v = Value.str x t)
  | .inl i, v, h => by
    obtain ⟨t, e⟩ := Value.isInt_shape (k := i) (v := v) h
    exact .inl ⟨i, t, rfl, e⟩
  | .inr x, v, h => by
    obtain ⟨t, e⟩ := Value.isStrOf_shape (x := x) (v := v) h
    exact .inr ⟨x, t, rfl, e⟩
theorem key_ll (a b : Int) : decide ((Sum.inl a : Key) = Sum.inl b) = (a == b) := by
  by_cases e : a = b
  · subst e; simp
  · have h : ¬ (Sum.inl a : Key) = Sum.inl b := fun q => e (Sum.inl.inj q)
    rw [decide_eq_false h]
    exact (beq_eq_false_iff_ne.mpr e).symm
theorem key_rr (a b : Str) : decide ((Sum.inr a : Key) = Sum.inr b) = decide (a = b) := by
  by_cases e : a = b
  · subst e; simp
  · have h : ¬ (Sum.inr a : Key) = Sum.inr b := fun q => e (Sum.inr.inj q)
    rw [decide_eq_false h, decide_eq_false e]
theorem key_lr (a : Int) (b : Str) : decide ((Sum.inl a : Key) = Sum.inr b) = false := decide_eq_false (fun q => nomatch q)
theorem key_rl (a : Str) (b : Int) : decide ((Sum.inr a : Key) = Sum.inl b) = false := decide_eq_false (fun q => nomatch q)

def mixKind (prog : Program) (w : World) : PySem.KeyKind prog w Key where
  is := keyIs
  hash := keyH w
  inj := fun v a b ha hb => by
    rcases keyIs_shape ha with ⟨i, t, rfl, rfl⟩ | ⟨x, t, rfl, rfl⟩
    · rcases keyIs_shape hb with ⟨j, u, rfl, e⟩ | ⟨y, u, rfl, e⟩
      · injection e with e1 _; rw [e1]
      · exact nomatch e
    · rcases keyIs_shape hb with ⟨j, u, rfl, e⟩ | ⟨y, u, rfl, e⟩
      · exact nomatch e
      · injection e with e1 _; rw [e1]
  byValue := fun k v h => by
    rcases keyIs_shape h with ⟨i, t, rfl, rfl⟩ | ⟨x, t, rfl, rfl⟩ <;> rfl
  pyHash := fun hv h => by
    rcases keyIs_shape hv with ⟨i, t, rfl, rfl⟩ | ⟨x, t, rfl, rfl⟩
    · exact wpAny_pyHash_int h
    · exact wpAny_pyHash_str h
  eqBool := fun hu hv h => by
    rcases keyIs_shape hu with ⟨i, t, rfl, rfl⟩ | ⟨x, t, rfl, rfl⟩
    · rcases keyIs_shape hv with ⟨j, u, rfl, rfl⟩ | ⟨y, u, rfl, rfl⟩
      · rw [key_ll] at h; exact wpAny_eqBool_int h
      · rw [key_lr] at h; exact SeqAt.EqAt.int_str i t y u _ _ _ _ h
    · rcases keyIs_shape hv with ⟨j, u, rfl, rfl⟩ | ⟨y, u, rfl, rfl⟩
      · rw [key_rl] at h; exact SeqAt.EqAt.str_int x t j u _ _ _ _ h
      · rw [key_rr] at h; exact wpAny_eqBool_str h
  «strs» := fun k x t v h => by
    rcases keyIs_shape h with ⟨i, u, rfl, e⟩ | ⟨y, u, rfl, e⟩
    · exact nomatch e
    · injection e with e1 _
      subst e1
      cases v <;> rfl

end L2

namespace L2
open PySem PySem.Spec PyProof.Rows

/-- a value, without the heap -/
inductive V where
  | non | bl (b : Bool) | int (i : Int) | str (x : Str) | byt (b : Array UInt8) | flt (b : UInt64) | ref (a : Addr) | ty (n : String)
  deriving DecidableEq

def RelV : V → Value → Prop
  | .non, u => u = Value.none
  | .bl b, u => u = Value.bool b
  | .int i, u => ∃ t, u = Value.int i t
  | .str x, u => ∃ t, u = Value.str x t
  | .byt b, u => ∃ t, u = Value.bytes b t
  | .flt b, u => ∃ t, u = Value.float b t
  | .ref a, u => u = Value.ref a
  | .ty n, u => u = Value.type n

abbrev Vals : List V → List Value → Prop := Paired RelV
theorem Vals.length {xs : List V} {us : List Value} (r : Vals xs us) : xs.length = us.length := Paired.length r
theorem Vals.get : ∀ {xs : List V} {us : List Value} {i : Nat} {x : V}, Vals xs us → xs[i]? = some x → ∃ u, us[i]? = some u ∧ RelV x u
  | _, _, _, _, .nil, e => by simp at e
  | _, _, 0, _, .cons r _, e => by simp at e; subst e; exact ⟨_, rfl, r⟩
  | _, _, i + 1, x, .cons _ t, e => by
    obtain ⟨u, h1, h2⟩ := Vals.get (i := i) (x := x) t (by simpa using e)
    exact ⟨u, by simpa using h1, h2⟩
theorem Vals.append : ∀ {xs ys : List V} {us ws : List Value}, Vals xs us → Vals ys ws → Vals (xs ++ ys) (us ++ ws)
  | _, _, _, _, .nil, s => s
  | _, _, _, _, .cons r t, s => .cons r (Vals.append t s)
theorem Vals.take : ∀ {xs : List V} {us : List Value} (n : Nat), Vals xs us → Vals (xs.take n) (us.take n)
  | _, _, 0, _ => .nil
  | _, _, _ + 1, .nil => .nil
  | _, _, n + 1, .cons r t => .cons r (Vals.take n t)
theorem Vals.drop : ∀ {xs : List V} {us : List Value} (n : Nat), Vals xs us → Vals (xs.drop n) (us.drop n)
  | _, _, 0, r => r
  | _, _, _ + 1, .nil => .nil
  | _, _, n + 1, .cons _ t => Vals.drop n t
def RelO : Option V → Option Value → Prop
  | some v, some u => RelV v u
  | none, none => True
  | _, _ => False
def KV {κ : Type} : List (κ × V) → List (κ × Value) → Prop := Paired fun (p : κ × V) (q : κ × Value) => p.1 = q.1 ∧ RelV p.2 q.2

/-- a key of a dict (00_mix): an int or a text -/
def kV : Key → V
  | .inl i => .int i
  | .inr x => .str x

/-- what stands at a tracked address -/
inductive HO where
  /-- a list -/
  | lst (xs : List V)
  /-- a tuple (never changes) -/
  | tup (xs : List V)
  /-- a dict whose keys are ints and texts; one whose keys are tuples of ints and texts (the empty one is both) -/
  | dK (kvs : List (Key × V)) | dT (kvs : List (List Key × V))
  /-- a set of ints: its members, its size -/
  | set (S : Int → Bool) (n : Nat)
  /-- an instance of the class at C, its dict at dx, its attributes -/
  | ins (C dx : Addr) (fs : List (Str × V))
  /-- the dict of the instance at x -/
  | own (x : Addr)
  /-- the dict of an exception -/
  | xd (fs : List (Str × V))
  /-- a bound method, f of x -/
  | met (f x : Addr)
  /-- a range object lo, lo + 1, .. below hi -/
  | rng (lo hi : Int)
  /-- a thing that is known to the object (the script; a dict while a loop walks it): read, never written while it is so -/
  | frz (o : Obj) (u : HO)
  /-- a code object's table -/
  | tbl (ps : Array Value)
  /-- any other thing, by what is true of its one object (a def of one's own: SetO a S n := HO.ext fun h => ..) -/
  | ext (φ : Heap → Prop)

abbrev Hp := Addr → Option HO
def upd (H : Hp) (a : Addr) (o : HO) : Hp := fun b => if b = a then some o else H b
theorem upd_same {H : Hp} {a : Addr} {o : HO} : upd H a o a = some o := by unfold upd; rw [if_pos rfl]
theorem upd_ne {H : Hp} {a b : Addr} {o : HO} (h : b ≠ a) : upd H a o b = H b := by unfold upd; rw [if_neg h]
/-- two objects of different content stand apart -/
theorem ne_of {H : Hp} {a b : Addr} {o u : HO} (h : H a = some o) (h' : H b = some u) (d : o ≠ u) : a ≠ b := by
  intro e; subst e; rw [h] at h'; exact d (Option.some.inj h')
theorem ne_of_none {H : Hp} {a b : Addr} {o : HO} (h : H a = some o) (h' : H b = none) : a ≠ b := by
  intro e; subst e; rw [h] at h'; cases h'

section
variable (P : Program) (w : World)
def ObjOk (H : Hp) (h : Heap) (a : Addr) : HO → Prop
  | .lst xs => xs.length ≤ sizeLine ∧ ∃ (its : List Value) (n : Nat), Vals xs its ∧ h.get? a = some { cls := .type "list", data := .seq its.toArray n }
  | .tup xs => xs.length ≤ sizeLine ∧ ∃ its : List Value, Vals xs its ∧ IsTup h a its.toArray
  | .dK kvs => kvs.length ≤ sizeLine ∧ (a == sysModules) = false ∧ ∃ vs, KV kvs vs ∧ h.DictOf (mixKind P w) a vs
  | .dT kvs => kvs.length ≤ sizeLine ∧ (a == sysModules) = false ∧ ∃ xs : List (List Key × Addr × Value),
      Paired (fun (p : List Key × V) (q : List Key × Addr × Value) => p.1 = q.1 ∧ H q.2.1 = some (.tup (p.1.map kV)) ∧ RelV p.2 q.2.2) kvs xs ∧
      ∃ o es ep, h.get? a = some o ∧ o.ExactDict ∧ o.data = .dict es ep ∧ es.toList = xs.map (entryOfKey (tupleKind (mixKind P w))) ∧ (xs.map (·.1)).Nodup
  | .set S n => h.SetOf (intKind P w) a S n
  | .ins C dx fs => H dx = some (.own a) ∧ fs.length ≤ 1000 ∧ dx ≠ a ∧ h.get? a = some (PySem.W.instObj C dx) ∧
      ∃ mA, h.Ns1 dx mA ∧ (∀ f, RelO (fs.lookup f) (mA f)) ∧ PySem.Within mA (fs.map (·.1))
  | .own _ => ∃ o, h.get? a = some o
  | .xd fs => ∃ mA, h.Ns1 a mA ∧ ∀ f, RelO (fs.lookup f) (mA f)
  | .rng lo hi => ∃ t u v, h.get? a = some { cls := .type "range", data := .fields #[.int lo t, .int hi u, .int 1 v] }
  | .frz o u => h.get? a = some o ∧ ObjOk H h a u
  | .tbl ps => h.get? a = some { cls := .none, data := .fields ps }
  | .met f x => h.get? a = some (PySem.W.methodObj (.ref f) (.ref x))
  | .ext φ => φ h ∧ (∃ o, h.get? a = some o) ∧ ∀ h1 h2 : Heap, φ h1 → (∀ o, h1.get? a = some o → h2.get? a = some o) → φ h2
/-- the abstract heap is held -/
def HOk (H : Hp) (h : Heap) : Prop := ∀ a o, H a = some o → ObjOk P w H h a o
end

section
variable {P : Program} {w : World} {H H' : Hp} {h h' : Heap} {a : Addr} {o : HO}
theorem ObjOk.lt (x : ObjOk P w H h a o) : a < h.objs.size := by
  cases o with
  | lst xs => obtain ⟨_, _, _, _, e⟩ := x; exact Heap.lt_size e
  | tup xs => obtain ⟨_, _, _, p⟩ := x; exact p.lt
  | dK kvs => obtain ⟨_, _, _, _, o, _, _, e, _⟩ := x; exact Heap.lt_size e
  | dT kvs => obtain ⟨_, _, _, _, o, _, _, e, _⟩ := x; exact Heap.lt_size e
  | set S n => obtain ⟨o, _, _, _, e, _⟩ := x; exact Heap.lt_size e
  | ins C dx fs => obtain ⟨_, _, _, e, _⟩ := x; exact Heap.lt_size e
  | own y => obtain ⟨_, e⟩ := x; exact Heap.lt_size e
  | xd fs => obtain ⟨_, ⟨_, _, _, e, _⟩, _⟩ := x; exact Heap.lt_size e
  | rng lo hi => obtain ⟨_, _, _, e⟩ := x; exact Heap.lt_size e
  | frz ob u => obtain ⟨e, _⟩ := x; exact Heap.lt_size e
  | tbl ps => exact Heap.lt_size (show h.get? a = some _ from x)
  | met f y => exact Heap.lt_size (show h.get? a = some _ from x)
  | ext φ => obtain ⟨_, ⟨_, e⟩, _⟩ := x; exact Heap.lt_size e
theorem Paired.mapP {α β : Type} {F G : α → β → Prop} : ∀ {l₁ : List α} {l₂ : List β}, Paired F l₁ l₂ → (∀ a b, F a b → G a b) → Paired G l₁ l₂
  | _, _, .nil, _ => .nil
  | _, _, .cons r t, f => .cons (f _ _ r) (Paired.mapP t f)
/-- what an object's description leans on: its own object, its own dict, the tuples -/
theorem ObjOk.stay (x : ObjOk P w H h a o) (k : ∀ b u, (b = a ∨ H b = some (.own a)) → h.get? b = some u → h'.get? b = some u)
    (ho : ∀ b, H b = some (.own a) → H' b = some (.own a)) (ht : ∀ b xs, H b = some (.tup xs) → H' b = some (.tup xs)) : ObjOk P w H' h' a o := by
  induction o with
  | lst xs => obtain ⟨z, its, n, r, e⟩ := x; exact ⟨z, its, n, r, k _ _ (.inl rfl) e⟩
  | tup xs => obtain ⟨z, its, r, ob, e, c⟩ := x; exact ⟨z, its, r, ob, k _ _ (.inl rfl) e, c⟩
  | dK kvs => obtain ⟨z, y, vs, r, ob, es, ep, e, c⟩ := x; exact ⟨z, y, vs, r, ob, es, ep, k _ _ (.inl rfl) e, c⟩
  | dT kvs =>
    obtain ⟨z, y, xs, r, ob, es, ep, e, c⟩ := x
    exact ⟨z, y, xs, Paired.mapP r fun p q z => ⟨z.1, ht _ _ z.2.1, z.2.2⟩, ob, es, ep, k _ _ (.inl rfl) e, c⟩
  | set S n => obtain ⟨ob, es, ep, t, e, c⟩ := x; exact ⟨ob, es, ep, t, k _ _ (.inl rfl) e, c⟩
  | ins C dx fs =>
    obtain ⟨d, z, ne, e, mA, ⟨od, es, ep, e2, c⟩, r⟩ := x
    exact ⟨ho _ d, z, ne, k _ _ (.inl rfl) e, mA, ⟨od, es, ep, k _ _ (.inr d) e2, c⟩, r⟩
  | own y => obtain ⟨ob, e⟩ := x; exact ⟨ob, k _ _ (.inl rfl) e⟩
  | xd fs => obtain ⟨mA, ⟨od, es, ep, e, c⟩, r⟩ := x; exact ⟨mA, ⟨od, es, ep, k _ _ (.inl rfl) e, c⟩, r⟩
  | rng lo hi => obtain ⟨t, u, v, e⟩ := x; exact ⟨t, u, v, k _ _ (.inl rfl) e⟩
  | frz ob u ih => obtain ⟨e, q⟩ := x; exact ⟨k _ _ (.inl rfl) e, ih q⟩
  | tbl ps =>
    have e : h.get? a = some { cls := .none, data := .fields ps } := x
    show h'.get? a = some { cls := .none, data := .fields ps }
    exact k a _ (.inl rfl) e
  | met f y =>
    have e : h.get? a = some (PySem.W.methodObj (.ref f) (.ref y)) := x
    show h'.get? a = some (PySem.W.methodObj (.ref f) (.ref y))
    exact k a _ (.inl rfl) e
  | ext φ => obtain ⟨p, ⟨o, e⟩, st⟩ := x; exact ⟨st _ _ p fun o q => k _ _ (.inl rfl) q, ⟨o, k _ _ (.inl rfl) e⟩, st⟩
theorem HOk.lt (x : HOk P w H h) (e : H a = some o) : a < h.objs.size := (x a o e).lt
theorem HOk.fresh (x : HOk P w H h) (e : h.objs.size ≤ a) : H a = none := by
  cases q : H a with
  | none => rfl
  | some u => exact absurd (Nat.lt_of_lt_of_le (x.lt q) e) (Nat.lt_irrefl _)
/-- every object of the heap is kept -/
theorem HOk.kept (x : HOk P w H h) (k : ∀ b u, h.get? b = some u → h'.get? b = some u) : HOk P w H h' := fun a o e =>
  (x a o e).stay (fun b u _ q => k b u q) (fun _ q => q) fun _ _ q => q
/-- a new object is laid and tracked -/
theorem HOk.laid (x : HOk P w H h) (k : ∀ b u, h.get? b = some u → h'.get? b = some u) (hp : h.objs.size ≤ a) (new : ObjOk P w (upd H a o) h' a o) : HOk P w (upd H a o) h' := fun b u e => by
  have hn := x.fresh hp
  by_cases hb : b = a
  · subst hb; rw [upd_same] at e; cases e; exact new
  · rw [upd_ne hb] at e
    exact (x b u e).stay (fun c v _ q => k c v q) (fun c q => by rw [upd_ne (ne_of_none q hn)]; exact q) fun c xs q => by rw [upd_ne (ne_of_none q hn)]; exact q
end

/-- what may be read as u: it is u, or a known u -/
def Rd (H : Hp) (a : Addr) (u : HO) : Prop := H a = some u ∨ ∃ o, H a = some (.frz o u)
theorem Rd.ok {P : Program} {w : World} {H : Hp} {h : Heap} {a : Addr} {u : HO} (r : Rd H a u) (x : HOk P w H h) : ObjOk P w H h a u := by
  rcases r with r | ⟨o, r⟩
  · exact x a u r
  · obtain ⟨_, q⟩ := x a _ r
    exact q
/-- what may be written -/
def Mut : Option HO → Prop
  | some (.lst _) => True
  | some (.dK _) => True
  | some (.dT _) => True
  | some (.set _ _) => True
  | some (.ins _ _ _) => True
  | some (.ext _) => True
  | _ => False
section
variable {P : Program} {w : World} {H : Hp} {h h' : Heap} {x e : Addr} {o' : HO}
/-- the object at e is changed: x itself, or the dict of the instance x -/
theorem HOk.write (ok : HOk P w H h) (mu : Mut (H x)) (he : e = x ∨ H e = some (.own x)) (k : ∀ b u, b ≠ e → h.get? b = some u → h'.get? b = some u) (heo : ∃ u, h'.get? e = some u)
    (new : ObjOk P w (upd H x o') h' x o') : HOk P w (upd H x o') h' := fun b u q => by
  have nown : ∀ c y, H c = some (.own y) → c ≠ x := fun c y r z => by subst z; rw [r] at mu; exact mu
  have ntup : ∀ c xs, H c = some (.tup xs) → c ≠ x := fun c xs r z => by subst z; rw [r] at mu; exact mu
  by_cases hb : b = x
  · subst hb; rw [upd_same] at q; cases q; exact new
  · rw [upd_ne hb] at q
    by_cases hbe : b = e
    · have q' : H b = some (.own x) := by
        rcases he with z | z
        · exact absurd (hbe.trans z) hb
        · rw [hbe]; exact z
      rw [q] at q'; cases q'
      obtain ⟨v, hv⟩ := heo
      exact ⟨v, by rw [hbe]; exact hv⟩
    · refine (ok b u q).stay (fun c v hc r => k c v ?_ r) (fun c r => by rw [upd_ne (nown c b r)]; exact r) fun c xs r => by rw [upd_ne (ntup c xs r)]; exact r
      rcases hc with rfl | hc
      · exact hbe
      · rintro rfl
        rcases he with z | z
        · exact nown c b hc z
        · rw [hc] at z; cases z; exact hb rfl
end

/-! ### kept unless tracked; of the frames at fs (the callers') the slots may change (an exception that passes writes there); of the records at ex (iterators) nothing is said -/
structure Un (fs ex : List Addr) (H H' : Hp) (h h' : Heap) : Prop where
  keep : ∀ b o, h.get? b = some o → H b = none → b ∉ fs → b ∉ ex → h'.get? b = some o
  slot : ∀ b o, h.get? b = some o → H b = none → b ∈ fs → b ∉ ex → ∃ sl, h'.get? b = some { o with slots := sl }
  free : ∀ b o, h.get? b = some o → H b = none → b ∉ ex → H' b = none
  there : ∀ b o, h.get? b = some o → b ∉ ex → ∃ o', h'.get? b = some o'
  tups : ∀ b xs, H b = some (.tup xs) → H' b = some (.tup xs)
  frzs : ∀ b o u, H b = some (.frz o u) → H' b = some (.frz o u)
  tbls : ∀ b ps, H b = some (.tbl ps) → ∃ more, H' b = some (.tbl (ps ++ more))
section
variable {fs fs' ex ex' : List Addr} {H H1 H2 : Hp} {h h1 h2 h' : Heap} {a x e : Addr} {o : HO}
theorem Un.any (u : Un fs ex H H1 h h1) {b : Addr} {ob : Obj} (q : h.get? b = some ob) (n : H b = none) (hx : b ∉ ex) : ∃ sl, h1.get? b = some { ob with slots := sl } := by
  by_cases hb : b ∈ fs
  · exact u.slot b ob q n hb hx
  · exact ⟨ob.slots, u.keep b ob q n hb hx⟩
theorem Un.kept (k : ∀ b u, h.get? b = some u → h'.get? b = some u) : Un fs ex H H h h' :=
  ⟨fun b ob q _ _ _ => k b ob q, fun b ob q _ _ _ => ⟨ob.slots, k b ob q⟩, fun _ _ _ n _ => n, fun b ob q _ => ⟨ob, k b ob q⟩, fun _ _ q => q, fun _ _ _ q => q, fun _ ps q => ⟨#[], by rw [q]; simp⟩⟩
theorem Un.refl : Un fs ex H H h h := Un.kept fun _ _ q => q
theorem Un.laid (k : ∀ b u, h.get? b = some u → h'.get? b = some u) (hp : h.objs.size ≤ a) (hn : H a = none) : Un fs ex H (upd H a o) h h' where
  keep := fun b u q _ _ _ => k b u q
  slot := fun b u q _ _ _ => ⟨u.slots, k b u q⟩
  free := fun b u q n _ => by rw [upd_ne (Nat.ne_of_lt (Nat.lt_of_lt_of_le (Heap.lt_size q) hp))]; exact n
  there := fun b u q _ => ⟨u, k b u q⟩
  tups := fun b xs q => by rw [upd_ne (ne_of_none q hn)]; exact q
  frzs := fun b u xs q => by rw [upd_ne (ne_of_none q hn)]; exact q
  tbls := fun b ps q => ⟨#[], by rw [upd_ne (ne_of_none q hn), q]; simp⟩
theorem Un.write (mu : Mut (H x)) (he : e = x ∨ H e = some (.own x)) (k : ∀ b u, b ≠ e → h.get? b = some u → h'.get? b = some u) (heo : ∃ u, h'.get? e = some u) : Un fs ex H (upd H x o) h h' := by
  have hx : ∀ b, H b = none → b ≠ x := fun b n z => by subst z; rw [n] at mu; exact mu
  have hb : ∀ b, H b = none → b ≠ e := fun b n z => by
    subst z
    rcases he with r | r
    · exact hx b n r
    · rw [n] at r; cases r
  have hm : ∀ b u, H b = some u → ¬ Mut (some u) → b ≠ x := fun b u q nm z => by subst z; rw [q] at mu; exact nm mu
  refine ⟨fun b u q n _ _ => k b u (hb b n) q, fun b u q n _ _ => ⟨u.slots, k b u (hb b n) q⟩, fun b u q n _ => by rw [upd_ne (hx b n)]; exact n, fun b u q _ => ?_,
    fun b xs q => by rw [upd_ne (hm b _ q fun z => z)]; exact q, fun b u xs q => by rw [upd_ne (hm b _ q fun z => z)]; exact q, fun b ps q => ⟨#[], by rw [upd_ne (hm b _ q fun z => z), q]; simp⟩⟩
  by_cases hbe : b = e
  · subst hbe; exact heo
  · exact ⟨u, k b u hbe q⟩
end

/-! ### the heap without what is tracked -/
def trk (h : Heap) (H : Hp) : List Addr := (List.range h.objs.size).filter fun a => (H a).isSome
def hidT (h : Heap) (H : Hp) : Heap := PySem.W.hideAll h (trk h H)
theorem hidT_size (h : Heap) (H : Hp) : (hidT h H).objs.size = h.objs.size := PySem.W.hideAll_size _ _
theorem hidT_get {h : Heap} {H : Hp} {b : Addr} {o : Obj} (e : h.get? b = some o) (n : H b = none) : (hidT h H).get? b = some o :=
  PySem.W.hideAll_get _ e fun hm => by
    have q : (H b).isSome = true := (List.mem_filter.mp hm).2
    rw [n] at q; simp at q
theorem of_hidT {h : Heap} {H : Hp} {b : Addr} {o : Obj} (e : (hidT h H).get? b = some o) : h.get? b = some o ∧ H b = none := by
  have e' : h.get? b = some o := PySem.W.of_hideAll (trk h H) e
  refine ⟨e', ?_⟩
  cases q : H b with
  | none => rfl
  | some x =>
    have hm : b ∈ trk h H := List.mem_filter.mpr ⟨List.mem_range.mpr (Heap.lt_size e'), by simp [q]⟩
    have z : (hidT h H).get? b = none := PySem.W.hideAll_none (trk h H) hm
    rw [z] at e; cases e

/-! ### OpenK's ledger, filled with every new object but one -/
end L2

namespace L2
open PySem PySem.Spec PyProof.Rows

/-- the module's facts, over the base: the heap at the law's entry without what is tracked there -/
structure Mod (K : PySem.W.Frag) (mg : Str → Option Value) (base : Heap) : Prop where
  kin : K.In base
  glob : base.Ns mainGlobals mg
  blt : ∃ mb, base.Ns builtinsNs mb ∧ ∀ x : Str, x ≠ "__name__" → mb x = bootBuiltins x
  nolimit : base.NoLimit

/-- the context: a def's body (or a comprehension's block) running. base: fixed through the whole law; s₀, H₀: the entry; outer: the frames whose slots others may change (a def's callers); stack: all frames that run;
   ex: iterators that were made ahead of the entry and are walked here (a comprehension's); fn: the names whose cells were made at the entry (a def: all; a comprehension's block: its own); calm: not within an except suite; pn: pins that every state bears; xe: what is wanted of an exception that leaves the code -/
structure Cx where
  prog : Program
  w : World
  K : PySem.W.Frag
  mg : Str → Option Value
  base : Heap
  A : Around
  N : List Str
  s₀ : Shared
  H₀ : Hp
  env : Env
  outer : List Env
  stack : List Env
  ex : List Addr
  fn : Str → Bool
  calm : Bool
  pn : List (Addr × Obj)
  xe : Value → Shared → Prop
/-- the callers' frames -/
def frs (l : List Env) : List Addr := l.filterMap (·.frame)
abbrev Cx.fs (X : Cx) : List Addr := frs X.outer

def Vis (sc : Scope) (x : Str) : Prop := sc.names.lookup x = some .local ∨ sc.names.lookup x = some .cell ∨ sc.names.lookup x = some .free
def Loc (sc : Scope) (x : Str) : Prop := sc.names.lookup x = some .local ∨ sc.names.lookup x = some .cell
def Look (env : Env) (h : Heap) (m : Str → Option Value) (x : Str) (u : Value) : Prop :=
  (env.kindOf x = some .local ∧ m x = some u) ∨ ((env.kindOf x = some .cell ∨ env.kindOf x = some .free) ∧ ∃ c, env.cells.lookup x = some c ∧ h.IsCell c (some u))

structure Cx.Ok (X : Cx) : Prop where
  mod : Mod X.K X.mg X.base
  kind : X.env.scope.kind = .function
  glob : X.env.globals = mainGlobals
  blt : X.env.builtins = builtinsNs
  above : X.s₀.heap.objs.size ≤ X.env.locals
  inj : ∀ x y c, X.env.cells.lookup x = some c → X.env.cells.lookup y = some c → x = y
  has : ∀ x, (X.env.kindOf x = some .cell ∨ X.env.kindOf x = some .free) → ∃ c, X.env.cells.lookup x = some c
  cab : ∀ x c, X.fn x = true → X.env.cells.lookup x = some c → X.s₀.heap.objs.size ≤ c
  hd : X.calm = true → X.A.handled = none
  frames : X.A.frames = some X.stack
  stk : X.stack = X.outer ∨ (X.stack = X.env :: X.outer ∧ X.env.frame = some X.env.locals)
  exf : ∀ b ∈ X.ex, b ≠ X.env.locals ∧ ∀ x c, X.env.cells.lookup x = some c → c ≠ b
  bs : ∀ b o, X.base.get? b = some o → X.s₀.heap.get? b = some o ∧ X.H₀ b = none
  bsz : X.base.objs.size ≤ X.s₀.heap.objs.size
  noex : ∀ b o, X.base.get? b = some o → b ∉ X.ex
  exfs : ∀ b ∈ X.ex, b ∉ X.fs
  funs : X.s₀.heap.FunFrames X.base X.outer
  frf : ∀ b ∈ X.fs, X.H₀ b = none

structure Inv (X : Cx) (pins : List (Addr × Obj)) (σ : List (Option V)) (H : Hp) (s : Shared) : Prop where
  ok : X.Ok
  os : s.os = X.s₀.os
  bare : AllBare s.gens
  base : Un X.fs X.ex X.H₀ H X.s₀.heap s.heap
  loc : ∃ m, s.heap.Ns X.env.locals m ∧ ∀ (i : Nat) (x : Str) (v : V), X.N[i]? = some x → σ[i]? = some (some v) → Vis X.env.scope x → ∃ u, RelV v u ∧ Look X.env s.heap m x u
  cell : ∀ x c, X.env.cells.lookup x = some c → ∃ v, s.heap.IsCell c v
  free : H X.env.locals = none
  freeC : ∀ x c, X.env.cells.lookup x = some c → H c = none
  pin : ∀ p ∈ X.pn ++ pins, s.heap.get? p.1 = some p.2 ∧ H p.1 = none ∧ p.1 ≠ X.env.locals ∧ p.1 ∉ X.fs ∧ ∀ v, p.2.data ≠ .cell v
  hok : HOk X.prog X.w H s.heap
  len : σ.length = X.N.length

section
variable {X : Cx} {pins : List (Addr × Obj)} {σ : List (Option V)} {H H' : Hp} {s : Shared} {h' : Heap}

theorem Cx.Ok.nofr (ok : X.Ok) {b : Addr} {o : Obj} (e : X.base.get? b = some o) : b ∉ X.fs := fun hb => by
  have := (ok.funs.mem hb).1
  rw [e] at this; cases this
theorem Inv.bs (I : Inv X pins σ H s) : ∀ b o, X.base.get? b = some o → s.heap.get? b = some o ∧ H b = none := fun b o e =>
  ⟨I.base.keep b o (I.ok.bs b o e).1 (I.ok.bs b o e).2 (I.ok.nofr e) (I.ok.noex b o e), I.base.free b o (I.ok.bs b o e).1 (I.ok.bs b o e).2 (I.ok.noex b o e)⟩
theorem Inv.bk (I : Inv X pins σ H s) : ∀ b o, X.base.get? b = some o → s.heap.get? b = some o := fun b o e => (I.bs b o e).1
theorem Inv.mod (I : Inv X pins σ H s) : Mod X.K X.mg X.base := I.ok.mod
theorem Inv.kIn (I : Inv X pins σ H s) : X.K.In s.heap := I.ok.mod.kin.keeps I.bk
theorem Inv.lt (I : Inv X pins σ H s) : X.env.locals < s.heap.objs.size := let ⟨_, hn, _⟩ := I.loc; hn.lt
theorem Inv.sz (I : Inv X pins σ H s) : X.s₀.heap.objs.size ≤ s.heap.objs.size := Nat.le_trans I.ok.above (Nat.le_of_lt I.lt)
theorem Inv.nofs (I : Inv X pins σ H s) {a : Addr} (h : s.heap.objs.size ≤ a) : a ∉ X.fs := fun hb => by
  obtain ⟨_, o, ho, _⟩ := I.ok.funs.mem hb
  exact absurd (Nat.lt_of_lt_of_le (Heap.lt_size ho) (Nat.le_trans I.sz h)) (Nat.lt_irrefl _)
theorem Inv.cne (I : Inv X pins σ H s) : ∀ x c, X.env.cells.lookup x = some c → c ≠ X.env.locals := fun x c e z => by
  obtain ⟨v, o, ho, hd⟩ := I.cell x c e
  obtain ⟨m, ⟨o', es, ep, ho', hd', _⟩, _⟩ := I.loc
  rw [z, ho'] at ho; cases ho; rw [hd'] at hd; cases hd
theorem Inv.funs (I : Inv X pins σ H s) : s.heap.FunFrames X.base X.outer := by
  have all : ∀ (l : List Env), (∀ b ∈ frs l, b ∈ X.fs) → X.s₀.heap.FunFrames X.base l → s.heap.FunFrames X.base l := by
    intro l
    induction l with
    | nil => intro _ _; trivial
    | cons env r ih =>
      intro hs hl
      obtain ⟨hk, ⟨L, o, hf, hn, ho, hd⟩, hr⟩ := hl
      have hL : L ∈ X.fs := hs L (by unfold frs; rw [List.filterMap_cons, hf]; exact List.mem_cons_self)
      obtain ⟨sl, e⟩ := I.base.slot L o ho (I.ok.frf L hL) hL fun z => I.ok.exfs L z hL
      exact ⟨hk, ⟨L, _, hf, hn, e, hd⟩, ih (fun b hb => hs b (by unfold frs; rw [List.filterMap_cons, hf]; exact List.mem_cons_of_mem _ hb)) hr⟩
  exact all X.outer (fun _ hb => hb) I.ok.funs

/-- the frames that run, for a call -/
theorem Inv.stack (I : Inv X pins σ H s) : s.heap.FunFrames X.base X.stack := by
  rcases I.ok.stk with e | ⟨e, hf⟩
  · rw [e]; exact I.funs
  · rw [e]
    obtain ⟨m, hn, _⟩ := I.loc
    refine .cons (by rw [I.ok.kind]; decide) hf hn ?_ I.funs
    exact Heap.get?_none_of_le (Nat.le_trans I.ok.bsz I.ok.above)
theorem Inv.stkSub (I : Inv X pins σ H s) : ∀ b ∈ frs X.stack, b ∈ X.env.locals :: X.fs := fun b hb => by
  rcases I.ok.stk with e | ⟨e, hf⟩
  · rw [e] at hb; exact List.mem_cons_of_mem _ hb
  · rw [e] at hb
    unfold frs at hb
    rw [List.filterMap_cons, hf] at hb
    exact hb
theorem Inv.stkFree (I : Inv X pins σ H s) : ∀ b ∈ frs X.stack, H b = none := fun b hb => by
  rcases List.mem_cons.mp (I.stkSub b hb) with e | hb
  · rw [e]; exact I.free
  · obtain ⟨_, o, ho, _⟩ := I.ok.funs.mem hb
    exact I.base.free b o ho (I.ok.frf b hb) fun z => I.ok.exfs b z hb

/-- THE STEP: the untracked objects but the frame and the records at ch are kept (the callers' frames up to slots), the frame's map is kept, the new abstract heap is held -/
theorem Inv.step {g' : Array GenState} {t' : Nat} {d' : Drawn} {ch : List Addr} (I : Inv X pins σ H s)
    (hch : ∀ b ∈ ch, (b ∈ X.ex ∨ X.s₀.heap.objs.size ≤ b) ∧ b ≠ X.env.locals ∧ (∀ x c, X.env.cells.lookup x = some c → c ≠ b) ∧ ∀ p ∈ X.pn ++ pins, p.1 ≠ b)
    (keep : ∀ b o, b ≠ X.env.locals → b ∉ X.fs → b ∉ ch → s.heap.get? b = some o → H b = none → h'.get? b = some o)
    (slot : ∀ b o, b ≠ X.env.locals → b ∈ X.fs → b ∉ ch → s.heap.get? b = some o → H b = none → ∃ sl, h'.get? b = some { o with slots := sl }) (free : ∀ b o, b ∉ ch → s.heap.get? b = some o → H b = none → H' b = none)
    (there : ∀ b o, b ∉ ch → s.heap.get? b = some o → ∃ o', h'.get? b = some o')
    (tups : ∀ b xs, H b = some (.tup xs) → H' b = some (.tup xs)) (frzs : ∀ b o u, H b = some (.frz o u) → H' b = some (.frz o u)) (tbls : ∀ b ps, H b = some (.tbl ps) → ∃ more, H' b = some (.tbl (ps ++ more)))
    (ns : ∀ m, s.heap.Ns X.env.locals m → h'.Ns X.env.locals m) (hok : HOk X.prog X.w H' h') (hg : AllBare g') :
    Inv X pins σ H' { s with heap := h', gens := g', drawn := d', toks := t' } := by
  have neL : ∀ b o, X.s₀.heap.get? b = some o → b ≠ X.env.locals := fun b o e => Nat.ne_of_lt (Nat.lt_of_lt_of_le (Heap.lt_size e) I.ok.above)
  have neC : ∀ b o, X.s₀.heap.get? b = some o → b ∉ X.ex → b ∉ ch := fun b o e hx hb => by
    rcases (hch b hb).1 with z | z
    · exact hx z
    · exact absurd (Nat.lt_of_lt_of_le (Heap.lt_size e) z) (Nat.lt_irrefl _)
  have cellK : ∀ x c, X.env.cells.lookup x = some c → ∀ v, s.heap.IsCell c v → h'.IsCell c v := fun x c e v ⟨o, ho, hd⟩ => by
    have nch : c ∉ ch := fun z => (hch c z).2.2.1 x c e rfl
    by_cases hc : c ∈ X.fs
    · obtain ⟨sl, q⟩ := slot c o (I.cne x c e) hc nch ho (I.freeC x c e)
      exact ⟨_, q, hd⟩
    · exact ⟨o, keep c o (I.cne x c e) hc nch ho (I.freeC x c e), hd⟩
  refine ⟨I.ok, I.os, hg, ⟨fun b o e n hb hx => ?_, fun b o e n hb hx => ?_, fun b o e n hx => ?_, fun b o e hx => ?_, fun b xs e => tups b xs (I.base.tups b xs e), fun b o xs e => frzs b o xs (I.base.frzs b o xs e), fun b ps e => ?_⟩, ?_, fun x c e => ?_, ?_, fun x c e => ?_, fun p hp => ?_, hok, I.len⟩
  · exact keep b o (neL b o e) hb (neC b o e hx) (I.base.keep b o e n hb hx) (I.base.free b o e n hx)
  · obtain ⟨sl, e1⟩ := I.base.slot b o e n hb hx
    obtain ⟨sl', e2⟩ := slot b _ (neL b o e) hb (neC b o e hx) e1 (I.base.free b o e n hx)
    exact ⟨sl', e2⟩
  · obtain ⟨o', e1⟩ := I.base.there b o e hx
    exact free b o' (neC b o e hx) e1 (I.base.free b o e n hx)
  · obtain ⟨o', e1⟩ := I.base.there b o e hx
    exact there b o' (neC b o e hx) e1
  · obtain ⟨m1, e1⟩ := I.base.tbls b ps e
    obtain ⟨m2, e2⟩ := tbls b _ e1
    exact ⟨m1 ++ m2, by rw [e2, Array.append_assoc]⟩
  · obtain ⟨m, hn, hl⟩ := I.loc
    refine ⟨m, ns m hn, fun i x v e1 e2 e3 => ?_⟩
    obtain ⟨u, r, l⟩ := hl i x v e1 e2 e3
    refine ⟨u, r, ?_⟩
    rcases l with l | ⟨k, c, e, z⟩
    · exact .inl l
    · exact .inr ⟨k, c, e, cellK x c e _ z⟩
  · obtain ⟨v, z⟩ := I.cell x c e
    exact ⟨v, cellK x c e v z⟩
  · obtain ⟨m, ⟨o, _, _, ho, _⟩, _⟩ := I.loc
    exact free _ o (fun z => (hch _ z).2.1 rfl) ho I.free
  · obtain ⟨v, o, ho, hd⟩ := I.cell x c e
    exact free c o (fun z => (hch c z).2.2.1 x c e rfl) ho (I.freeC x c e)
  · obtain ⟨e, n, ne, nf, d⟩ := I.pin p hp
    have nch : p.1 ∉ ch := fun z => (hch p.1 z).2.2.2 p hp rfl
    exact ⟨keep p.1 p.2 ne nf nch e n, free p.1 p.2 nch e n, ne, nf, d⟩
/-- .. where the frame's own object is kept too -/
theorem Inv.un {t' : Nat} (I : Inv X pins σ H s) (u : Un X.fs [] H H' s.heap h') (hok : HOk X.prog X.w H' h') : Inv X pins σ H' { s with heap := h', toks := t' } := by
  obtain ⟨m, ⟨o, es, ep, ho, r⟩, _⟩ := id I.loc
  obtain ⟨sl, hL⟩ := u.any ho I.free (by simp)
  exact I.step (g' := s.gens) (d' := s.drawn) (ch := []) (fun _ z => nomatch z) (fun b o _ hb _ e n => u.keep b o e n hb (by simp)) (fun b o _ hb _ e n => u.slot b o e n hb (by simp)) (fun b o _ e n => u.free b o e n (by simp)) (fun b o _ e => u.there b o e (by simp)) u.tups u.frzs u.tbls (fun m' hm => by
    obtain ⟨o', es', ep', ho', r'⟩ := hm
    rw [ho] at ho'; cases ho'
    exact ⟨_, es', ep', hL, r'⟩) hok I.bare
/-- behind a call (or a comprehension's block): the slots of this frame may have changed too, the records at ch may have turned -/
theorem Inv.call {g' : Array GenState} {t' : Nat} {d' : Drawn} {ch : List Addr} (I : Inv X pins σ H s) (u : Un (frs X.stack) ch H H' s.heap h') (hok : HOk X.prog X.w H' h') (hg : AllBare g')
    (hch : ∀ b ∈ ch, (b ∈ X.ex ∨ X.s₀.heap.objs.size ≤ b) ∧ b ≠ X.env.locals ∧ (∀ x c, X.env.cells.lookup x = some c → c ≠ b) ∧ ∀ p ∈ X.pn ++ pins, p.1 ≠ b) :
    Inv X pins σ H' { s with heap := h', gens := g', drawn := d', toks := t' } := by
  obtain ⟨m, ⟨o, es, ep, ho, r⟩, _⟩ := id I.loc
  obtain ⟨sl, hL⟩ := u.any ho I.free fun z => (hch _ z).2.1 rfl
  exact I.step (ch := ch) hch (fun b o hL hb hc e n => u.keep b o e n (fun z => (List.mem_cons.mp (I.stkSub b z)).elim hL hb) hc) (fun b o _ _ hc e n => u.any e n hc) (fun b o hc e n => u.free b o e n hc) (fun b o hc e => u.there b o e hc) u.tups u.frzs u.tbls (fun m' hm => by
    obtain ⟨o', es', ep', ho', r'⟩ := hm
    rw [ho] at ho'; cases ho'
    exact ⟨_, es', ep', hL, r'⟩) hok hg
/-- an untracked record of ours (an iterator) has turned -/
theorem Inv.turned {t' : Nat} {it : Addr} (I : Inv X pins σ H s) (k : ∀ b o, b ≠ it → s.heap.get? b = some o → h'.get? b = some o) (hn : H it = none) (hL : it ≠ X.env.locals)
    (h1 : it ∈ X.ex ∨ X.s₀.heap.objs.size ≤ it) (h2 : ∀ x c, X.env.cells.lookup x = some c → c ≠ it) (h3 : ∀ p ∈ X.pn ++ pins, p.1 ≠ it) : Inv X pins σ H { s with heap := h', toks := t' } := by
  have nit : ∀ b u, H b = some u → b ≠ it := fun b u e z => by rw [z, hn] at e; cases e
  refine I.step (g' := s.gens) (d' := s.drawn) (ch := [it]) (fun b hb => ?_) (fun b o _ _ hc e _ => k b o (fun z => hc (by simp [z])) e) (fun b o _ _ hc e _ => ⟨o.slots, k b o (fun z => hc (by simp [z])) e⟩) (fun _ _ _ _ n => n)
    (fun b o hc e => ⟨o, k b o (fun z => hc (by simp [z])) e⟩) (fun _ _ e => e) (fun _ _ _ e => e) (fun b ps e => ⟨#[], by rw [e]; simp⟩) (fun m hm => ?_) (fun b u e => ?_) I.bare
  · have e : b = it := by simpa using hb
    subst e
    exact ⟨h1, hL, h2, h3⟩
  · obtain ⟨o, es, ep, ho, r⟩ := hm
    exact ⟨o, es, ep, k _ o (Ne.symm hL) ho, r⟩
  · refine (I.hok b u e).stay (fun c v hc q => k c v ?_ q) (fun _ q => q) fun _ _ q => q
    rcases hc with z | z
    · rw [z]; exact nit b u e
    · exact nit c _ z
theorem Inv.tok (I : Inv X pins σ H s) (t : Nat) : Inv X pins σ H { s with toks := t } := I.un (h' := s.heap) (t' := t) Un.refl I.hok
/-- all objects kept -/
theorem Inv.kept {t' : Nat} (I : Inv X pins σ H s) (k : ∀ b u, s.heap.get? b = some u → h'.get? b = some u) : Inv X pins σ H { s with heap := h', toks := t' } := I.un (Un.kept k) (I.hok.kept k)
/-- a new object laid and tracked -/
theorem Inv.laid {a : Addr} {o : HO} {t' : Nat} (I : Inv X pins σ H s) (k : ∀ b u, s.heap.get? b = some u → h'.get? b = some u) (hp : s.heap.objs.size ≤ a) (new : ObjOk X.prog X.w (upd H a o) h' a o) :
    Inv X pins σ (upd H a o) { s with heap := h', toks := t' } := I.un (Un.laid k hp (I.hok.fresh hp)) (I.hok.laid k hp new)
/-- an object written -/
theorem Inv.write {x e : Addr} {o : HO} {t' : Nat} (I : Inv X pins σ H s) (mu : Mut (H x)) (he : e = x ∨ H e = some (.own x)) (k : ∀ b u, b ≠ e → s.heap.get? b = some u → h'.get? b = some u) (heo : ∃ u, h'.get? e = some u)
    (new : ObjOk X.prog X.w (upd H x o) h' x o) : Inv X pins σ (upd H x o) { s with heap := h', toks := t' } := I.un (Un.write mu he k heo) (I.hok.write mu he k heo new)
theorem Inv.pins_of {pins' : List (Addr × Obj)} (I : Inv X pins σ H s) (h : ∀ p ∈ pins', s.heap.get? p.1 = some p.2 ∧ H p.1 = none ∧ p.1 ≠ X.env.locals ∧ p.1 ∉ X.fs ∧ ∀ v, p.2.data ≠ .cell v) : Inv X pins' σ H s :=
  ⟨I.ok, I.os, I.bare, I.base, I.loc, I.cell, I.free, I.freeC, fun p hp => (List.mem_append.mp hp).elim (fun z => I.pin p (List.mem_append_left _ z)) (h p), I.hok, I.len⟩

theorem nodup_ix {N : List Str} (hN : N.Nodup) {i j : Nat} {x : Str} (a : N[i]? = some x) (b : N[j]? = some x) : i = j := by
  obtain ⟨h1, e1⟩ := List.getElem?_eq_some_iff.mp a
  obtain ⟨h2, e2⟩ := List.getElem?_eq_some_iff.mp b
  exact (List.getElem_inj hN).mp (e1.trans e2.symm)

/-- a name is stored; what changed -/
theorem store_ok2 {M : Model} {A : Around} {E : Value → Shared → Prop} {i : Nat} {x : Str} {v : V} {u : Value} {Q : Unit → Shared → Prop} (I : Inv X pins σ H s) (hN : X.N.Nodup) (hi : X.N[i]? = some x) (hx : Loc X.env.scope x) (r : RelV v u)
    (h : ∀ s', Inv X pins (σ.set i (some v)) H s' → (∃ a, Heap.SameBut a s.heap s'.heap ∧ (a = X.env.locals ∨ X.env.cells.lookup x = some a)) → Q () s') (hf : X.fn x = true ∨ X.env.scope.names.lookup x = some .local := by first | exact .inl rfl | exact .inr rfl | assumption) : wpAny M A (storeName X.env x u) Q E s := by
  obtain ⟨m, hn, hl⟩ := id I.loc
  have hcls : (X.env.scope.kind == .class || (X.env.scope.kind == .module && X.env.locals != X.env.globals)) = false := by rw [I.ok.kind]; rfl
  have hiσ : i < σ.length := by rw [I.len]; exact (List.getElem?_eq_some_iff.mp hi).1
  have cne := I.cne
  have tracked : ∀ {a : Addr} {h' : Heap}, (∃ o, s.heap.get? a = some o ∧ H a = none) → Heap.SameBut a s.heap h' → HOk X.prog X.w H h' := fun {a h'} ha hs b ob e => by
    obtain ⟨_, _, hfree⟩ := ha
    refine (I.hok b ob e).stay (fun c w' hc q => (hs.2 c ?_).trans q) (fun _ q => q) fun _ _ q => q
    rintro rfl
    rcases hc with rfl | hc
    · rw [hfree] at e; cases e
    · rw [hfree] at hc; cases hc
  rcases hx with hk | hk
  · refine wpAny_storeName_local hk hn (fun h' hn' hs => ?_) hcls
    obtain ⟨oL, _, _, hoL, _⟩ := id hn
    refine h _ ⟨I.ok, I.os, I.bare, ⟨fun b o e n hb hx => ?_, fun b o e n hb hx => ?_, I.base.free, fun b o e hx => ?_, I.base.tups, I.base.frzs, I.base.tbls⟩, ⟨_, hn', fun j y v' e1 e2 e3 => ?_⟩, fun y c e => ?_, I.free, I.freeC, fun p hp => ?_, tracked ⟨oL, hoL, I.free⟩ hs, by simpa using I.len⟩ ⟨_, hs, .inl rfl⟩
    · exact (hs.2 b (Nat.ne_of_lt (Nat.lt_of_lt_of_le (Heap.lt_size e) I.ok.above))).trans (I.base.keep b o e n hb hx)
    · obtain ⟨sl, e1⟩ := I.base.slot b o e n hb hx
      exact ⟨sl, (hs.2 b (Nat.ne_of_lt (Nat.lt_of_lt_of_le (Heap.lt_size e) I.ok.above))).trans e1⟩
    · obtain ⟨o', e1⟩ := I.base.there b o e hx
      exact ⟨o', (hs.2 b (Nat.ne_of_lt (Nat.lt_of_lt_of_le (Heap.lt_size e) I.ok.above))).trans e1⟩
    · by_cases hj : j = i
      · subst hj
        rw [hi] at e1; cases e1
        rw [List.getElem?_set_self hiσ] at e2
        cases e2
        exact ⟨u, r, .inl ⟨hk, by simp⟩⟩
      · rw [List.getElem?_set_ne (Ne.symm hj)] at e2
        obtain ⟨u', r', q⟩ := hl j y v' e1 e2 e3
        refine ⟨u', r', ?_⟩
        rcases q with ⟨k, e⟩ | ⟨k, c, e, z⟩
        · refine .inl ⟨k, ?_⟩
          have : y ≠ x := fun e => hj (nodup_ix hN e1 (e ▸ hi))
          simp [this, e]
        · exact .inr ⟨k, c, e, z.sameBut hs (cne y c e)⟩
    · obtain ⟨w', z⟩ := I.cell y c e
      exact ⟨w', z.sameBut hs (cne y c e)⟩
    · obtain ⟨e, n, ne, nf, d⟩ := I.pin p hp
      exact ⟨(hs.2 p.1 ne).trans e, n, ne, nf, d⟩
  · have hfn : X.fn x = true := by
      rcases hf with z | z
      · exact z
      · rw [z] at hk; cases hk
    obtain ⟨c, hc⟩ := I.ok.has x (.inl hk)
    obtain ⟨w', z⟩ := I.cell x c hc
    refine wpAny_storeName_cell I.ok.kind hk hc z (fun h' hc' hs => ?_)
    obtain ⟨oc, hoc, hocd⟩ := id z
    refine h { s with heap := h' } ⟨I.ok, I.os, I.bare, ⟨fun b o e n hb hx => ?_, fun b o e n hb hx => ?_, I.base.free, fun b o e hx => ?_, I.base.tups, I.base.frzs, I.base.tbls⟩, ⟨m, hn.sameBut hs (Ne.symm (cne x c hc)), fun j y v' e1 e2 e3 => ?_⟩, fun y c' e => ?_, I.free, I.freeC, fun p hp => ?_, tracked ⟨oc, hoc, I.freeC x c hc⟩ hs, by simpa using I.len⟩ ⟨c, hs, .inr hc⟩
    · exact (hs.2 b (Nat.ne_of_lt (Nat.lt_of_lt_of_le (Heap.lt_size e) (I.ok.cab x c hfn hc)))).trans (I.base.keep b o e n hb hx)
    · obtain ⟨sl, e1⟩ := I.base.slot b o e n hb hx
      exact ⟨sl, (hs.2 b (Nat.ne_of_lt (Nat.lt_of_lt_of_le (Heap.lt_size e) (I.ok.cab x c hfn hc)))).trans e1⟩
    · obtain ⟨o', e1⟩ := I.base.there b o e hx
      exact ⟨o', (hs.2 b (Nat.ne_of_lt (Nat.lt_of_lt_of_le (Heap.lt_size e) (I.ok.cab x c hfn hc)))).trans e1⟩
    · by_cases hj : j = i
      · subst hj
        rw [hi] at e1; cases e1
        rw [List.getElem?_set_self hiσ] at e2
        cases e2
        exact ⟨u, r, .inr ⟨.inl hk, c, hc, hc'⟩⟩
      · rw [List.getElem?_set_ne (Ne.symm hj)] at e2
        obtain ⟨u', r', q⟩ := hl j y v' e1 e2 e3
        refine ⟨u', r', ?_⟩
        rcases q with q | ⟨k, c', e, z'⟩
        · exact .inl q
        · refine .inr ⟨k, c', e, z'.sameBut hs ?_⟩
          rintro rfl
          exact hj (nodup_ix hN e1 (I.ok.inj _ _ _ e hc ▸ hi))
    · by_cases hcc : c' = c
      · subst hcc; exact ⟨_, hc'⟩
      · obtain ⟨w2, z2⟩ := I.cell y c' e
        exact ⟨w2, z2.sameBut hs hcc⟩
    · obtain ⟨e, n, ne, nf, d⟩ := I.pin p hp
      refine ⟨(hs.2 p.1 ?_).trans e, n, ne, nf, d⟩
      intro q
      rw [q, hoc] at e
      have q' : oc = p.2 := Option.some.inj e
      exact d w' (by rw [← q']; exact hocd)
theorem store_ok {M : Model} {A : Around} {E : Value → Shared → Prop} {i : Nat} {x : Str} {v : V} {u : Value} {Q : Unit → Shared → Prop} (I : Inv X pins σ H s) (hN : X.N.Nodup) (hi : X.N[i]? = some x) (hx : Loc X.env.scope x) (r : RelV v u)
    (h : ∀ s', Inv X pins (σ.set i (some v)) H s' → Q () s') (hf : X.fn x = true ∨ X.env.scope.names.lookup x = some .local := by first | exact .inl rfl | exact .inr rfl | assumption) : wpAny M A (storeName X.env x u) Q E s :=
  store_ok2 I hN hi hx r (fun s' I' _ => h s' I') hf
/-- behind a call or a block, the state as it is -/
theorem Inv.call' {s' : Shared} {ch : List Addr} (I : Inv X pins σ H s) (ho : s'.os = s.os) (u : Un (frs X.stack) ch H H' s.heap s'.heap) (hok : HOk X.prog X.w H' s'.heap) (hg : AllBare s'.gens)
    (hch : ∀ b ∈ ch, (b ∈ X.ex ∨ X.s₀.heap.objs.size ≤ b) ∧ b ≠ X.env.locals ∧ (∀ x c, X.env.cells.lookup x = some c → c ≠ b) ∧ ∀ p ∈ X.pn ++ pins, p.1 ≠ b) : Inv X pins σ H' s' := by
  obtain ⟨h', g', d', t', o'⟩ := s'
  have e : o' = s.os := ho
  subst e
  exact I.call (g' := g') (t' := t') (d' := d') u hok hg hch
end

/-! ### the judgements -/
/-- an exception: its class, its own dict's address (where it has one), the abstract heap behind it -/
abbrev XK := Value → Option Addr → Hp → Prop
abbrev St := List (Option V)
abbrev VK := V → Hp → Prop
/-- an expression's reading; a test's; an argument list's -/
abbrev TE := St → Hp → VK → Prop
abbrev TT := St → Hp → (Bool → Hp → Prop) → Prop
abbrev TA := St → Hp → (List V → Hp → Prop) → Prop
/-- what is wanted behind a statement -/
structure Ends where
  nx : St → Hp → Prop
  rt : VK
  bk : St → Hp → Prop := fun _ _ => False
  ct : St → Hp → Prop := fun _ _ => False
abbrev TS := Ends → St → Hp → Prop

def EP (X : Cx) (pins : List (Addr × Obj)) (σ : St) (Q : VK) (u : Value) (s' : Shared) : Prop := ∃ v H', Inv X pins σ H' s' ∧ RelV v u ∧ Q v H'
def TP (X : Cx) (pins : List (Addr × Obj)) (σ : St) (Q : Bool → Hp → Prop) (b : Bool) (s' : Shared) : Prop := ∃ H', Inv X pins σ H' s' ∧ Q b H'
def AP (X : Cx) (pins : List (Addr × Obj)) (σ : St) (Q : List V → Hp → Prop) (us : List Value) (s' : Shared) : Prop := ∃ vs H', Inv X pins σ H' s' ∧ Vals vs us ∧ Q vs H'
def SP (X : Cx) (pins : List (Addr × Obj)) (D : Ends) (f : Flow) (s' : Shared) : Prop :=
  match f with
  | .next => ∃ σ' H', Inv X pins σ' H' s' ∧ D.nx σ' H'
  | .brk => ∃ σ' H', Inv X pins σ' H' s' ∧ D.bk σ' H'
  | .cont => ∃ σ' H', Inv X pins σ' H' s' ∧ D.ct σ' H'
  | .ret u => ∃ v σ' H', Inv X pins σ' H' s' ∧ RelV v u ∧ D.rt v H'

def PE (X : Cx) (e : Expr) (t : TE) : Prop :=
  ∀ (pins : List (Addr × Obj)) (s : Shared) (σ : St) (H : Hp) (Q : VK), Inv X pins σ H s → t σ H Q → wpAny (model X.prog X.w) X.A (eval e X.env) (EP X pins σ Q) X.xe s
def PT (X : Cx) (e : Expr) (t : TT) : Prop :=
  ∀ (pins : List (Addr × Obj)) (s : Shared) (σ : St) (H : Hp) (Q : Bool → Hp → Prop), Inv X pins σ H s → t σ H Q → wpAny (model X.prog X.w) X.A (isTrue e X.env (eval e X.env)) (TP X pins σ Q) X.xe s
/-- a test whatever its 'whole' is (and, or) -/
def PW (X : Cx) (e : Expr) (t : TT) : Prop :=
  ∀ (whole : Sem Value) (pins : List (Addr × Obj)) (s : Shared) (σ : St) (H : Hp) (Q : Bool → Hp → Prop), Inv X pins σ H s → t σ H Q → wpAny (model X.prog X.w) X.A (isTrue e X.env whole) (TP X pins σ Q) X.xe s
theorem PW.pt {X : Cx} {e : Expr} {t : TT} (h : PW X e t) : PT X e t := h _
/-- an argument list (no star), from the left -/
def PA (X : Cx) (es : List Expr) (t : TA) : Prop :=
  ∀ (pos : Pos) (pins : List (Addr × Obj)) (s : Shared) (σ : St) (H : Hp) (Q : List V → Hp → Prop), Inv X pins σ H s → t σ H Q → wpAny (model X.prog X.w) X.A (spliced (backTo pos (starEach es X.env))) (AP X pins σ Q) X.xe s
def PS (X : Cx) (st : Stmt) (t : TS) : Prop :=
  ∀ (pins : List (Addr × Obj)) (s : Shared) (σ : St) (H : Hp) (D : Ends), Inv X pins σ H s → t D σ H → wpAny (model X.prog X.w) X.A (exec st X.env) (SP X pins D) X.xe s
def PSs (X : Cx) (st : List Stmt) (t : TS) : Prop :=
  ∀ (pins : List (Addr × Obj)) (s : Shared) (σ : St) (H : Hp) (D : Ends), Inv X pins σ H s → t D σ H → wpAny (model X.prog X.w) X.A (execs st X.env) (SP X pins D) X.xe s
/-- weaken the end -/
theorem thn {α : Type} {t : Sem α} {Q Q' : α → Shared → Prop} {M : Model} {A : Around} {E : Value → Shared → Prop} {s : Shared} (h : wpAny M A t Q E s) (hQ : ∀ a s, Q a s → Q' a s) : wpAny M A t Q' E s := wpAny_mono h hQ fun _ _ x => x
end L2

namespace L2
open PySem PySem.Spec PyProof.Rows
section
variable {X : Cx}

/-! ### names and constants -/
def tVar (i : Nat) : TE := fun σ H Q => ∃ v, σ[i]? = some (some v) ∧ Q v H
def tC (v : V) : TE := fun _ H Q => Q v H
theorem pe_var {i : Nat} {x : Str} {pos : Pos} (hN : X.N[i]? = some x) (hv : Vis X.env.scope x) (hd : (x == ("__debug__" : Str)) = false := by decide) (hcd : (x == ("__classdict__" : Str)) = false := by decide) : PE X (.Name x pos) (tVar i) := by
  intro pins s σ H Q I h
  obtain ⟨v, e, h⟩ := h
  obtain ⟨m, hn, hl⟩ := I.loc
  obtain ⟨u, r, l⟩ := hl i x v hN e hv
  have fin : EP X pins σ Q u s := ⟨v, H, I, r, h⟩
  rcases l with ⟨hk, hm⟩ | ⟨hk, c, hc, hcell⟩
  · exact wpAny_Name (wpAny_loadName_local I.ok.kind hk hn hm fin) hd
  · rcases hk with hk | hk
    · exact wpAny_Name (wpAny_loadName_cell I.ok.kind hk hc hcell fin) hd
    · exact wpAny_Name (wpAny_loadName_free I.ok.kind hk hc hcell fin hcd) hd
theorem pe_int {i j pos} : PE X (.Constant (.int i) j pos) (tC (.int i)) := fun _ _ _ H _ I h => wpAny_Constant_int ⟨.int i, H, I.tok _, ⟨_, rfl⟩, h⟩
theorem pe_bl {b j pos} : PE X (.Constant (.bool b) j pos) (tC (.bl b)) := fun _ _ _ H _ I h => Constant_bool ⟨.bl b, H, I, rfl, h⟩
theorem pe_non {j pos} : PE X (.Constant .none j pos) (tC .non) := fun _ _ _ H _ I h => Constant_none ⟨.non, H, I, rfl, h⟩
/-- a global name of the def -/
def Gl (X : Cx) (x : Str) : Prop := X.env.kindOf x = some .globalImplicit
theorem ld_glob {E : Value → Shared → Prop} {pins : List (Addr × Obj)} {s : Shared} {σ : St} {H : Hp} {x : Str} {u : Value} {pos : Pos} {Q : Value → Shared → Prop} (I : Inv X pins σ H s) (hg : Gl X x) (hm : X.mg x = some u) (h : Q u s)
    (hd : (x == ("__debug__" : Str)) = false := by decide) : wpAny (model X.prog X.w) X.A (eval (.Name x pos) X.env) Q E s :=
  Calls.Name_function_global I.ok.kind hg (Calls.loadGlobal_global (by rw [I.ok.glob]; exact I.mod.glob.keeps I.bk) hm h) hd
theorem ld_blt {E : Value → Shared → Prop} {pins : List (Addr × Obj)} {s : Shared} {σ : St} {H : Hp} {x : Str} {u : Value} {pos : Pos} {Q : Value → Shared → Prop} (I : Inv X pins σ H s) (hg : Gl X x) (hm : X.mg x = none) (hv : bootBuiltins x = some u) (h : Q u s)
    (hn : x ≠ "__name__" := by decide) (hd : (x == ("__debug__" : Str)) = false := by decide) : wpAny (model X.prog X.w) X.A (eval (.Name x pos) X.env) Q E s := by
  obtain ⟨mb, h1, h2⟩ := I.mod.blt
  exact Calls.Name_function_global I.ok.kind hg (Calls.loadGlobal_builtin (by rw [I.ok.glob]; exact I.mod.glob.keeps I.bk) hm (by rw [I.ok.blt]; exact h1.keeps I.bk) ((h2 x hn).trans hv) h) hd
theorem pe_bltn {x : Str} {v : V} {u : Value} {pos : Pos} (hg : Gl X x) (hm : X.mg x = none) (hv : bootBuiltins x = some u) (r : RelV v u) (hn : x ≠ "__name__" := by decide) (hd : (x == ("__debug__" : Str)) = false := by decide) : PE X (.Name x pos) (tC v) :=
  fun _ _ _ H _ I h => ld_blt I hg hm hv ⟨v, H, I, r, h⟩ hn hd

/-! ### arithmetic -/
variable {a b : Expr} {ta tb : TE} {pos : Pos}
/-! ### comparisons -/
/-- a comparison as a value, as a test -/
def tB (t : TE) : TT := fun σ H Q => t σ H fun x H1 => ∃ c, x = .bl c ∧ Q c H1
/-- an expression whose value is a bool, as a test -/
theorem pt_val {e : Expr} {t : TE} (h : PE X e t) (he : ∀ whole, isTrue e X.env whole = (do let v ← whole; standAt e.pos; holding [v] (truthy v)) := by intro _; rfl) : PT X e (tB t) := by
  intro pins s σ H Q I hw
  refine isTrue_plain (thn (h pins s σ H _ I hw) fun v s1 ⟨x, H1, I1, r1, q1⟩ => ?_) (he _)
  obtain ⟨d, rfl, q⟩ := q1
  cases r1
  exact wpAny_truthy_bool ⟨H1, I1, q⟩

/-! ### and, or, not -/
variable {tA tB' : TT} {rest : List Expr}
def tAnd (t u : TT) : TT := fun σ H Q => t σ H fun c H1 => if c = true then u σ H1 Q else Q false H1
def tOr (t u : TT) : TT := fun σ H Q => t σ H fun c H1 => if c = true then Q true H1 else u σ H1 Q
def tNot (t : TT) : TT := fun σ H Q => t σ H fun c H1 => Q (!c) H1
theorem pw_and1 (ha : PT X a tA) : PW X (.BoolOp .And [a] pos) tA := by
  intro wh pins s σ H Q I h
  refine isTrue_and (thn (ha pins s σ H Q I h) fun c s1 e => ?_)
  cases c with
  | true => exact isTrue_and_nil e
  | false => exact e
theorem pw_or1 (ha : PT X a tA) : PW X (.BoolOp .Or [a] pos) tA := by
  intro wh pins s σ H Q I h
  refine isTrue_or (thn (ha pins s σ H Q I h) fun c s1 e => ?_)
  cases c with
  | false => exact isTrue_or_nil e
  | true => exact e
theorem pw_and (ha : PT X a tA) (hb : PW X (.BoolOp .And (b :: rest) pos) tB') : PW X (.BoolOp .And (a :: b :: rest) pos) (tAnd tA tB') := by
  intro wh pins s σ H Q I h
  refine isTrue_and (thn (ha pins s σ H _ I h) fun c s1 ⟨H1, I1, q1⟩ => ?_)
  cases c with
  | true => exact hb wh pins s1 σ H1 Q I1 q1
  | false => exact ⟨H1, I1, q1⟩
theorem pw_or (ha : PT X a tA) (hb : PW X (.BoolOp .Or (b :: rest) pos) tB') : PW X (.BoolOp .Or (a :: b :: rest) pos) (tOr tA tB') := by
  intro wh pins s σ H Q I h
  refine isTrue_or (thn (ha pins s σ H _ I h) fun c s1 ⟨H1, I1, q1⟩ => ?_)
  cases c with
  | true => exact ⟨H1, I1, q1⟩
  | false => exact hb wh pins s1 σ H1 Q I1 q1
theorem pt_not (ha : PT X a tA) : PT X (.UnaryOp .Not a pos) (tNot tA) := by
  intro pins s σ H Q I h
  exact isTrue_not (ha pins s σ H (fun c H1 => Q (!c) H1) I h)
/-- .. as values (bools) -/
def tAndV (ta tb : TE) : TE := fun σ H Q => ta σ H fun x H1 => ∃ c, x = .bl c ∧ if c = true then tb σ H1 Q else Q (.bl false) H1
def tNotV (ta : TE) : TE := fun σ H Q => ta σ H fun x H1 => ∃ c, x = .bl c ∧ Q (.bl (!c)) H1
theorem pe_one {op} {t : TE} (h : PE X a t) : PE X (.BoolOp op [a] pos) t := fun pins s σ H Q I hw => BoolOp_one (h pins s σ H Q I hw)
theorem pe_and (ha : PE X a ta) (hb : PE X (.BoolOp .And (b :: rest) pos) tb) : PE X (.BoolOp .And (a :: b :: rest) pos) (tAndV ta tb) := by
  intro pins s σ H Q I h
  refine BoolOp_and (thn (ha pins s σ H _ I h) fun v s1 ⟨x, H1, I1, r1, q1⟩ => ?_)
  obtain ⟨c, rfl, q1⟩ := q1
  cases r1
  refine wpAny_truthy_bool ?_
  cases c with
  | true => exact hb pins s1 σ H1 Q I1 q1
  | false => exact ⟨.bl false, H1, I1, rfl, q1⟩
theorem pe_not (ha : PE X a ta) : PE X (.UnaryOp .Not a pos) (tNotV ta) := by
  intro pins s σ H Q I h
  refine UnaryOp_ (thn (ha pins s σ H _ I h) fun v s1 ⟨x, H1, I1, r1, q1⟩ => ?_)
  obtain ⟨c, rfl, q1⟩ := q1
  cases r1
  exact not_of (wpAny_truthy_bool ⟨.bl (!c), H1, I1, rfl, q1⟩)
end
end L2

namespace L2
open PySem PySem.Spec PyProof.Rows

/-! ### a list, a tuple that is read: tracked, frozen, or an object of the module -/
def SqL (K : PySem.W.Frag) (H : Hp) (a : Addr) (xs : List V) : Prop :=
  Rd H a (.lst xs) ∨
    ∃ (o : Obj) (its : Array Value) (n : Nat), K.lookup a = some o ∧ o.cls = .type "list" ∧ o.dict = none ∧ o.data = .seq its n ∧ its.size ≤ sizeLine ∧ Vals xs its.toList
def SqT (K : PySem.W.Frag) (H : Hp) (a : Addr) (xs : List V) : Prop :=
  Rd H a (.tup xs) ∨
    ∃ (o : Obj) (its : Array Value) (n : Nat), K.lookup a = some o ∧ o.cls = .type "tuple" ∧ o.data = .seq its n ∧ its.size ≤ sizeLine ∧ Vals xs its.toList
def absV : Value → Option V
  | .none => some .non
  | .bool b => some (.bl b)
  | .int i _ => some (.int i)
  | .str x _ => some (.str x)
  | .bytes b _ => some (.byt b)
  | .float b _ => some (.flt b)
  | .ref a => some (.ref a)
  | .type n => some (.ty n)
  | _ => none
theorem RelV.abs {x : V} {u : Value} (r : RelV x u) : absV u = some x := by
  cases x with
  | non => cases r; rfl
  | bl _ => cases r; rfl
  | int _ => obtain ⟨t, rfl⟩ := r; rfl
  | str _ => obtain ⟨t, rfl⟩ := r; rfl
  | byt _ => obtain ⟨t, rfl⟩ := r; rfl
  | flt _ => obtain ⟨t, rfl⟩ := r; rfl
  | ref _ => cases r; rfl
  | ty _ => cases r; rfl
theorem RelV.inj {x y : V} {u : Value} (r : RelV x u) (q : RelV y u) : x = y := Option.some.inj (r.abs.symm.trans q.abs)
theorem Vals.inj : ∀ {xs ys : List V} {us : List Value}, Vals xs us → Vals ys us → xs = ys
  | _, _, _, .nil, .nil => rfl
  | _, _, _, .cons r t, .cons r' t' => by rw [r.inj r', Vals.inj t t']
section
variable {X : Cx} {pins : List (Addr × Obj)} {σ : St} {H : Hp} {s : Shared} {a : Addr} {xs ys : List V}
theorem SqL.of {K : PySem.W.Frag} (h : H a = some (.lst xs)) : SqL K H a xs := .inl (.inl h)
theorem SqT.of {K : PySem.W.Frag} (h : H a = some (.tup xs)) : SqT K H a xs := .inl (.inl h)
theorem Inv.list (I : Inv X pins σ H s) (h : SqL X.K H a xs) : ∃ its : List Value, Vals xs its ∧ PlainL s.heap a its.toArray ∧ xs.length ≤ sizeLine := by
  rcases h with h | ⟨o, its, n, hk, hc, hd, hs, hz, r⟩
  · obtain ⟨z, its, n, r, e⟩ := h.ok I.hok
    exact ⟨its, r, ⟨_, n, e, rfl, rfl, rfl⟩, z⟩
  · refine ⟨its.toList, r, ⟨o, n, I.kIn a o hk, hc, hd, by simpa using hs⟩, ?_⟩
    have e := r.length
    simp only [Array.length_toList] at e
    omega
theorem Inv.tuple (I : Inv X pins σ H s) (h : SqT X.K H a xs) : ∃ its : List Value, Vals xs its ∧ IsTup s.heap a its.toArray ∧ xs.length ≤ sizeLine := by
  rcases h with h | ⟨o, its, n, hk, hc, hs, hz, r⟩
  · obtain ⟨z, its, r, p⟩ := h.ok I.hok
    exact ⟨its, r, p, z⟩
  · refine ⟨its.toList, r, ⟨o, I.kIn a o hk, hc, n, by simpa using hs⟩, ?_⟩
    have e := r.length
    simp only [Array.length_toList] at e
    omega
theorem Inv.list_inj (I : Inv X pins σ H s) (h : SqL X.K H a xs) (h' : SqL X.K H a ys) : xs = ys := by
  obtain ⟨its, r, ⟨o, n, e, _, _, d⟩, _⟩ := I.list h
  obtain ⟨its', r', ⟨o', n', e', _, _, d'⟩, _⟩ := I.list h'
  rw [e] at e'; cases e'
  rw [d] at d'
  injection d' with d1 _
  have : its = its' := by simpa using congrArg Array.toList d1
  subst this
  exact r.inj r'
end

/-! ### another wish about exceptions -/
abbrev Cx.wish (X : Cx) (E : Value → Shared → Prop) : Cx := { X with xe := E }
/-- no exception leaves -/
abbrev Cx.nox (X : Cx) : Cx := X.wish fun _ _ => False
theorem Cx.Ok.wish {X : Cx} (ok : X.Ok) (E : Value → Shared → Prop) : (X.wish E).Ok :=
  ⟨ok.mod, ok.kind, ok.glob, ok.blt, ok.above, ok.inj, ok.has, ok.cab, ok.hd, ok.frames, ok.stk, ok.exf, ok.bs, ok.bsz, ok.noex, ok.exfs, ok.funs, ok.frf⟩
theorem Cx.Ok.unwish {X : Cx} {E : Value → Shared → Prop} (ok : (X.wish E).Ok) : X.Ok :=
  ⟨ok.mod, ok.kind, ok.glob, ok.blt, ok.above, ok.inj, ok.has, ok.cab, ok.hd, ok.frames, ok.stk, ok.exf, ok.bs, ok.bsz, ok.noex, ok.exfs, ok.funs, ok.frf⟩
section
variable {X : Cx} {pins : List (Addr × Obj)} {σ : St} {H : Hp} {s : Shared} {E : Value → Shared → Prop}
theorem Inv.wish (I : Inv X pins σ H s) (E : Value → Shared → Prop) : Inv (X.wish E) pins σ H s := ⟨I.ok.wish E, I.os, I.bare, I.base, I.loc, I.cell, I.free, I.freeC, I.pin, I.hok, I.len⟩
theorem Inv.unwish (I : Inv (X.wish E) pins σ H s) : Inv X pins σ H s := ⟨I.ok.unwish, I.os, I.bare, I.base, I.loc, I.cell, I.free, I.freeC, I.pin, I.hok, I.len⟩
theorem SP.unwish {D : Ends} {f : Flow} {s' : Shared} (h : SP (X.wish E) pins D f s') : SP X pins D f s' := by
  cases f with
  | next => obtain ⟨σ', H', I, q⟩ := h; exact ⟨σ', H', I.unwish, q⟩
  | brk => obtain ⟨σ', H', I, q⟩ := h; exact ⟨σ', H', I.unwish, q⟩
  | cont => obtain ⟨σ', H', I, q⟩ := h; exact ⟨σ', H', I.unwish, q⟩
  | ret u => obtain ⟨v, σ', H', I, r, q⟩ := h; exact ⟨v, σ', H', I.unwish, r, q⟩
theorem PSs.nox {st : List Stmt} {t : TS} (h : PSs X.nox st t) : PSs X st t := fun pins s σ H D I hw =>
  wpAny_mono (h pins s σ H D (I.wish _) hw) (fun _ _ q => q.unwish) fun _ _ z => False.elim z
end

/-! ### blocks and small statements -/
section
variable {X : Cx} {st : Stmt} {rest : List Stmt} {t u : TS} {e : Expr} {te : TE} {pos : Pos}
def tNext : TS := fun D σ H => D.nx σ H
def tSeq (t u : TS) : TS := fun D σ H => t { D with nx := u D } σ H
theorem pss_nil : PSs X [] tNext := fun _ _ σ H _ I h => wpAny_execs_nil ⟨σ, H, I, h⟩
theorem pss_cons (h1 : PS X st t) (h2 : PSs X rest u) : PSs X (st :: rest) (tSeq t u) := by
  intro pins s σ H D I h
  refine wpAny_execs_cons (thn (h1 pins s σ H { D with nx := u D } I h) fun f s1 q => ?_)
  cases f with
  | next =>
    obtain ⟨σ', H', I', q⟩ := q
    exact h2 pins s1 σ' H' D I' q
  | ret v => exact q
  | brk => exact q
  | cont => exact q
theorem pss_one (h1 : PS X st t) : PSs X [st] t := by
  intro pins s σ H D I h
  refine wpAny_execs_cons (thn (h1 pins s σ H D I h) fun f s1 q => ?_)
  cases f with
  | next => exact wpAny_execs_nil q
  | ret v => exact q
  | brk => exact q
  | cont => exact q
/-- in a def's body nothing is shown -/
theorem Inv.quiet {pins : List (Addr × Obj)} {σ : St} {H : Hp} {s : Shared} (I : Inv X pins σ H s) : interactive X.env = false := by simp [interactive, I.ok.kind]
/-- an expression whose value is dropped -/
def tDrop (te : TE) : TS := fun D σ H => te σ H fun _ H1 => D.nx σ H1
theorem ps_expr (he : PE X e te) (hs : swapsWith e none pos.line X.env = pure false := by rfl) : PS X (.Expr e pos) (tDrop te) := by
  intro pins s σ H D I h
  exact wpAny_Expr_any (thn (he pins s σ H _ I h) fun v s1 ⟨x, H1, I1, r1, q1⟩ => ⟨σ, H1, I1, q1⟩) I.quiet hs
def tRet (te : TE) : TS := fun D σ H => te σ H D.rt
theorem ps_ret (he : PE X e te) : PS X (.Return (some e) pos) (tRet te) := by
  intro pins s σ H D I h
  exact wpAny_Return_some (thn (he pins s σ H _ I h) fun v s1 ⟨x, H1, I1, r1, q1⟩ => ⟨x, σ, H1, I1, r1, q1⟩)
def tIfS (c : TT) (t u : TS) : TS := fun D σ H => c σ H fun b H1 => if b = true then t D σ H1 else u D σ H1
theorem ps_if {c : Expr} {a b : List Stmt} {tc : TT} (hc : PT X c tc) (ha : PSs X a t) (hb : PSs X b u) : PS X (.If c a b pos) (tIfS tc t u) := by
  intro pins s σ H D I h
  refine wpAny_If (thn (hc pins s σ H _ I h) fun d s1 ⟨H1, I1, q1⟩ => ?_)
  cases d with
  | true => exact ha pins s1 σ H1 D I1 q1
  | false => exact hb pins s1 σ H1 D I1 q1
end

/-! ### targets -/
abbrev TG := V → St → Hp → (St → Hp → Prop) → Prop
abbrev TGs := List V → St → Hp → (St → Hp → Prop) → Prop
def PG (X : Cx) (target : Expr) (t : TG) : Prop :=
  ∀ (pins : List (Addr × Obj)) (s : Shared) (σ : St) (H : Hp) (v : V) (u : Value) (Q : St → Hp → Prop), Inv X pins σ H s → RelV v u → t v σ H Q →
    wpAny (model X.prog X.w) X.A (assign target X.env u) (fun _ s' => ∃ σ' H', Inv X pins σ' H' s' ∧ Q σ' H') X.xe s
/-- several targets, one after another -/
def PGs (X : Cx) (ts : List Expr) (t : TGs) : Prop :=
  ∀ (pins : List (Addr × Obj)) (s : Shared) (σ : St) (H : Hp) (vs : List V) (us : List Value) (Q : St → Hp → Prop), Inv X pins σ H s → Vals vs us → t vs σ H Q →
    wpAny (model X.prog X.w) X.A (assignInOrder ((assignEach ts X.env).map (·.2)) us) (fun _ s' => ∃ σ' H', Inv X pins σ' H' s' ∧ Q σ' H') X.xe s
section
variable {X : Cx} {pos : Pos}
def gName (i : Nat) : TG := fun v σ H Q => Q (σ.set i (some v)) H
theorem pg_name {i : Nat} {x : Str} (hN : X.N.Nodup) (hi : X.N[i]? = some x) (hx : Loc X.env.scope x) (hf : X.fn x = true ∨ X.env.scope.names.lookup x = some .local := by first | exact .inl rfl | exact .inr rfl | assumption) : PG X (.Name x pos) (gName i) := by
  intro pins s σ H v u Q I r h
  exact wpAny_assign_Name (store_ok I hN hi hx r (fun s' I' => ⟨_, H, I', h⟩) hf)
def gNil : TGs := fun vs σ H Q => vs = [] ∧ Q σ H
def gCons (t : TG) (u : TGs) : TGs := fun vs σ H Q => ∃ v r, vs = v :: r ∧ t v σ H fun σ' H' => u r σ' H' Q
theorem pgs_nil : PGs X [] gNil := by
  intro pins s σ H vs us Q I r h
  obtain ⟨e, h⟩ := h
  subst e
  cases r
  exact assignInOrder_nil ⟨σ, H, I, h⟩
theorem pgs_cons {e : Expr} {es : List Expr} {t : TG} {u : TGs} (h1 : PG X e t) (h2 : PGs X es u)
    (hs : (assignEach (e :: es) X.env).map (·.2) = assign e X.env :: (assignEach es X.env).map (·.2) := by rfl) : PGs X (e :: es) (gCons t u) := by
  intro pins s σ H vs us Q I r h
  obtain ⟨v, vr, e1, h⟩ := h
  subst e1
  cases r with
  | cons r rr =>
    rw [hs]
    refine assignInOrder_cons (thn (h1 pins s σ H _ _ _ I r h) fun _ s1 ⟨σ1, H1, I1, q1⟩ => ?_)
    exact h2 pins s1 σ1 H1 _ _ Q I1 rr q1
/-- (a, b, ..) = a tuple of that length -/
def gTup (K : PySem.W.Frag) (n : Nat) (t : TGs) : TG := fun v σ H Q => ∃ a xs, v = .ref a ∧ SqT K H a xs ∧ xs.length = n ∧ t xs σ H Q
theorem pg_tup {es : List Expr} {k : Nat} {t : TGs} {n : Nat} (hc : X.calm = true) (h : PGs X es t)
    (hn : (assignEach es X.env).length = n := by rfl) (hst : (assignEach es X.env).findIdx? (·.1) = none := by rfl) : PG X (.Tuple es k pos) (gTup X.K n t) := by
  intro pins s σ H v u Q I r hw
  obtain ⟨a, xs, e1, hq, hl, hw⟩ := hw
  subst e1
  cases r
  obtain ⟨its, rv, ht, hz⟩ := I.tuple hq
  refine assign_Tuple_tuple (I.ok.hd hc) ht (by simp [hn, ← hl, rv.length]) hst fun h' hx => ?_
  have I1 : Inv X pins σ H { s with heap := h' } := I.kept (t' := s.toks) fun b o e => hx b o (Nat.ne_of_lt (Heap.lt_size e)) e
  exact h pins _ σ H xs _ Q I1 (by simpa using rv) hw
/-- target = value -/
def tAsg (te : TE) (g : TG) : TS := fun D σ H => te σ H fun x H1 => g x σ H1 D.nx
theorem ps_asg {tg e : Expr} {te : TE} {g : TG} (he : PE X e te) (hg : PG X tg g) (hs : swapsWithSole [tg] e pos.line X.env = pure false := by rfl) (hw : swappedStores [tg] e X.env = pure none := by rfl)
    (h1 : (assignEach [tg] X.env).map (·.2) = [assign tg X.env] := by rfl) : PS X (.Assign [tg] e pos) (tAsg te g) := by
  intro pins s σ H D I h
  refine wpAny_Assign_stores (thn (he pins s σ H _ I h) fun v s1 ⟨x, H1, I1, r1, q1⟩ => ?_) hs hw
  rw [h1]
  exact thn (hg pins s1 σ H1 x v _ I1 r1 q1) fun _ s2 q => q
/-- name = value -/
theorem ps_set {i : Nat} {x : Str} {e : Expr} {te : TE} {pos' : Pos} (hN : X.N.Nodup) (hi : X.N[i]? = some x) (hx : Loc X.env.scope x) (he : PE X e te) (hs : swapsWith e (some (.Name x pos')) pos.line X.env = pure false := by rfl) (hf : X.fn x = true ∨ X.env.scope.names.lookup x = some .local := by first | exact .inl rfl | exact .inr rfl | assumption) :
    PS X (.Assign [.Name x pos'] e pos) (tAsg te (gName i)) := by
  intro pins s σ H D I h
  refine wpAny_Assign_Name (thn (he pins s σ H _ I h) fun v s1 ⟨y, H1, I1, r1, q1⟩ => ?_) hs
  exact store_ok I1 hN hi hx r1 (fun s2 I2 => ⟨_, H1, I2, q1⟩) hf
/-- a, b = x, y with plain local names: stored from the right; the pair itself is not tracked (the opening rows as in PyProof/Rows/TupAssign.lean:23) -/
def tPar (i j : Nat) (ta : TA) : TS := fun D σ H => ta σ H fun vs H1 => ∃ v w, vs = [v, w] ∧ D.nx ((σ.set i (some v)).set j (some w)) H1
theorem ps_par {i j : Nat} {x y : Str} {a b : Expr} {ta : TA} {px py pt : Pos} {kt k2 pt2} (hc : X.calm = true) (hN : X.N.Nodup) (hi : X.N[i]? = some x) (hj : X.N[j]? = some y) (hij : i ≠ j)
    (hx : X.env.scope.names.lookup x = some .local) (hy : X.env.scope.names.lookup y = some .local) (ha : PA X [a, b] ta)
    (hw : swappedStores [.Tuple [.Name x px, .Name y py] kt pt] (.Tuple [a, b] k2 pt2) X.env = pure (some [x, y]))
    (hs : swapsWithSole [.Tuple [.Name x px, .Name y py] kt pt] (.Tuple [a, b] k2 pt2) pos.line X.env = pure false := by rfl) :
    PS X (.Assign [.Tuple [.Name x px, .Name y py] kt pt] (.Tuple [a, b] k2 pt2) pos) (tPar i j ta) := by
  intro pins s σ H D I h
  rw [exec_Assign_arm]
  refine wpAny_bind (wpAny_standAt ?_)
  rw [hs]
  refine wpAny_bind (wpAny_pure ?_)
  rw [if_neg (by decide)]
  refine wpAny_bind (Tuple_ (thn (ha _ pins s σ H _ I h) fun us s1 ⟨vs, H1, I1, r1, q1⟩ => ?_))
  obtain ⟨v, w, e1, q1⟩ := q1
  subst e1
  obtain ⟨u1, u2, rfl, rv, rw'⟩ : ∃ u1 u2, us = [u1, u2] ∧ RelV v u1 ∧ RelV w u2 := by
    cases r1 with
    | cons p q =>
      cases q with
      | cons p' q' =>
        cases q'
        exact ⟨_, _, rfl, p, p'⟩
  refine wpAny_newObj_type ?_ (by show 2 ≤ sizeLine; decide)
  have I2 : Inv X pins σ H1 { s1 with heap := s1.heap.push { cls := .type "tuple", data := .seq [u1, u2].toArray } } := I1.kept (t' := s1.toks) fun b o e => Heap.get?_push_of_some _ e
  rw [hw]
  refine wpAny_bind (wpAny_pure ?_)
  show wpAny (model X.prog X.w) X.A (do rule "assign.swapped-stores"; let items ← unpackItems (.ref s1.heap.objs.size) 2 none; assignInOrder [fun v => bindName X.env y v, fun v => bindName X.env x v] items.reverse; pure Flow.next) _ _ _
  refine wpAny_bind (wpAny_rule (wpAny_bind (unpackItems_tuple (items := #[u1, u2]) (I.ok.hd hc) (IsTup.new s1.heap _) fun h' hx' => ?_)))
  have I3 := I2.kept (h' := h') (t' := s1.toks) fun b o e => hx' b o (Nat.ne_of_lt (Heap.lt_size e)) e
  show wpAny _ _ (assignInOrder [fun v => bindName X.env y v, fun v => bindName X.env x v] [u2, u1] >>= fun _ => pure Flow.next) _ _ _
  refine wpAny_bind (assignInOrder_cons (wpAny_bindName (store_ok I3 hN hj (.inl hy) rw' (fun s2 I4 => ?_) (.inr hy))))
  refine assignInOrder_cons (wpAny_bindName (store_ok I4 hN hi (.inl hx) rv (fun s3 I5 => assignInOrder_nil (wpAny_pure ?_)) (.inr hx)))
  rw [List.set_comm _ _ (Ne.symm hij)] at I5
  exact ⟨_, H1, I5, q1⟩
end

/-! ### while -/
section
variable {X : Cx} {pos : Pos}
/-- the invariant W with its measure -/
def tWhile (c : TT) (tb : TS) : TS := fun D σ H => ∃ W : Nat → St → Hp → Prop, (∃ m, W m σ H) ∧ ∀ m σ H, W m σ H →
  c σ H fun b H1 => if b = true then ∃ N : St → Hp → Prop, (∀ σ' H', N σ' H' → ∃ m', m' < m ∧ W m' σ' H') ∧ tb { D with nx := N, ct := N, bk := D.nx } σ H1 else D.nx σ H1
theorem ps_while {c : Expr} {body : List Stmt} {tc : TT} {tb : TS} (hp : PassesOwn (model X.prog X.w) X.A X.env X.xe) (hc : PT X c tc) (hb : PSs X body tb) : PS X (.While c body [] pos) (tWhile tc tb) := by
  intro pins s σ H D I h
  obtain ⟨W, ⟨m0, w0⟩, turn⟩ := h
  refine wpAny_While (codeAny_whileLoop (fun n s' => ∃ σ' H', Inv X pins σ' H' s' ∧ W n σ' H') ?_ m0 ⟨σ, H, I, w0⟩)
  rintro n s1 ⟨σ1, H1, I1, w1⟩
  refine wpAny_passesOwn hp (thn (hc pins s1 σ1 H1 _ I1 (turn n σ1 H1 w1)) fun b s2 ⟨H2, I2, q2⟩ => ?_)
  cases b with
  | true =>
    obtain ⟨N, hN, q2⟩ := q2
    rw [if_pos rfl]
    refine wpAny_passesOwn hp (thn (hb pins s2 σ1 H2 _ I2 q2) fun f s3 q3 => ?_)
    cases f with
    | next =>
      obtain ⟨σ3, H3, I3, n3⟩ := q3
      obtain ⟨m', hm, w3⟩ := hN σ3 H3 n3
      exact ⟨m', hm, σ3, H3, I3, w3⟩
    | cont =>
      obtain ⟨σ3, H3, I3, n3⟩ := q3
      obtain ⟨m', hm, w3⟩ := hN σ3 H3 n3
      exact ⟨m', hm, σ3, H3, I3, w3⟩
    | brk => exact q3
    | ret v => exact q3
  | false =>
    rw [if_neg Bool.false_ne_true]
    exact wpAny_execs_nil ⟨σ1, H2, I2, q2⟩
end

/-! ### what a loop or a comprehension walks -/
/-- at turn i: it yields x (the heap may grow), or it stops -/
structure It where
  go : Nat → Hp → Prop
  yld : Nat → Hp → V → Hp → Prop
  stop : Nat → Hp → Prop
/-- the iterator's own objects may turn: they are not the frame's, not pinned, younger than the entry (or a comprehension's own) -/
def FpOk (X : Cx) (pins : List (Addr × Obj)) (H : Hp) (b : Addr) : Prop :=
  H b = none ∧ b ≠ X.env.locals ∧ b ∉ X.fs ∧ (b ∈ X.ex ∨ X.s₀.heap.objs.size ≤ b) ∧ (∀ x c, X.env.cells.lookup x = some c → c ≠ b) ∧ ∀ p ∈ X.pn ++ pins, p.1 ≠ b
theorem Inv.fpOk {X : Cx} {pins : List (Addr × Obj)} {σ : St} {H H' : Hp} {s : Shared} {b : Addr} (I : Inv X pins σ H s) (hb : s.heap.objs.size ≤ b) (hn : H' b = none) : FpOk X pins H' b := by
  refine ⟨hn, Nat.ne_of_gt (Nat.lt_of_lt_of_le I.lt hb), I.nofs hb, .inr (Nat.le_trans I.sz hb), fun x c e z => ?_, fun p hp z => ?_⟩
  · obtain ⟨v, q⟩ := I.cell x c e
    exact absurd (Nat.lt_of_lt_of_le q.lt (by rw [z]; exact hb)) (Nat.lt_irrefl _)
  · exact absurd (Nat.lt_of_lt_of_le (Heap.lt_size (I.pin p hp).1) (by rw [z]; exact hb)) (Nat.lt_irrefl _)
structure Turn (P : Program) (w : World) (K : PySem.W.Frag) (tg : Expr) (J : It) (fp : List Addr) (it : Addr) (tn : Nat → Heap → Prop) : Prop where
  mem : it ∈ fp
  obj : ∀ i h, tn i h → ∀ b ∈ fp, ∃ o, h.get? b = some o ∧ ∀ v, o.data ≠ .cell v
  keep : ∀ i h h', tn i h → (∀ b ∈ fp, ∀ o, h.get? b = some o → h'.get? b = some o) → tn i h'
  item : ∀ (X : Cx), X.prog = P → X.w = w → X.K = K → X.calm = true → ∀ (i : Nat) (pins : List (Addr × Obj)) (s : Shared) (σ : St) (H : Hp) (E : Value → Shared → Prop), Inv X pins σ H s → (∀ b ∈ fp, FpOk X pins H b) → tn i s.heap → J.go i H →
    wpAny (model P w) X.A (pyNext (.ref it)) (fun r s1 => ∃ u, r = some u ∧
      wpAny (model P w) X.A (letOwnedTupleGo tg (.ref it) u) (fun _ s2 => ∃ x H', Inv X pins σ H' s2 ∧ RelV x u ∧ J.yld i H x H' ∧ tn (i + 1) s2.heap ∧ ∀ b ∈ fp, H' b = none) E s1) E s
  done : ∀ (X : Cx), X.prog = P → X.w = w → X.K = K → X.calm = true → ∀ (i : Nat) (pins : List (Addr × Obj)) (s : Shared) (σ : St) (H : Hp) (E : Value → Shared → Prop), Inv X pins σ H s → (∀ b ∈ fp, FpOk X pins H b) → tn i s.heap → J.stop i H →
    wpAny (model P w) X.A (pyNext (.ref it)) (fun r s1 => r = none ∧ Inv X pins σ H s1) E s
  self : ∀ (A : Around) (i : Nat) (s : Shared) (Q : Value → Shared → Prop) (E : Value → Shared → Prop), tn i s.heap → Q (.ref it) s → wpAny (model P w) A (pyIter (.ref it)) Q E s
abbrev TI := St → Hp → (It → Hp → Prop) → Prop
/-- an iterator has come -/
def PIE (X : Cx) (pins : List (Addr × Obj)) (σ : St) (tg : Expr) (R : It → Hp → Prop) (itv : Value) (s2 : Shared) : Prop :=
  ∃ (it : Addr) (fp : List Addr) (tn : Nat → Heap → Prop) (J : It) (H' : Hp), itv = .ref it ∧ Inv X pins σ H' s2 ∧ Turn X.prog X.w X.K tg J fp it tn ∧ tn 0 s2.heap ∧ (∀ b ∈ fp, FpOk X pins H' b) ∧ R J H'
def PI (X : Cx) (tg iter : Expr) (wi : TI) : Prop :=
  ∀ (pins : List (Addr × Obj)) (s : Shared) (σ : St) (H : Hp) (R : It → Hp → Prop), Inv X pins σ H s → wi σ H R →
    wpAny (model X.prog X.w) X.A (eval iter X.env) (fun v s1 => wpAny (model X.prog X.w) X.A (pyIter v) (PIE X pins σ tg R) X.xe s1) X.xe s

/-- the step ahead of the store is nothing for an iterator that keeps no tuple -/
theorem go_of {M : Model} {A : Around} {E : Value → Shared → Prop} {s : Shared} {tg : Expr} {it : Addr} {u : Value} {o : Obj} {n : String} {vs : Array Value} {Q : Unit → Shared → Prop} (ho : s.heap.get? it = some o) (hc : o.cls = .type n) (hd : o.data = .fields vs)
    (hn : ["enumerate", "zip", "dict_itemiterator", "dict_reverseitemiterator", "odict_iterator", "itertools.zip_longest", "itertools.pairwise"].contains n = false) (hQ : Q () s) : wpAny M A (letOwnedTupleGo tg (.ref it) u) Q E s := by
  unfold letOwnedTupleGo
  cases tg <;> first
    | exact wpAny_pure hQ
    | (cases u <;> first
        | exact wpAny_pure hQ
        | (refine wpAny_bind (wpAny_load ho ?_)
           rw [hc, hd]
           show wpAny M A (if (["enumerate", "zip", "dict_itemiterator", "dict_reverseitemiterator", "odict_iterator", "itertools.zip_longest", "itertools.pairwise"].contains n && vs[0]? == some (rawInt _)) = true then _ else _) Q E s
           rw [if_neg (by intro h; rw [hn, Bool.false_and] at h; cases h)]
           exact wpAny_pure hQ))

/-- the list at a, as it stands at each turn (a loop may append to it) -/
def Itl (K : PySem.W.Frag) (a : Addr) : It :=
  ⟨fun i H => ∃ xs x, SqL K H a xs ∧ xs[i]? = some x, fun i H x H' => H' = H ∧ ∀ xs, SqL K H a xs → xs[i]? = some x, fun i H => ∃ xs, SqL K H a xs ∧ xs.length ≤ i⟩
/-- lo, lo + 1, .. (n of them) -/
def Itr (lo : Int) (n : Nat) : It := ⟨fun i _ => i < n, fun i H x H' => H' = H ∧ x = .int (lo + i), fun i _ => n ≤ i⟩
theorem turn_list {P : Program} {w : World} {K : PySem.W.Frag} {tg : Expr} (a it : Addr) : Turn P w K tg (Itl K a) [it] it (fun i h => h.IsListIter it a i) where
  mem := by simp
  obj := fun i h st b hb => by
    have e : b = it := by simpa using hb
    subst e
    obtain ⟨o, e, c, d⟩ := st
    exact ⟨o, e, fun v z => by rw [d] at z; cases z⟩
  keep := fun i h h' st k => st.at fun o e => k it (by simp) o e
  item := by
    intro X hP hw hK hc i pins s σ H E I hf st hg
    subst hP hw hK
    obtain ⟨xs, x, hq, hx⟩ := hg
    obtain ⟨its, rv, p, hz⟩ := I.list hq
    obtain ⟨u, hu, ru⟩ := rv.get hx
    obtain ⟨f0, f1, f2, f3, f4, f5⟩ := hf it (by simp)
    refine wpAny_pyNext_list_item st p.isList (x := u) (by simpa using hu) fun h' st' sb => ?_
    have I1 : Inv X pins σ H { s with heap := h' } := I.turned (t' := s.toks) (fun b o hb e => (sb.2 b hb).trans e) f0 f1 f3 f4 f5
    obtain ⟨o, e, c, d⟩ := id st'
    exact ⟨u, rfl, go_of (s := { s with heap := h' }) e c d (by decide) ⟨x, H, I1, ru, ⟨rfl, fun ys hy => by rw [I.list_inj hy hq]; exact hx⟩, st', fun b hb => (hf b hb).1⟩⟩
  done := by
    intro X hP hw hK hc i pins s σ H E I hf st hg
    subst hP hw hK
    obtain ⟨xs, hq, hx⟩ := hg
    obtain ⟨its, rv, p, hz⟩ := I.list hq
    obtain ⟨f0, f1, f2, f3, f4, f5⟩ := hf it (by simp)
    have hl := rv.length
    exact wpAny_pyNext_list_end (I.ok.hd hc) st p.isList (by simp; omega) fun h' eb => ⟨rfl, I.turned (t' := s.toks) (fun b o hb e => eb b o hb e) f0 f1 f3 f4 f5⟩
  self := fun _ _ _ _ _ st h => wpAny_pyIter_listiter st h
theorem turn_range {P : Program} {w : World} {K : PySem.W.Frag} {tg : Expr} (it : Addr) (lo : Int) (n : Nat) : Turn P w K tg (Itr lo n) [it] it (fun i h => IsRangeIter h it (lo + (i : Nat) * 1) ((n : Int) - (i : Nat)) 1) where
  mem := by simp
  obj := fun i h st b hb => by
    have e : b = it := by simpa using hb
    subst e
    exact ⟨_, st, fun v z => by
      have z' : Data.fields _ = Data.cell v := z
      cases z'⟩
  keep := fun i h h' st k => k it (by simp) _ st
  item := by
    intro X hP hw hK hc i pins s σ H E I hf st hg
    subst hP hw hK
    obtain ⟨f0, f1, f2, f3, f4, f5⟩ := hf it (by simp)
    have W := Walks.range (prog := X.prog) (w := X.w) (I.ok.hd hc) it lo 1 n
    refine W.item i s _ _ hg st fun v h' tk hv st' kk => ?_
    obtain ⟨t, rfl⟩ := hv
    have I1 : Inv X pins σ H { s with heap := h', toks := tk } := I.turned (fun b o hb e => kk b o (by simpa using hb) e) f0 f1 f3 f4 f5
    refine ⟨_, rfl, go_of (s := { s with heap := h', toks := tk }) (n := "range_iterator") st' rfl rfl (by decide) ⟨.int (lo + i), H, I1, ⟨t, ?_⟩, ⟨rfl, rfl⟩, st', fun b hb => (hf b hb).1⟩⟩
    rw [Int.mul_one]
  done := by
    intro X hP hw hK hc i pins s σ H E I hf st hg
    subst hP hw hK
    obtain ⟨f0, f1, f2, f3, f4, f5⟩ := hf it (by simp)
    exact wpAny_pyNext_range_end (I.ok.hd hc) st (by have : n ≤ i := hg; omega) fun h' eb => ⟨rfl, I.turned (t' := s.toks) (fun b o hb e => eb b o hb e) f0 f1 f3 f4 f5⟩
  self := fun _ _ _ _ _ st h => wpAny_pyIter_rangeiter st h
end L2

namespace L2
open PySem PySem.Spec PyProof.Rows
section
variable {X : Cx} {tg : Expr}
def iList (K : PySem.W.Frag) (tl : TE) : TI := fun σ H R => tl σ H fun x H1 => ∃ a, x = .ref a ∧ (∃ xs, SqL K H1 a xs) ∧ R (Itl K a) H1
theorem pi_list {l : Expr} {tl : TE} (hl : PE X l tl) : PI X tg l (iList X.K tl) := by
  intro pins s σ H R I h
  refine thn (hl pins s σ H _ I h) fun v s1 ⟨x, H1, I1, r1, q1⟩ => ?_
  obtain ⟨a, e, ⟨xs, hq⟩, q⟩ := q1
  subst e
  cases r1
  obtain ⟨its, rv, p, hz⟩ := I1.list hq
  refine wpAny_pyIter_list p.isList ?_
  refine ⟨s1.heap.objs.size, [s1.heap.objs.size], _, _, H1, rfl, I1.kept (t' := s1.toks) fun b o e => Heap.get?_push_of_some _ e, turn_list a _, ⟨_, Heap.get?_push_size _ rfl, rfl, rfl⟩, fun b hb => ?_, q⟩
  have e : b = s1.heap.objs.size := by simpa using hb
  subst e
  exact I1.fpOk (Nat.le_refl _) (I1.hok.fresh (Nat.le_refl _))
/-- a range object just made, walked -/
theorem range_it {pins : List (Addr × Obj)} {σ : St} {H : Hp} {s : Shared} {R : It → Hp → Prop} {E : Value → Shared → Prop} {lo hi : Int} {t u v : Tok} {tk : Nat} (I : Inv X pins σ H s) (h1 : -(2 ^ 62) ≤ lo) (h2 : lo < 2 ^ 62) (h3 : -(2 ^ 62) ≤ hi) (h4 : hi < 2 ^ 62)
    (q : R (Itr lo (hi - lo).toNat) H) : wpAny (model X.prog X.w) X.A (pyIter (.ref s.heap.objs.size)) (PIE X pins σ tg R) E { s with heap := s.heap.push { cls := .type "range", data := .fields #[.int lo t, .int hi u, .int 1 v] }, toks := tk } := by
  refine wpAny_pyIter_range (IsRange.new ..) (small_one h1 h2 h3 h4) ?_
  have I1 : Inv X pins σ H { s with heap := s.heap.push { cls := .type "range", data := .fields #[.int lo t, .int hi u, .int 1 v] }, toks := tk } := I.kept fun b o e => Heap.get?_push_of_some _ e
  refine ⟨(s.heap.push { cls := .type "range", data := .fields #[.int lo t, .int hi u, .int 1 v] }).objs.size, [(s.heap.push { cls := .type "range", data := .fields #[.int lo t, .int hi u, .int 1 v] }).objs.size], _, _, H, rfl,
    I1.kept (t' := tk) fun b o e => Heap.get?_push_of_some _ e, turn_range _ lo (hi - lo).toNat, ?_, fun b hb => ?_, q⟩
  · have e1 : lo + ((0 : Nat) : Int) * 1 = lo := by simp
    have e2 : (((hi - lo).toNat : Nat) : Int) - ((0 : Nat) : Int) = Builtin.Range.rangeSize lo hi 1 := by rw [rangeSize_one]; split <;> omega
    show IsRangeIter _ _ (lo + ((0 : Nat) : Int) * 1) ((((hi - lo).toNat : Nat) : Int) - ((0 : Nat) : Int)) 1
    rw [e1, e2]
    exact Heap.get?_push_size _ rfl
  · have e : b = (s.heap.push { cls := .type "range", data := .fields #[.int lo t, .int hi u, .int 1 v] }).objs.size := by simpa using hb
    subst e
    exact I1.fpOk (Nat.le_refl _) (I1.hok.fresh (Nat.le_refl _))
def iRng1 (ta : TA) : TI := fun σ H R => ta σ H fun vs H1 => ∃ j : Int, vs = [.int j] ∧ -(2 ^ 62) ≤ j ∧ j < 2 ^ 62 ∧ R (Itr 0 j.toNat) H1
theorem pi_range1 {a : Expr} {ta : TA} {p pos : Pos} (hg : Gl X "range") (hm : X.mg "range" = none) (ha : PA X [a] ta) (hs : starEach [a] X.env = [(false, eval a X.env)] := by rfl) : PI X tg (.Call (.Name "range" p) [a] [] pos) (iRng1 ta) := by
  intro pins s σ H R I h
  refine Call_ (ld_blt I hg hm boot_range (PyProof.Rows.callWith_type1 (thn (ha pos pins s σ H _ I h) fun us s1 ⟨vs, H1, I1, r1, q1⟩ => ?_) hs rfl))
  obtain ⟨j, e, q1, q2, q⟩ := q1
  subst e
  cases r1 with
  | cons r rr =>
    cases rr
    obtain ⟨t, rfl⟩ := r
    exact call_range_1 (range_it I1 (by omega) (by omega) q1 q2 (by simpa using q))
/-! ### for -/
/-- W: the invariant by the turn and a measure; N: what the body is to reach -/
def tFor (wi : TI) (g : TG) (tb : TS) : TS := fun D σ H => wi σ H fun J H1 => ∃ W : Nat → Nat → St → Hp → Prop, (∃ m, W 0 m σ H1) ∧ ∀ i m σ H, W i m σ H →
  (J.stop i H ∧ D.nx σ H) ∨ (J.go i H ∧ ∃ N : St → Hp → Prop, (∀ σ' H', N σ' H' → ∃ m', m' < m ∧ W (i + 1) m' σ' H') ∧ ∀ x H', J.yld i H x H' → g x σ H' fun σ2 H2 => tb { D with nx := N, ct := N, bk := D.nx } σ2 H2)
/-- the records at fp as they stand -/
def pinsAt (fp : List Addr) (h : Heap) : List (Addr × Obj) := fp.filterMap fun b => (h.get? b).map fun o => (b, o)
theorem mem_pinsAt {fp : List Addr} {h : Heap} {b : Addr} {o : Obj} (hb : b ∈ fp) (e : h.get? b = some o) : (b, o) ∈ pinsAt fp h := List.mem_filterMap.mpr ⟨b, hb, by rw [e]; rfl⟩
theorem of_pinsAt {fp : List Addr} {h : Heap} {p : Addr × Obj} (hp : p ∈ pinsAt fp h) : p.1 ∈ fp ∧ h.get? p.1 = some p.2 := by
  obtain ⟨b, hb, e⟩ := List.mem_filterMap.mp hp
  cases q : h.get? b with
  | none => rw [q] at e; cases e
  | some o =>
    rw [q] at e
    have e' : (b, o) = p := Option.some.inj e
    subst e'
    exact ⟨hb, q⟩
theorem Inv.pinned {pins : List (Addr × Obj)} {σ : St} {H : Hp} {s : Shared} {fp : List Addr} (I : Inv X pins σ H s) (hf : ∀ b ∈ fp, FpOk X pins H b) (ho : ∀ b ∈ fp, ∃ o, s.heap.get? b = some o ∧ ∀ v, o.data ≠ .cell v) : Inv X (pins ++ pinsAt fp s.heap) σ H s :=
  I.pins_of fun p hp => (List.mem_append.mp hp).elim (fun z => I.pin p (List.mem_append_right _ z)) fun z => by
    obtain ⟨hb, e⟩ := of_pinsAt z
    obtain ⟨f0, f1, f2, _⟩ := hf p.1 hb
    obtain ⟨o, e', d⟩ := ho p.1 hb
    rw [e] at e'; cases e'
    exact ⟨e, f0, f1, f2, d⟩
theorem Inv.unpinned {pins pl : List (Addr × Obj)} {σ : St} {H : Hp} {s : Shared} (I : Inv X (pins ++ pl) σ H s) : Inv X pins σ H s := I.pins_of fun p hp => I.pin p (List.mem_append_right _ (List.mem_append_left _ hp))
theorem ps_for {iter : Expr} {body : List Stmt} {wi : TI} {g : TG} {tb : TS} {pos : Pos} (hp : PassesOwn (model X.prog X.w) X.A X.env X.xe) (hc : X.calm = true) (hi : PI X tg iter wi) (hg : PG X tg g) (hb : PSs X body tb)
    (hs : ∀ x, foldedSetIterable iter X.env x = pure x := by intro _; rfl) : PS X (.For tg iter body [] pos) (tFor wi g tb) := by
  intro pins s σ H D I h
  refine wpAny_For (thn (hi pins s σ H _ I h) fun v s1 h1 => thn h1 fun itv s2 h2 => ?_) hs
  obtain ⟨it, fp, tn, J, H2, e, I2, T, st2, f2, W, ⟨m0, w0⟩, turn⟩ := h2
  subst e
  -- what stays true of the iterator's objects through the loop
  have stat : ∀ {H' : Hp}, (∀ b ∈ fp, H' b = none) → ∀ b ∈ fp, FpOk X pins H' b := fun hn b hb => ⟨hn b hb, (f2 b hb).2⟩
  refine codeAny_forLoop_any (fun n s' => ∃ i σ' H', Inv X pins σ' H' s' ∧ tn i s'.heap ∧ (∀ b ∈ fp, H' b = none) ∧ W i n σ' H') ?_ m0 ⟨0, σ, H2, I2, st2, fun b hb => (f2 b hb).1, w0⟩
  rintro n s3 ⟨i, σ3, H3, I3, st3, fr3, w3⟩
  rcases turn i n σ3 H3 w3 with ⟨stop, qn⟩ | ⟨go, N, hN, step⟩
  · refine wpAny_passesOwn hp (thn (T.done X rfl rfl rfl hc i pins s3 σ3 H3 X.xe I3 (stat fr3) st3 stop) fun r s4 ⟨hr, I4⟩ => ?_)
    subst hr
    exact wpAny_execs_nil ⟨σ3, H3, I4, qn⟩
  · refine wpAny_passesOwn hp (thn (T.item X rfl rfl rfl hc i pins s3 σ3 H3 X.xe I3 (stat fr3) st3 go) fun r s4 ⟨u, hr, h4⟩ => ?_)
    subst hr
    refine wpAny_passesOwn hp (thn h4 fun _ s5 ⟨x, H5, I5, r5, y5, st5, fr5⟩ => ?_)
    have I5' := I5.pinned (stat fr5) (T.obj _ _ st5)
    refine wpAny_passesOwn hp (thn (hg _ s5 σ3 H5 x u _ I5' r5 (step x H5 y5)) fun _ s6 ⟨σ6, H6, I6, q6⟩ => ?_)
    refine wpAny_passesOwn hp (thn (hb _ s6 σ6 H6 _ I6 q6) fun f s7 q7 => ?_)
    have again : ∀ {σ7 : St} {H7 : Hp}, Inv X (pins ++ pinsAt fp s5.heap) σ7 H7 s7 → N σ7 H7 → ∃ m, m < n ∧ ∃ i σ' H', Inv X pins σ' H' s7 ∧ tn i s7.heap ∧ (∀ b ∈ fp, H' b = none) ∧ W i m σ' H' := fun {σ7 H7} I7 n7 => by
      obtain ⟨m', hm, w7⟩ := hN σ7 H7 n7
      refine ⟨m', hm, i + 1, σ7, H7, I7.unpinned, T.keep _ _ _ st5 fun b hb o e => (I7.pin (b, o) (List.mem_append_right _ (List.mem_append_right _ (mem_pinsAt hb e)))).1, fun b hb => ?_, w7⟩
      obtain ⟨o, e, d⟩ := T.obj _ _ st5 b hb
      exact (I7.pin (b, o) (List.mem_append_right _ (List.mem_append_right _ (mem_pinsAt hb e)))).2.1
    cases f with
    | next => obtain ⟨σ7, H7, I7, n7⟩ := q7; exact again I7 n7
    | cont => obtain ⟨σ7, H7, I7, n7⟩ := q7; exact again I7 n7
    | brk => obtain ⟨σ7, H7, I7, q7⟩ := q7; exact ⟨σ7, H7, I7.unpinned, q7⟩
    | ret v => obtain ⟨x7, σ7, H7, I7, r7, q7⟩ := q7; exact ⟨x7, σ7, H7, I7.unpinned, r7, q7⟩
end

/-! ### the forms one uses -/
/-- over a list that the body leaves as it is -/
theorem for_list {K : PySem.W.Frag} {a : Addr} {xs : List V} {g : TG} {tb : TS} {D : Ends} {σ : St} {H : Hp} (Pv : Nat → St → Hp → Prop) (h0 : Pv 0 σ H) (hl : ∀ i σ H, i ≤ xs.length → Pv i σ H → SqL K H a xs)
    (hs : ∀ i x σ H, xs[i]? = some x → Pv i σ H → g x σ H fun σ2 H2 => tb { D with nx := Pv (i + 1), ct := Pv (i + 1), bk := D.nx } σ2 H2) (hd : ∀ σ H, Pv xs.length σ H → D.nx σ H) :
    ∃ W : Nat → Nat → St → Hp → Prop, (∃ m, W 0 m σ H) ∧ ∀ i m σ H, W i m σ H →
      ((Itl K a).stop i H ∧ D.nx σ H) ∨ ((Itl K a).go i H ∧ ∃ N : St → Hp → Prop, (∀ σ' H', N σ' H' → ∃ m', m' < m ∧ W (i + 1) m' σ' H') ∧ ∀ x H', (Itl K a).yld i H x H' → g x σ H' fun σ2 H2 => tb { D with nx := N, ct := N, bk := D.nx } σ2 H2) := by
  refine ⟨fun i m σ H => m = xs.length - i ∧ i ≤ xs.length ∧ Pv i σ H, ⟨xs.length, by simp, Nat.zero_le _, h0⟩, ?_⟩
  rintro i m σ H ⟨rfl, hi, p⟩
  have q := hl i σ H hi p
  by_cases hlt : i < xs.length
  · refine .inr ⟨⟨xs, xs[i], q, by simp [hlt]⟩, Pv (i + 1), fun σ' H' p' => ⟨xs.length - (i + 1), by omega, rfl, hlt, p'⟩, fun x H' y => ?_⟩
    obtain ⟨e, y⟩ := y
    subst e
    exact hs i x σ _ (y xs q) p
  · have e : i = xs.length := by omega
    subst e
    exact .inl ⟨⟨xs, q, Nat.le_refl _⟩, hd σ H p⟩
theorem for_range {lo : Int} {n : Nat} {g : TG} {tb : TS} {D : Ends} {σ : St} {H : Hp} (Pv : Nat → St → Hp → Prop) (h0 : Pv 0 σ H)
    (hs : ∀ i σ H, i < n → Pv i σ H → g (.int (lo + i)) σ H fun σ2 H2 => tb { D with nx := Pv (i + 1), ct := Pv (i + 1), bk := D.nx } σ2 H2) (hd : ∀ σ H, Pv n σ H → D.nx σ H) :
    ∃ W : Nat → Nat → St → Hp → Prop, (∃ m, W 0 m σ H) ∧ ∀ i m σ H, W i m σ H →
      ((Itr lo n).stop i H ∧ D.nx σ H) ∨ ((Itr lo n).go i H ∧ ∃ N : St → Hp → Prop, (∀ σ' H', N σ' H' → ∃ m', m' < m ∧ W (i + 1) m' σ' H') ∧ ∀ x H', (Itr lo n).yld i H x H' → g x σ H' fun σ2 H2 => tb { D with nx := N, ct := N, bk := D.nx } σ2 H2) := by
  refine ⟨fun i m σ H => m = n - i ∧ i ≤ n ∧ Pv i σ H, ⟨n, by simp, Nat.zero_le _, h0⟩, ?_⟩
  rintro i m σ H ⟨rfl, hi, p⟩
  by_cases hlt : i < n
  · refine .inr ⟨hlt, Pv (i + 1), fun σ' H' p' => ⟨n - (i + 1), by omega, rfl, hlt, p'⟩, fun x H' y => ?_⟩
    obtain ⟨e, y⟩ := y
    subst e y
    exact hs i σ _ hlt p
  · have e : i = n := by omega
    subst e
    exact .inl ⟨Nat.le_refl _, hd σ H p⟩
/-- while, by a word and a measure of the state -/
theorem while_by {c : TT} {tb : TS} {D : Ends} {σ : St} {H : Hp} (Pv : St → Hp → Prop) (μ : St → Hp → Nat) (h0 : Pv σ H)
    (hs : ∀ σ H, Pv σ H → c σ H fun b H1 => if b = true then tb { D with nx := fun σ' H' => Pv σ' H' ∧ μ σ' H' < μ σ H, ct := fun σ' H' => Pv σ' H' ∧ μ σ' H' < μ σ H, bk := D.nx } σ H1 else D.nx σ H1)
    (mono : ∀ σ H Q Q', (∀ b H1, Q b H1 → Q' b H1) → c σ H Q → c σ H Q') : tWhile c tb D σ H := by
  refine ⟨fun m σ H => m = μ σ H ∧ Pv σ H, ⟨_, rfl, h0⟩, ?_⟩
  rintro m σ H ⟨rfl, p⟩
  refine mono σ H _ _ (fun b H1 q => ?_) (hs σ H p)
  cases b with
  | true => exact ⟨_, fun σ' H' ⟨p', l⟩ => ⟨_, l, rfl, p'⟩, q⟩
  | false => exact q
end L2

namespace L2
open PySem PySem.Spec PyProof.Rows

abbrev R2 := V → V → Hp → VK → Prop
/-- a two-place operation on values: f is binaryOp op, inplaceOp op or compareOp op -/
def OpR (X : Cx) (f : Value → Value → Sem Value) (r : R2) : Prop :=
  ∀ (pins : List (Addr × Obj)) (s : Shared) (σ : St) (H : Hp) (x y : V) (v u : Value) (Q : VK), Inv X pins σ H s → RelV x v → RelV y u → r x y H Q →
    wpAny (model X.prog X.w) X.A (f v u) (EP X pins σ Q) X.xe s
/-- a one-place operation -/
def UnR (X : Cx) (f : Value → Sem Value) (r : V → Hp → VK → Prop) : Prop :=
  ∀ (pins : List (Addr × Obj)) (s : Shared) (σ : St) (H : Hp) (x : V) (v : Value) (Q : VK), Inv X pins σ H s → RelV x v → r x H Q →
    wpAny (model X.prog X.w) X.A (f v) (EP X pins σ Q) X.xe s
/-- a call of a value that is known (a builtin, a type) with values -/
def CallR (X : Cx) (f : Value) (r : List V → Hp → VK → Prop) : Prop :=
  ∀ (pins : List (Addr × Obj)) (s : Shared) (σ : St) (H : Hp) (xs : List V) (us : List Value) (Q : VK), Inv X pins σ H s → Vals xs us → r xs H Q →
    wpAny (model X.prog X.w) X.A (call f us) (EP X pins σ Q) X.xe s
def tOp (r : R2) (ta tb : TE) : TE := fun σ H Q => ta σ H fun x H1 => tb σ H1 fun y H2 => r x y H2 Q
def tUn (r : V → Hp → VK → Prop) (ta : TE) : TE := fun σ H Q => ta σ H fun x H1 => r x H1 Q
/-- ints in, under C, and a value out -/
def rI (C : Int → Int → Prop) (g : Int → Int → V) : R2 := fun x y H Q => ∃ i j, x = .int i ∧ y = .int j ∧ C i j ∧ Q (g i j) H
def rI0 (g : Int → Int → V) : R2 := fun x y H Q => ∃ i j, x = .int i ∧ y = .int j ∧ Q (g i j) H
def rU (g : Int → V) : V → Hp → VK → Prop := fun x H Q => ∃ i, x = .int i ∧ Q (g i) H

section
variable {X : Cx} {a b c : Expr} {ta tb tc : TE} {pos : Pos}

theorem binT (ha : PE X a ta) (hb : PE X b tb) {pins : List (Addr × Obj)} {s : Shared} {σ : St} {H : Hp} {R : V → V → Hp → Prop} (I : Inv X pins σ H s)
    (h : ta σ H fun x H1 => tb σ H1 fun y H2 => R x y H2) {Q : Value → Shared → Prop} {f : Value → Value → Sem Value}
    (hf : ∀ v u s2 x y H2, Inv X pins σ H2 s2 → RelV x v → RelV y u → R x y H2 → wpAny (model X.prog X.w) X.A (f v u) Q X.xe s2) :
    wpAny (model X.prog X.w) X.A (eval a X.env) (fun v s₁ => wpAny (model X.prog X.w) X.A (eval b X.env) (fun u s₂ => wpAny (model X.prog X.w) X.A (f v u) Q X.xe s₂) X.xe s₁) X.xe s := by
  refine thn (ha pins s σ H _ I h) fun v s1 ⟨x, H1, I1, r1, q1⟩ => ?_
  refine thn (hb pins s1 σ H1 _ I1 q1) fun u s2 ⟨y, H2, I2, r2, q2⟩ => ?_
  exact hf v u s2 x y H2 I2 r1 r2 q2

theorem pe_op {op : Operator} {r : R2} (ho : OpR X (binaryOp op) r) (ha : PE X a ta) (hb : PE X b tb) : PE X (.BinOp a op b pos) (tOp r ta tb) := by
  intro pins s σ H Q I h
  exact wpAny_BinOp (binT ha hb I h fun v u s2 x y H2 I2 rx ry q => ho pins s2 σ H2 x y v u Q I2 rx ry q)
theorem pe_un {op : UnaryOp} {r : V → Hp → VK → Prop} (ho : UnR X (unaryOp op) r) (ha : PE X a ta) : PE X (.UnaryOp op a pos) (tUn r ta) := by
  intro pins s σ H Q I h
  exact UnaryOp_ (thn (ha pins s σ H _ I h) fun v s1 ⟨x, H1, I1, r1, q1⟩ => ho pins s1 σ H1 x v Q I1 r1 q1)
/-! ### ints -/
theorem opI {f : Value → Value → Sem Value} {C : Int → Int → Prop} {g : Int → Int → Int}
    (rule : ∀ (i j : Int) (t u : Tok) (s : Shared) (Q : Value → Shared → Prop) (E : Value → Shared → Prop), C i j → Q (.int (g i j) s.toks) { s with toks := s.toks + 1 } → wpAny (model X.prog X.w) X.A (f (.int i t) (.int j u)) Q E s) :
    OpR X f (rI C fun i j => .int (g i j)) := by
  intro pins s σ H x y v u Q I rx ry h
  obtain ⟨i, j, rfl, rfl, hc, q⟩ := h
  obtain ⟨t, rfl⟩ := rx
  obtain ⟨t', rfl⟩ := ry
  exact rule i j t t' s _ _ hc ⟨.int (g i j), H, I.tok _, ⟨_, rfl⟩, q⟩
theorem opI0 {f : Value → Value → Sem Value} {g : Int → Int → Int}
    (rule : ∀ (i j : Int) (t u : Tok) (s : Shared) (Q : Value → Shared → Prop) (E : Value → Shared → Prop), Q (.int (g i j) s.toks) { s with toks := s.toks + 1 } → wpAny (model X.prog X.w) X.A (f (.int i t) (.int j u)) Q E s) :
    OpR X f (rI0 fun i j => .int (g i j)) := by
  intro pins s σ H x y v u Q I rx ry h
  obtain ⟨i, j, rfl, rfl, q⟩ := h
  obtain ⟨t, rfl⟩ := rx
  obtain ⟨t', rfl⟩ := ry
  exact rule i j t t' s _ _ ⟨.int (g i j), H, I.tok _, ⟨_, rfl⟩, q⟩
theorem opB0 {f : Value → Value → Sem Value} {g : Int → Int → Bool}
    (rule : ∀ (i j : Int) (t u : Tok) (s : Shared) (Q : Value → Shared → Prop) (E : Value → Shared → Prop), Q (.bool (g i j)) s → wpAny (model X.prog X.w) X.A (f (.int i t) (.int j u)) Q E s) :
    OpR X f (rI0 fun i j => .bl (g i j)) := by
  intro pins s σ H x y v u Q I rx ry h
  obtain ⟨i, j, rfl, rfl, q⟩ := h
  obtain ⟨t, rfl⟩ := rx
  obtain ⟨t', rfl⟩ := ry
  exact rule i j t t' s _ _ ⟨.bl (g i j), H, I, rfl, q⟩

def CPow (i j : Int) : Prop := 0 ≤ j ∧ j ≤ 1000000 ∧ i.natAbs < 2 ^ 64
def CMul (i j : Int) : Prop := (-(2 ^ 64) < i ∧ i < 2 ^ 64) ∨ (-(2 ^ 64) < j ∧ j < 2 ^ 64)
theorem CMul.ok {i j : Int} (h : CMul i j) : IntMulOk i j := by
  rcases h with ⟨h1, h2⟩ | ⟨h1, h2⟩
  · exact .of_left (intBits_le_64 h1 h2)
  · exact .of_right (intBits_le_64 h1 h2)
theorem op_add : OpR X (binaryOp .Add) (rI0 fun i j => .int (i + j)) := opI0 fun _ _ _ _ _ _ _ q => add_int q
theorem op_sub : OpR X (binaryOp .Sub) (rI0 fun i j => .int (i - j)) := opI0 fun _ _ _ _ _ _ _ q => sub_int q
/-- % by a positive divisor of any size -/
theorem op_mod : OpR X (binaryOp .Mod) (rI (fun _ j => 0 < j) fun i j => .int (i % j)) := opI fun i j _ _ _ _ _ hc q => by
  have h1 : (0 : Int) < j := hc
  exact mod_int' (by omega) (by rw [Int.fmod_eq_emod_of_nonneg i (by omega)]; exact q)
theorem op_pow : OpR X (binaryOp .Pow) (rI CPow fun i j => .int (i ^ j.toNat)) := opI fun _ _ _ _ _ _ _ hc q => pow_int_small hc.1 hc.2.1 hc.2.2 q
theorem unI {f : Value → Sem Value} {g : Int → Int}
    (rule : ∀ (i : Int) (t : Tok) (s : Shared) (Q : Value → Shared → Prop) (E : Value → Shared → Prop), Q (.int (g i) s.toks) { s with toks := s.toks + 1 } → wpAny (model X.prog X.w) X.A (f (.int i t)) Q E s) :
    UnR X f (rU fun i => .int (g i)) := by
  intro pins s σ H x v Q I rx h
  obtain ⟨i, rfl, q⟩ := h
  obtain ⟨t, rfl⟩ := rx
  exact rule i t s _ _ ⟨.int (g i), H, I.tok _, ⟨_, rfl⟩, q⟩
theorem un_neg : UnR X (unaryOp .USub) (rU fun i => .int (-i)) := unI fun _ _ _ _ _ q => neg_int q
/-! ### bools among ints: n += (a < b) -/
end

/-! ### comparisons -/
/-- the scalars that == tells apart as data does -/
def scal : V → V → Bool
  | .non, .non => true | .non, .int _ => true | .int _, .non => true | .non, .bl _ => true | .bl _, .non => true | .non, .str _ => true | .str _, .non => true
  | .int _, .int _ => true | .bl _, .bl _ => true | .str _, .str _ => true | .byt _, .byt _ => true
  | .int _, .str _ => true | .str _, .int _ => true | .bl _, .str _ => true | .str _, .bl _ => true
  | _, _ => false
def rEq : R2 := fun x y H Q => scal x y = true ∧ Q (.bl (decide (x = y))) H
def rNe : R2 := fun x y H Q => scal x y = true ∧ Q (.bl (!decide (x = y))) H

theorem dec_int {i j : Int} : decide (V.int i = V.int j) = (i == j) := by
  rw [Bool.eq_iff_iff]
  simp
theorem dec_bl {i j : Bool} : decide (V.bl i = V.bl j) = (i == j) := by
  rw [Bool.eq_iff_iff]
  simp
theorem dec_str {i j : Str} : decide (V.str i = V.str j) = (i == j) := by
  rw [Bool.eq_iff_iff]
  simp
theorem dec_byt {i j : Array UInt8} : decide (V.byt i = V.byt j) = (i.toList == j.toList) := by
  rw [Bool.eq_iff_iff]
  cases i
  cases j
  simp

section
variable {X : Cx} {a b c : Expr} {ta tb tc : TE} {pos : Pos}
theorem fin_bl {pins : List (Addr × Obj)} {σ : St} {H : Hp} {s : Shared} {Q : VK} {k k' : Bool} (I : Inv X pins σ H s) (q : Q (.bl k) H) (e : k = k') : EP X pins σ Q (.bool k') s := by
  subst e
  exact ⟨.bl k, H, I, rfl, q⟩
theorem op_eq : OpR X (compareOp .Eq) rEq := by
  intro pins s σ H x y v u Q I rx ry h
  obtain ⟨hs, q⟩ := h
  cases x with
  | non =>
    cases rx
    cases y with
    | non => cases ry; exact PySem.EqNone.eq_none_none (fin_bl I q (by simp))
    | bl j => cases ry; exact PySem.EqNone.eq_none_bool (fin_bl I q (by simp))
    | int j => obtain ⟨t', rfl⟩ := ry; exact PySem.EqNone.eq_none_int (fin_bl I q (by simp))
    | str j => obtain ⟨t', rfl⟩ := ry; exact PySem.EqNone.eq_none_str (fin_bl I q (by simp))
    | _ => exact absurd (show false = true from hs) Bool.false_ne_true
  | bl i =>
    cases rx
    cases y with
    | non => cases ry; exact PySem.EqNone.eq_bool_none (fin_bl I q (by simp))
    | bl j => cases ry; exact eq_bool (fin_bl I q dec_bl)
    | str j => obtain ⟨t', rfl⟩ := ry; exact PySem.EqMixed.eq_bool_str (fin_bl I q (by simp))
    | _ => exact absurd (show false = true from hs) Bool.false_ne_true
  | int i =>
    obtain ⟨t, rfl⟩ := rx
    cases y with
    | non => cases ry; exact PySem.EqNone.eq_int_none (fin_bl I q (by simp))
    | int j => obtain ⟨t', rfl⟩ := ry; exact eq_int (fin_bl I q dec_int)
    | str j => obtain ⟨t', rfl⟩ := ry; exact PySem.EqMixed.eq_int_str (fin_bl I q (by simp))
    | _ => exact absurd (show false = true from hs) Bool.false_ne_true
  | str i =>
    obtain ⟨t, rfl⟩ := rx
    cases y with
    | non => cases ry; exact PySem.EqNone.eq_str_none (fin_bl I q (by simp))
    | bl j => cases ry; exact PySem.EqMixed.eq_str_bool (fin_bl I q (by simp))
    | int j => obtain ⟨t', rfl⟩ := ry; exact PySem.EqMixed.eq_str_int (fin_bl I q (by simp))
    | str j => obtain ⟨t', rfl⟩ := ry; exact eq_str (fin_bl I q dec_str)
    | _ => exact absurd (show false = true from hs) Bool.false_ne_true
  | byt i =>
    obtain ⟨t, rfl⟩ := rx
    cases y with
    | byt j => obtain ⟨t', rfl⟩ := ry; exact PySem.W.eq_bytes (fin_bl I q dec_byt)
    | _ => exact absurd (show false = true from hs) Bool.false_ne_true
  | _ => cases y <;> exact absurd (show false = true from hs) Bool.false_ne_true
theorem op_ne : OpR X (compareOp .NotEq) rNe := by
  intro pins s σ H x y v u Q I rx ry h
  obtain ⟨hs, q⟩ := h
  cases x with
  | non =>
    cases rx
    cases y with
    | non => cases ry; exact PySem.EqNone.ne_none_none (fin_bl I q (by simp))
    | bl j => cases ry; exact PySem.EqNone.ne_none_bool (fin_bl I q (by simp))
    | int j => obtain ⟨t', rfl⟩ := ry; exact PySem.EqNone.ne_none_int (fin_bl I q (by simp))
    | str j => obtain ⟨t', rfl⟩ := ry; exact PySem.EqNone.ne_none_str (fin_bl I q (by simp))
    | _ => exact absurd (show false = true from hs) Bool.false_ne_true
  | bl i =>
    cases rx
    cases y with
    | non => cases ry; exact PySem.EqNone.ne_bool_none (fin_bl I q (by simp))
    | bl j => cases ry; exact ne_bool (fin_bl I q (congrArg not dec_bl))
    | str j => obtain ⟨t', rfl⟩ := ry; exact PySem.EqMixed.ne_bool_str (fin_bl I q (by simp))
    | _ => exact absurd (show false = true from hs) Bool.false_ne_true
  | int i =>
    obtain ⟨t, rfl⟩ := rx
    cases y with
    | non => cases ry; exact PySem.EqNone.ne_int_none (fin_bl I q (by simp))
    | int j => obtain ⟨t', rfl⟩ := ry; exact ne_int (fin_bl I q (congrArg not dec_int))
    | str j => obtain ⟨t', rfl⟩ := ry; exact PySem.EqMixed.ne_int_str (fin_bl I q (by simp))
    | _ => exact absurd (show false = true from hs) Bool.false_ne_true
  | str i =>
    obtain ⟨t, rfl⟩ := rx
    cases y with
    | non => cases ry; exact PySem.EqNone.ne_str_none (fin_bl I q (by simp))
    | bl j => cases ry; exact PySem.EqMixed.ne_str_bool (fin_bl I q (by simp))
    | int j => obtain ⟨t', rfl⟩ := ry; exact PySem.EqMixed.ne_str_int (fin_bl I q (by simp))
    | str j => obtain ⟨t', rfl⟩ := ry; exact ne_str (fin_bl I q (congrArg not dec_str))
    | _ => exact absurd (show false = true from hs) Bool.false_ne_true
  | byt i =>
    obtain ⟨t, rfl⟩ := rx
    cases y with
    | byt j => obtain ⟨t', rfl⟩ := ry; exact PySem.W.ne_bytes (fin_bl I q (congrArg not dec_byt))
    | _ => exact absurd (show false = true from hs) Bool.false_ne_true
  | _ => cases y <;> exact absurd (show false = true from hs) Bool.false_ne_true

theorem op_lt : OpR X (compareOp .Lt) (rI0 fun i j => .bl (decide (i < j))) := opB0 fun _ _ _ _ _ _ _ q => lt_int q
theorem op_le : OpR X (compareOp .LtE) (rI0 fun i j => .bl (decide (i ≤ j))) := opB0 fun _ _ _ _ _ _ _ q => le_int q
theorem op_gt : OpR X (compareOp .Gt) (rI0 fun i j => .bl (decide (j < i))) := opB0 fun _ _ _ _ _ _ _ q => gt_int q
theorem op_ge : OpR X (compareOp .GtE) (rI0 fun i j => .bl (decide (j ≤ i))) := opB0 fun _ _ _ _ _ _ _ q => ge_int q
theorem nomark (b : Expr) {op : CmpOp} (h : op ≠ .In := by decide) (h2 : op ≠ .NotIn := by decide) : behindInMarks op b = false := by
  have e1 : (op == CmpOp.In) = false := by cases op <;> first | rfl | exact absurd rfl h
  have e2 : (op == CmpOp.NotIn) = false := by cases op <;> first | rfl | exact absurd rfl h2
  cases b <;> simp [behindInMarks, e1, e2]
/-- a comparison as a value; hm: nomark b, or (for in, not in) by with_unfolding_all rfl -/
theorem pe_cmpR {op : CmpOp} {r : R2} (ho : OpR X (compareOp op) r) (ha : PE X a ta) (hb : PE X b tb) (hm : behindInMarks op b = false) : PE X (.Compare a [op] [b] pos) (tOp r ta tb) := by
  intro pins s σ H Q I h
  exact wpAny_Compare1 (binT ha hb I h fun v u s2 x y H2 I2 rx ry q => ho pins s2 σ H2 x y v u Q I2 rx ry q) hm
/-- a reading of a value as a test -/
def tTest (t : TE) : TT := fun σ H Q => t σ H fun x H' => ∃ k, x = .bl k ∧ Q k H'
theorem pt_cmpR {op : CmpOp} {r : R2} (ho : OpR X (compareOp op) r) (ha : PE X a ta) (hb : PE X b tb) (hm : behindInMarks op b = false) : PT X (.Compare a [op] [b] pos) (tTest (tOp r ta tb)) := by
  intro pins s σ H Q I h
  refine wpAny_isTrue_Compare1 (thn (ha pins s σ H _ I h) fun v s1 ⟨x, H1, I1, r1, q1⟩ => thn (hb pins s1 σ H1 _ I1 q1) fun u s2 ⟨y, H2, I2, r2, q2⟩ =>
    thn (ho pins s2 σ H2 x y v u _ I2 r1 r2 q2) fun c s3 ⟨z, H3, I3, r3, k, e, q3⟩ => ?_) hm
  subst e
  cases r3
  exact wpAny_truthy_bool ⟨H3, I3, q3⟩
/-- a op1 b op2 c -/
def tChain (r r' : R2) (ta tb tc : TE) : TE := fun σ H Q => ta σ H fun x H1 => tb σ H1 fun y H2 => r x y H2 fun z H3 => ∃ k, z = .bl k ∧
  (if k = true then tc σ H3 fun w' H4 => r' y w' H4 Q else Q (.bl false) H3)
theorem pe_chain {op op' : CmpOp} {r r' : R2} (ho : OpR X (compareOp op) r) (ho' : OpR X (compareOp op') r') (ha : PE X a ta) (hb : PE X b tb) (hc : PE X c tc)
    (hm : lastMarks [op, op'] [b, c] = false := by with_unfolding_all rfl) : PE X (.Compare a [op, op'] [b, c] pos) (tChain r r' ta tb tc) := by
  intro pins s σ H Q I h
  refine Compare_chain (thn (ha pins s σ H _ I h) fun v s1 ⟨x, H1, I1, r1, q1⟩ => chain_link (thn (hb pins s1 σ H1 _ I1 q1) fun u s2 ⟨y, H2, I2, r2, q2⟩ =>
    thn (ho pins s2 σ H2 x y v u _ I2 r1 r2 q2) fun d s3 ⟨z, H3, I3, r3, k, e, q3⟩ => ?_)) hm
  subst e
  cases r3
  refine wpAny_truthy_bool ?_
  cases k with
  | false => exact ite_ff ⟨.bl false, H3, I3, rfl, q3⟩
  | true => exact ite_tt (chain_last (thn (hc pins s3 σ H3 _ I3 q3) fun w' s4 ⟨z', H4, I4, r4, q4⟩ => ho' pins s4 σ H4 y z' u w' Q I4 r2 r4 q4))
/-! ### truth -/
theorem line63 : (sizeLine : Nat) < 2 ^ 63 := by rw [sizeLine_eq]; decide
/-! ### strs and bytes -/
/-! ### scalar builtins, by CallR -/
theorem vals1 {x : V} {us : List Value} (r : Vals [x] us) : ∃ u, us = [u] ∧ RelV x u := by
  cases r with
  | cons r1 r2 => cases r2; exact ⟨_, rfl, r1⟩
theorem vals2 {x y : V} {us : List Value} (r : Vals [x, y] us) : ∃ u w', us = [u, w'] ∧ RelV x u ∧ RelV y w' := by
  cases r with
  | cons r1 r2 =>
    cases r2 with
    | cons r3 r4 => cases r4; exact ⟨_, _, rfl, r1, r3⟩
theorem call_abs : CallR X (.builtin "abs") (fun xs H Q => ∃ i, xs = [.int i] ∧ Q (.int (if i < 0 then -i else i)) H) := by
  intro pins s σ H xs us Q I r h
  obtain ⟨i, rfl, q⟩ := h
  obtain ⟨u, rfl, t, rfl⟩ := vals1 r
  exact call_abs_int fun u tk => ⟨.int (if i < 0 then -i else i), H, I.tok _, ⟨_, rfl⟩, q⟩
theorem call_max2 (hc : X.calm = true) : CallR X (.builtin "max") (fun xs H Q => ∃ i j, xs = [.int i, .int j] ∧ Q (.int (if j > i then j else i)) H) := by
  intro pins s σ H xs us Q I r h
  obtain ⟨i, j, rfl, q⟩ := h
  obtain ⟨u, w', rfl, ⟨t, rfl⟩, ⟨t', rfl⟩⟩ := vals2 r
  refine max_two_ints (I.ok.hd hc) fun h' tk k => ⟨_, H, I.kept k, ?_, q⟩
  by_cases hj : j > i
  · rw [if_pos hj, if_pos hj]; exact ⟨_, rfl⟩
  · rw [if_neg hj, if_neg hj]; exact ⟨_, rfl⟩
theorem call_min2 (hc : X.calm = true) : CallR X (.builtin "min") (fun xs H Q => ∃ i j, xs = [.int i, .int j] ∧ Q (.int (if j < i then j else i)) H) := by
  intro pins s σ H xs us Q I r h
  obtain ⟨i, j, rfl, q⟩ := h
  obtain ⟨u, w', rfl, ⟨t, rfl⟩, ⟨t', rfl⟩⟩ := vals2 r
  refine min_two_ints (I.ok.hd hc) fun h' tk k => ⟨_, H, I.kept k, ?_, q⟩
  by_cases hj : j < i
  · rw [if_pos hj, if_pos hj]; exact ⟨_, rfl⟩
  · rw [if_neg hj, if_neg hj]; exact ⟨_, rfl⟩
end
end L2

namespace L2
open PySem PySem.Spec PyProof.Rows

/-! ### an instance, its attributes a map -/
structure ObjM (h : Heap) (x dx C : Addr) (mA : Str → Option Value) : Prop where
  obj : h.get? x = some (PySem.W.instObj C dx)
  ns : h.Ns1 dx mA
  ne : dx ≠ x

theorem lookIn_ns {h : Heap} {dx : Addr} {mA : Str → Option Value} (n : h.Ns1 dx mA) : ∃ od, h.get? dx = some od ∧ ∀ name, PySem.W.lookIn name od = some (mA name) := by
  obtain ⟨o, es, ep, ho, hd, hk, _, hm⟩ := n
  refine ⟨o, ho, fun name => ?_⟩
  have e := hm name
  unfold nsFind findBy at e
  rw [← Array.find?_toList] at e
  unfold PySem.W.lookIn
  rw [hd]
  dsimp only
  split
  · rename_i y q
    rw [q] at e
    exact congrArg some e
  · rename_i q
    rw [q] at e
    have a : es.toList.any (·.refKey) = false := by
      rw [List.any_eq_false]
      intro y hy
      obtain ⟨z, t, hkey⟩ := hk y (Array.mem_toList_iff.mp hy)
      simp [DictEntry.refKey, hkey]
    have a' : ¬ es.toList.any (·.refKey) = true := by rw [a]; exact Bool.false_ne_true
    rw [if_neg a']
    exact congrArg some e

theorem ObjM.look {h : Heap} {x dx C : Addr} {mA : Str → Option Value} (I : ObjM h x dx C mA) : ∃ od, PySem.W.InstAt h x (PySem.W.instObj C dx) C (some od) ∧ ∀ name, PySem.W.lookIn name od = some (mA name) :=
  let ⟨od, ho, hl⟩ := lookIn_ns I.ns
  ⟨od, ⟨I.obj, rfl, rfl, ho⟩, hl⟩

section
variable {prog : Program} {w : World} {A : Around} {E : Value → Shared → Prop} {s : Shared} {K : PySem.W.Frag} {x dx C f : Addr} {mA : Str → Option Value} {name : Str} {v : Value}

end

/-! ### the attributes as a list of pairs -/
section
variable {P : Program} {w : World} {H H' : Hp} {h h' : Heap} {a C dx : Addr} {fs fs' : List (Str × V)}
theorem ins_get (hok : HOk P w H h) (e : H a = some (.ins C dx fs)) : ∃ mA, ObjM h a dx C mA ∧ (∀ f, RelO (fs.lookup f) (mA f)) ∧ PySem.Within mA (fs.map (·.1)) ∧ fs.length ≤ 1000 ∧ H dx = some (.own a) := by
  obtain ⟨d, z, ne, ob, mA, n, r, q⟩ := (show ObjOk P w H h a (.ins C dx fs) from hok a _ e)
  exact ⟨mA, ⟨ob, n, ne⟩, r, q, z, d⟩
end

/-! ### what of the text a class must have -/
structure Cls (K : PySem.W.Frag) (C : Addr) : Prop where
  pg : PySem.W.plainGet K C Str.empty = true
  hd : PySem.W.hasDictIn K C = true
  po : PySem.W.plainOver K C = true
  sa : PySem.W.findIn K (.ref C) "__setattr__" = some (some (.builtin "object.__setattr__"))
theorem Cls.get {K : PySem.W.Frag} {C : Addr} (c : Cls K C) (f : Str) : PySem.W.plainGet K C f = true := c.pg
section
variable {X : Cx} {pins : List (Addr × Obj)} {σ : St} {H : Hp} {s : Shared} {a C dx : Addr} {fs : List (Str × V)} {f : Str} {v : V} {A : Around} {E : Value → Shared → Prop}

end

/-! ### readings and rules -/
section
variable {X : Cx} {o e value : Expr} {f : Str} {pos pos' tpos : Pos} {ta tv : TE}
end

/-! ### isinstance -/
section
variable {X : Cx} {pins : List (Addr × Obj)} {σ : St} {H : Hp} {s : Shared} {A : Around} {E : Value → Shared → Prop} {Q : Value → Shared → Prop} {c : Value} {b : Bool}
/-- the type of a value, as the fragment's deciders take it; for an instance its class -/
inductive TyOf (K : PySem.W.Frag) (H : Hp) : V → Value → Prop where
  | non : TyOf K H .non (.type "NoneType")
  | bl (x : Bool) : TyOf K H (.bl x) (.type "bool")
  | int (i : Int) : TyOf K H (.int i) (.type "int")
  | str (x : Str) : TyOf K H (.str x) (.type "str")
  | flt (x : UInt64) : TyOf K H (.flt x) (.type "float")
  | lst {a : Addr} {xs : List V} (e : H a = some (.lst xs)) : TyOf K H (.ref a) (.type "list")
  | frz {a : Addr} {o : Obj} {xs : List V} (e : H a = some (.frz o (.lst xs))) : TyOf K H (.ref a) (.type "list")
  | tup {a : Addr} {xs : List V} (e : H a = some (.tup xs)) : TyOf K H (.ref a) (.type "tuple")
  | dK {a : Addr} {kvs : List (Key × V)} (e : H a = some (.dK kvs)) : TyOf K H (.ref a) (.type "dict")
  | dT {a : Addr} {kvs : List (List Key × V)} (e : H a = some (.dT kvs)) : TyOf K H (.ref a) (.type "dict")
  | ins {a C dx : Addr} {fs : List (Str × V)} (e : H a = some (.ins C dx fs)) (cl : Cls K C) (ha : PySem.W.findIn K (.ref C) "__class__" = some (some (.builtin "object.__class__")))
      (hn : PySem.W.specialIn K (.builtin "object.__class__") "__get__" = some (some (.builtin "getset_descriptor.__get__"))) (htk : PySem.W.takesIn K (.builtin "object.__class__") = some true)
      (hm : PySem.W.mroIn K C (.type "object") = some true) : TyOf K H (.ref a) (.ref C)
/-- isinstance(x, c) for one class c, a built-in or an own one: kitOne's answer -/
theorem isinst_ok {x : V} {u t : Value} (I : Inv X pins σ H s) (rx : RelV x u) (ty : TyOf X.K H x t) (e : PySem.W.kitOne X.K t c = some b) (h : ∀ tk, Q (.bool b) { s with toks := tk }) :
    wpAny (model X.prog X.w) A (call (.builtin "isinstance") [u, c]) Q E s := by
  cases ty with
  | non => cases (show u = Value.none from rx); exact PySem.W.kia_one PySem.W.kitx_none I.kIn True.intro e (fun z => nomatch z) h
  | bl y => cases (show u = Value.bool y from rx); exact PySem.W.kia_one PySem.W.kitx_bool I.kIn True.intro e (fun z => nomatch z) h
  | int i => obtain ⟨t, q⟩ := (show ∃ t, u = Value.int i t from rx); cases q; exact PySem.W.kia_one PySem.W.kitx_int I.kIn True.intro e (fun z => nomatch z) h
  | str y => obtain ⟨t, q⟩ := (show ∃ t, u = Value.str y t from rx); cases q; exact PySem.W.kia_one PySem.W.kitx_str I.kIn True.intro e (fun z => nomatch z) h
  | flt y => obtain ⟨t, q⟩ := (show ∃ t, u = Value.float y t from rx); cases q; exact PySem.W.kia_one PySem.W.kitx_float I.kIn True.intro e (fun z => nomatch z) h
  | @lst a xs ea =>
    cases (show u = Value.ref a from rx)
    obtain ⟨_, _, n, _, h1⟩ := (show ObjOk X.prog X.w H s.heap a (.lst xs) from I.hok a _ ea)
    exact PySem.W.kia_one PySem.W.kitx_list I.kIn ⟨_, h1, rfl⟩ e (fun z => nomatch z) h
  | @frz a ob xs ea =>
    cases (show u = Value.ref a from rx)
    obtain ⟨_, _, _, n, _, h1⟩ := (show ObjOk X.prog X.w H s.heap a (.frz ob (.lst xs)) from I.hok a _ ea)
    exact PySem.W.kia_one PySem.W.kitx_list I.kIn ⟨_, h1, rfl⟩ e (fun z => nomatch z) h
  | @tup a xs ea =>
    cases (show u = Value.ref a from rx)
    obtain ⟨_, _, _, p⟩ := (show ObjOk X.prog X.w H s.heap a (.tup xs) from I.hok a _ ea)
    obtain ⟨o, h1, h2, _⟩ := p
    exact PySem.W.kia_one PySem.W.kitx_tuple I.kIn ⟨o, h1, h2⟩ e (fun z => nomatch z) h
  | @dK a kvs ea =>
    cases (show u = Value.ref a from rx)
    obtain ⟨_, _, vs, _, p⟩ := (show ObjOk X.prog X.w H s.heap a (.dK kvs) from I.hok a _ ea)
    obtain ⟨o, es, ep, h1, h2, _⟩ := p
    exact PySem.W.kia_one PySem.W.kitx_dict I.kIn ⟨o, h1, h2.1⟩ e (fun z => nomatch z) h
  | @dT a kvs ea =>
    cases (show u = Value.ref a from rx)
    obtain ⟨_, _, xs, _, o, es, ep, h1, h2, _⟩ := (show ObjOk X.prog X.w H s.heap a (.dT kvs) from I.hok a _ ea)
    exact PySem.W.kia_one PySem.W.kitx_dict I.kIn ⟨o, h1, h2.1⟩ e (fun z => nomatch z) h
  | @ins a C dx fs ea cl ha hn htk hm =>
    cases (show u = Value.ref a from rx)
    obtain ⟨mA, O, _⟩ := ins_get I.hok ea
    obtain ⟨od, J, _⟩ := O.look
    exact PySem.W.kia_one (PySem.W.kitx_own (cl.get _) cl.hd ha hn htk hm) I.kIn J e (fun z => nomatch z) h
end
end L2

namespace L2
open PySem PySem.Spec PyProof.Rows

/-! ### room -/
structure Room (k : Nat) (A : Around) : Prop where
  hd : A.handled = none
  dp : A.depth + 3 * k + 5 < recursionLimit
  un : A.units + 16 * k + 200 < cLine
theorem Room.mono {j k : Nat} {A : Around} (r : Room k A) (h : j ≤ k) : Room j A := ⟨r.hd, by have := r.dp; omega, by have := r.un; omega⟩
theorem Room.deeper {k : Nat} {A : Around} (r : Room (k + 1) A) (env : Env) : Room k (A.deeper env) :=
  ⟨r.hd, by have := r.dp; show A.depth + 1 + 3 * k + 5 < _; omega, by have := r.un; show A.units + 3 + 16 * k + 200 < _; omega⟩
theorem Room.depth {k : Nat} {A : Around} (r : Room k A) : A.depth < recursionLimit := by have := r.dp; omega
theorem Room.units0 {k : Nat} {A : Around} (r : Room k A) : A.units < cLine := by have := r.un; omega

/-! ### argument lists and displays -/
def tNil : TA := fun _ H Q => Q [] H
def tCons (ta : TE) (tr : TA) : TA := fun σ H Q => ta σ H fun x H1 => tr σ H1 fun xs H2 => Q (x :: xs) H2
section
variable {X : Cx} {e : Expr} {es : List Expr} {te : TE} {t : TA} {pos : Pos}
theorem pa_nil : PA X [] tNil := fun _ _ _ _ H Q I h => Calls.spliced_nil ⟨[], H, I, .nil, h⟩
theorem pa_cons (ha : PE X e te) (hr : PA X es t) (hs : starEach (e :: es) X.env = (false, eval e X.env) :: starEach es X.env := by rfl) : PA X (e :: es) (tCons te t) := by
  intro pos pins s σ H Q I h
  rw [hs]
  show wpAny _ _ (spliced ((false, eval e X.env) :: backTo pos (starEach es X.env))) _ _ s
  refine Calls.spliced_cons (thn (ha pins s σ H _ I h) fun u s1 ⟨x, H1, I1, r1, q1⟩ => ?_)
  exact thn (hr pos pins s1 σ H1 _ I1 q1) fun us s2 ⟨xs, H2, I2, r2, q2⟩ => ⟨x :: xs, H2, I2, .cons r1 r2, q2⟩

/-- a tuple, a list of written items -/
def tTup (t : TA) : TE := fun σ H Q => t σ H fun xs H1 => xs.length ≤ sizeLine ∧ ∀ p, H1 p = none → Q (.ref p) (upd H1 p (.tup xs))
def tLst (t : TA) : TE := fun σ H Q => t σ H fun xs H1 => xs.length ≤ sizeLine ∧ ∀ p, H1 p = none → Q (.ref p) (upd H1 p (.lst xs))
theorem pe_tup {x1} (h : PA X es t) : PE X (.Tuple es x1 pos) (tTup t) := by
  intro pins s σ H Q I hq
  refine wpAny_Tuple_spliced (thn (h pos pins s σ H _ I hq) fun us s1 ⟨xs, H1, I1, r, z, q⟩ => ⟨by rw [← r.length]; exact z, ?_⟩)
  have hf : H1 s1.heap.objs.size = none := I1.hok.fresh (Nat.le_refl _)
  refine ⟨.ref s1.heap.objs.size, upd H1 s1.heap.objs.size (.tup xs), I1.laid (t' := s1.toks) (fun b u e => Heap.get?_push_of_some _ e) (Nat.le_refl _) ?_, rfl, q _ hf⟩
  exact ⟨z, us, r, ⟨_, Heap.get?_push_size _ rfl, rfl, _, rfl⟩⟩
theorem pe_lst (h : PA X es t) : PE X (.List es pos) (tLst t) := by
  intro pins s σ H Q I hq
  refine wpAny_List_spliced (thn (h pos pins s σ H _ I hq) fun us s1 ⟨xs, H1, I1, r, z, q⟩ => ⟨by rw [← r.length]; exact z, ?_⟩)
  have hf : H1 s1.heap.objs.size = none := I1.hok.fresh (Nat.le_refl _)
  refine ⟨.ref s1.heap.objs.size, upd H1 s1.heap.objs.size (.lst xs), I1.laid (t' := s1.toks) (fun b u e => Heap.get?_push_of_some _ e) (Nat.le_refl _) ?_, rfl, q _ hf⟩
  exact ⟨z, us, 0, r, Heap.get?_push_size _ rfl⟩
end

/-! ### what a def promises -/
/-- a def's promise: the bound arguments in the parameters' order, the heap, the wanted end, the wanted exception -/
abbrev Sp := List V → Hp → VK → XK → Prop
/-- how an exception lies behind a call (file 08 gives it): the callers' frames, abstract heap and state ahead of the call, the wish, the exception, the state -/
abbrev CXT := List Env → Hp → Shared → XK → Value → Shared → Prop

/-- the state at a call -/
structure Env0 (P : Program) (w : World) (K : PySem.W.Frag) (mg : Str → Option Value) (base : Heap) (A : Around) (outer : List Env) (s : Shared) (H : Hp) : Prop where
  frames : A.frames = some outer
  mod : Mod K mg base
  bs : ∀ b o, base.get? b = some o → s.heap.get? b = some o ∧ H b = none
  bsz : base.objs.size ≤ s.heap.objs.size
  funs : s.heap.FunFrames base outer
  frf : ∀ b ∈ frs outer, H b = none
  hok : HOk P w H s.heap
  bare : AllBare s.gens
/-- a call's end -/
def CE (outer : List Env) (P : Program) (w : World) (H : Hp) (s : Shared) (Q : VK) (u : Value) (s' : Shared) : Prop :=
  ∃ v H', s'.os = s.os ∧ AllBare s'.gens ∧ Un (frs outer) [] H H' s.heap s'.heap ∧ HOk P w H' s'.heap ∧ RelV v u ∧ Q v H'
def CR (CX : CXT) (outer : List Env) (P : Program) (w : World) (H : Hp) (s : Shared) (Q : VK) (E : XK) (r : Result) (s' : Shared) : Prop :=
  match r with
  | .ok (.ret u) => CE outer P w H s Q u s'
  | .ok _ => False
  | .error e => CX outer H s E e s'
structure FnOk (P : Program) (w : World) (K : PySem.W.Frag) (mg : Str → Option Value) (base : Heap) (CX : CXT) (k : Nat) (f : Addr) (fd : FuncData) (ps : List Str) (sp : Sp) : Prop where
  len : ∀ vs H Q E, sp vs H Q E → vs.length = ps.length
  run : ∀ (A : Around) (outer : List Env) (s : Shared) (H : Hp) (args : Args) (us : List Value) (vs : List V) (Q : VK) (E : XK), Room k A → Env0 P w K mg base A outer s H → BindsTo s fd args (ps.zip us) → Vals vs us → sp vs H Q E →
    codeAny (model P w) A (.call (.ref f) args) (CR CX outer P w H s Q E) s
section
variable {X : Cx} {pins : List (Addr × Obj)} {σ : St} {H : Hp} {s s' : Shared}
/-- from a body: what a callee wants -/
theorem Inv.env0 (I : Inv X pins σ H s) : Env0 X.prog X.w X.K X.mg X.base X.A X.stack s H :=
  ⟨I.ok.frames, I.ok.mod, I.bs, Nat.le_trans I.ok.bsz I.sz, I.stack, I.stkFree, I.hok, I.bare⟩
/-- behind a call -/
theorem Inv.after {Q : VK} {u : Value} (I : Inv X pins σ H s) (h : CE X.stack X.prog X.w H s Q u s') : EP X pins σ Q u s' := by
  obtain ⟨v, H', os, bare, un, hok, r, q⟩ := h
  obtain ⟨hh, g, d, t, os'⟩ := s'
  obtain rfl : os' = s.os := os
  exact ⟨v, H', I.call (h' := hh) (g' := g) (d' := d) (t' := t) (ch := []) un hok bare (fun b z => absurd z (by simp)), r, q⟩
end

/-! ### calls -/
/-- f(..): the written arguments, then the defaults dvs; E: what is wanted of an exception -/
def tCall (sp : Sp) (dvs : List V) (E : XK) (t : TA) : TE := fun σ H Q => t σ H fun vs H1 => sp (vs ++ dvs) H1 Q E
/-- how the parameters are bound: us the positional arguments, kw the keywords' values by name, ds the defaults that fill up -/
def Binds (K : PySem.W.Frag) (fd : FuncData) (ps : List Str) (ds : List Value) : Prop :=
  ∀ (s : Shared) (us : List Value), K.In s.heap → (us ++ ds).length = ps.length → BindsTo s fd ⟨us, []⟩ (ps.zip (us ++ ds))
/-- every parameter is given -/
theorem Binds.all {K : PySem.W.Frag} {fd : FuncData} {ps : List Str} (h : ∀ us : List Value, us.length = ps.length → bindArgs fd ⟨us, []⟩ = pure (ps.zip us)) : Binds K fd ps [] := fun s us _ hl => by
  rw [List.append_nil] at hl ⊢
  exact .of_eq (h us hl)

/-- an exception of a callee reaches what this body wants of exceptions -/
def Passes (CX : CXT) (X : Cx) (E : XK) : Prop := ∀ (pins : List (Addr × Obj)) (σ : St) (H : Hp) (s : Shared) (e : Value) (s' : Shared), Inv X pins σ H s → CX X.stack H s E e s' → X.xe e s'

section
variable {X : Cx} {CX : CXT} {k : Nat} {f C : Addr} {fd : FuncData} {ps : List Str} {sp : Sp} {dvs : List V} {ds : List Value} {E : XK} {x m : Str} {p pos apos : Pos} {e o : Expr} {es : List Expr} {ta : TE} {t : TA}

/-- the callee runs -/
theorem run_fn {pins : List (Addr × Obj)} {σ : St} {H : Hp} {s : Shared} {Q : VK} {us : List Value} {vs : List V} (F : FnOk X.prog X.w X.K X.mg X.base CX k f fd ps sp) (hr : Room k X.A) (hb : Binds X.K fd ps ds) (hd : Vals dvs ds) (hx : Passes CX X E)
    (I : Inv X pins σ H s) (r : Vals vs us) (h : sp (vs ++ dvs) H Q E) : wpAny (model X.prog X.w) X.A (call (.ref f) us) (EP X pins σ Q) X.xe s := by
  have r2 : Vals (vs ++ dvs) (us ++ ds) := r.append hd
  have hl : (us ++ ds).length = ps.length := by rw [← r2.length]; exact F.len _ _ _ _ h
  refine wpAny_call (codeAny_mono (F.run X.A X.stack s H ⟨us, []⟩ (us ++ ds) (vs ++ dvs) Q E hr I.env0 (hb s us I.kIn hl) r2 h) fun r s' hq => ?_)
  cases r with
  | error e => exact hx pins σ H s e s' I hq
  | ok fl =>
    cases fl with
    | ret u => exact I.after hq
    | next => exact False.elim hq
    | brk => exact False.elim hq
    | cont => exact False.elim hq

theorem pe_call (F : FnOk X.prog X.w X.K X.mg X.base CX k f fd ps sp) (hr : Room k X.A) (hg : Gl X x) (hm : X.mg x = some (.ref f)) (hk : PySem.W.keepIn X.K (.ref f) = true) (hb : Binds X.K fd ps ds) (hd : Vals dvs ds) (hx : Passes CX X E)
    (ha : PA X (e :: es) t) (hdb : (x == ("__debug__" : Str)) = false := by decide) (he : starEach (e :: es) X.env = (false, eval e X.env) :: starEach es X.env := by rfl) (hpl : (backTo pos (starEach es X.env)).any (·.1) = false := by rfl) :
    PE X (.Call (.Name x p) (e :: es) [] pos) (tCall sp dvs E t) := by
  intro pins s σ H Q I h
  refine wpAny_Call_Name_kw (ld_glob I hg hm ?_ hdb)
  refine PySem.W.callWith_K (h₀ := X.base) I.ok.mod.kin hk (thn (ha pos pins s σ H _ I h) fun us s1 ⟨vs, H1, I1, r, q⟩ => ⟨I1.kIn, ?_⟩) he hpl
  exact run_fn F hr hb hd hx I1 r q
end

/-! ### keywords -/
section
variable {X : Cx} {CX : CXT} {k : Nat} {f C : Addr} {fd : FuncData} {ps ks : List Str} {sp : Sp} {E : XK} {x m : Str} {p pos apos kpos : Pos} {e o : Expr} {es : List Expr} {kws : List Keyword} {te ta : TE} {t tk : TA} {nm : Option Str}
variable {g : List Value → List Value → List Value} {gV : List V → List V → List V}
end

/-! ### a def's body keeps its promise -/
/-- names: the parameters first -/
structure FnScope (N P : List Str) (sc : Scope) : Prop where
  kind : sc.kind = .function
  co : sc.isCoroutine = false
  gen : sc.isGenerator = false
  nd : N.Nodup
  pre : N.take P.length = P
  par : ∀ x ∈ P, sc.names.lookup x = some .local ∨ sc.names.lookup x = some .cell
  nofree : ∀ y ∈ sc.names, y.2 ≠ .free

theorem bindL_out {kindOf : Str → Option NameKind} {x : Str} : ∀ {binds : List (Str × Value)} {m : Str → Option Value}, (∀ v, (x, v) ∉ binds) → bindL kindOf binds m x = m x
  | [], _, _ => rfl
  | (n, v) :: r, m, h => by
    unfold bindL
    rw [bindL_out fun w hw => h w (List.mem_cons_of_mem _ hw)]
    split
    · have : x ≠ n := by rintro rfl; exact h v List.mem_cons_self
      simp [this]
    · rfl
theorem bindC_out {kindOf : Str → Option NameKind} {x : Str} : ∀ {binds : List (Str × Value)} {m : Str → Option Value}, (∀ v, (x, v) ∉ binds) → bindC kindOf binds m x = m x
  | [], _, _ => rfl
  | (n, v) :: r, m, h => by
    unfold bindC
    rw [bindC_out fun w hw => h w (List.mem_cons_of_mem _ hw)]
    split
    · rfl
    · have : x ≠ n := by rintro rfl; exact h v List.mem_cons_self
      simp [this]
theorem bindL_get {kindOf : Str → Option NameKind} {x : Str} {v : Value} : ∀ {P : List Str} {vs : List Value} {i : Nat} {m : Str → Option Value}, P.Nodup → P[i]? = some x → vs[i]? = some v → kindOf x = some .local →
    bindL kindOf (P.zip vs) m x = some v
  | [], _, _, _, _, h, _, _ => by simp at h
  | _ :: _, [], _, _, _, _, h, _ => by simp at h
  | p :: P, w :: vs, 0, m, nd, h1, h2, hk => by
    simp at h1 h2; subst h1; subst h2
    show bindL kindOf ((p, w) :: P.zip vs) m p = _
    unfold bindL
    rw [bindL_out fun v hv => (List.nodup_cons.mp nd).1 (List.of_mem_zip hv).1, if_pos hk]
    simp
  | p :: P, w :: vs, i + 1, m, nd, h1, h2, hk => by
    show bindL kindOf ((p, w) :: P.zip vs) m x = _
    unfold bindL
    exact bindL_get (i := i) (List.nodup_cons.mp nd).2 (by simpa using h1) (by simpa using h2) hk
theorem bindC_get {kindOf : Str → Option NameKind} {x : Str} {v : Value} : ∀ {P : List Str} {vs : List Value} {i : Nat} {m : Str → Option Value}, P.Nodup → P[i]? = some x → vs[i]? = some v → kindOf x ≠ some .local →
    bindC kindOf (P.zip vs) m x = some v
  | [], _, _, _, _, h, _, _ => by simp at h
  | _ :: _, [], _, _, _, _, h, _ => by simp at h
  | p :: P, w :: vs, 0, m, nd, h1, h2, hk => by
    simp at h1 h2; subst h1; subst h2
    show bindC kindOf ((p, w) :: P.zip vs) m p = _
    unfold bindC
    rw [bindC_out fun v hv => (List.nodup_cons.mp nd).1 (List.of_mem_zip hv).1, if_neg hk]
    simp
  | p :: P, w :: vs, i + 1, m, nd, h1, h2, hk => by
    show bindC kindOf ((p, w) :: P.zip vs) m x = _
    unfold bindC
    exact bindC_get (i := i) (List.nodup_cons.mp nd).2 (by simpa using h1) (by simpa using h2) hk

/-- the names' values at the entry -/
def start (N : List Str) (vs : List V) : St := vs.map some ++ List.replicate (N.length - vs.length) none

/-- the context of a def's body, at its entry; an exception leaves the frame, then lies as CX says -/
def cxOf (CX : CXT) (P : Program) (w : World) (K : PySem.W.Frag) (mg : Str → Option Value) (base : Heap) (N : List Str) (qual : Str) (scope : Scope) (f : Addr) (cd : Value) (A : Around) (outer : List Env) (s : Shared) (H : Hp) (E : XK) : Cx where
  prog := P
  w := w
  K := K
  mg := mg
  base := base
  A := A.deeper (envOfC qual scope s.heap.objs.size f cd)
  N := N
  s₀ := s
  H₀ := H
  env := envOfC qual scope s.heap.objs.size f cd
  outer := outer
  stack := envOfC qual scope s.heap.objs.size f cd :: outer
  ex := []
  calm := true
  fn := fun _ => true
  pn := []
  xe := fun e s' => wpAny (model P w) (A.deeper (envOfC qual scope s.heap.objs.size f cd)) (leaving (envOfC qual scope s.heap.objs.size f cd) e) (fun _ s'' => CX outer H s E e s'') (fun e' s'' => CX outer H s E e' s'') s'

theorem cell_has {sc : Scope} {n : Nat} {x : Str} (h : sc.names.lookup x = some .cell) : ∃ c, (cellsFrom n sc.names []).lookup x = some c := by
  have q := PySem.W.cellsFrom_some sc.names n [] (.inl h)
  exact Option.isSome_iff_exists.mp q

theorem inv_start {CX : CXT} {P : Program} {w : World} {K : PySem.W.Frag} {mg : Str → Option Value} {base : Heap} {N ps : List Str} {qual : Str} {scope : Scope} {f : Addr} {cd : Value} {A : Around} {outer : List Env} {s s1 : Shared} {H : Hp} {E : XK} {us : List Value} {vs : List V}
    (S : FnScope N ps scope) (hd : A.handled = none) (e0 : Env0 P w K mg base A outer s H) (hl : vs.length = ps.length) (r : Vals vs us)
    (x : InCallC s s.heap.objs.size (bindL (envOfC qual scope s.heap.objs.size f cd).kindOf (ps.zip us) fun _ => none) (cellsFrom (s.heap.objs.size + 1) scope.names []) (bindC (envOfC qual scope s.heap.objs.size f cd).kindOf (ps.zip us) fun _ => none) s1) :
    Inv (cxOf CX P w K mg base N qual scope f cd A outer s H E) [] (start N vs) H s1 := by
  have hpl : ps.length ≤ N.length := by have := congrArg List.length S.pre; rw [List.length_take] at this; omega
  obtain ⟨h1, tk, rfl, hk⟩ := x.done
  have noA : ∀ b : Addr, b ∉ (cxOf CX P w K mg base N qual scope f cd A outer s H E).ex := fun b z => absurd (show b ∈ ([] : List Addr) from z) (by simp)
  refine ⟨⟨e0.mod, S.kind, rfl, rfl, Nat.le_refl _, fun y z c h1 h2 => ?_, fun y hy => ?_, fun y c _ h => ?_, fun _ => hd, Around.frames_deeper e0.frames, .inr ⟨rfl, rfl⟩, fun b z => absurd z (noA b), e0.bs, e0.bsz, fun b _ _ => noA b, fun b z => absurd z (noA b), e0.funs, e0.frf⟩,
    rfl, e0.bare, Un.kept hk, ⟨_, x.toInCall.ns, fun i y v h1 h2 h3 => ?_⟩, fun y c h => ⟨_, x.cell y c h⟩, e0.hok.fresh (Nat.le_refl _), fun y c h => ?_, fun p hp => absurd (show p ∈ ([] : List (Addr × Obj)) from hp) (by simp), e0.hok.kept hk, ?_⟩
  · exact name_of_addr x.apart (PySem.mem_of_lookup h1) (PySem.mem_of_lookup h2)
  · have hy : scope.names.lookup y = some .cell ∨ scope.names.lookup y = some .free := hy
    rcases hy with hy | hy
    · exact cell_has hy
    · exact absurd rfl (S.nofree _ (PySem.mem_of_lookup hy))
  · exact Nat.le_of_lt (x.above y c (PySem.mem_of_lookup h))
  · have hi : i < vs.length := by
      unfold start at h2
      by_cases hi : i < vs.length
      · exact hi
      · rw [List.getElem?_append_right (by simpa using hi)] at h2
        rw [List.getElem?_replicate] at h2
        split at h2 <;> cases h2
    have ha : vs[i]? = some v := by
      unfold start at h2
      rw [List.getElem?_append_left (by simpa using hi), List.getElem?_map] at h2
      cases e : vs[i]? with
      | none => rw [e] at h2; cases h2
      | some a => rw [e] at h2; cases h2; rfl
    obtain ⟨u, hu, rv⟩ := r.get ha
    have hp : ps[i]? = some y := by
      rw [← S.pre, List.getElem?_take_of_lt (by omega)]; exact h1
    have ndP : ps.Nodup := by rw [← S.pre]; exact S.nd.sublist (List.take_sublist _ _)
    refine ⟨u, rv, ?_⟩
    rcases S.par y (List.mem_of_getElem? hp) with k | k
    · exact .inl ⟨k, bindL_get ndP hp hu k⟩
    · obtain ⟨c, e⟩ := cell_has (n := s.heap.objs.size + 1) k
      refine .inr ⟨.inl k, c, e, ?_⟩
      have q := x.cell y c e
      rw [bindC_get ndP hp hu (by show scope.names.lookup y ≠ _; rw [k]; decide)] at q
      exact q
  · exact e0.hok.fresh (Nat.le_of_lt (x.above y c (PySem.mem_of_lookup h)))
  · unfold start
    show _ = N.length
    rw [List.length_append, List.length_map, List.length_replicate]
    omega

/-- THE RULE: a def (or a method) of the text, by its body. The body's reading t is chosen for each entry; it is run at the parameters' values -/
theorem fn_of {CX : CXT} {P : Program} {w : World} {K : PySem.W.Frag} {mg : Str → Option Value} {base : Heap} {k : Nat} {f : Addr} {name qual : Str} {params : Arguments} {body : List Stmt} {scope : Scope} {dV kV doc pm cdv ct oc : Value} {an od : Option Addr}
    {osl : Array (Option Value)} {N ps : List Str} {sp : Sp} (lk : K.lookup f = some ⟨oc, od, .func (PySem.W.fnOf name qual params body scope dV kV doc pm an cdv ct), osl⟩) (hcd : PySem.W.codeIn K cdv qual = true) (S : FnScope N ps scope)
    (len : ∀ vs H Q E, sp vs H Q E → vs.length = ps.length)
    (hbody : ∀ (A : Around) (outer : List Env) (s : Shared) (H : Hp) (vs : List V) (Q : VK) (E : XK), Room k (A.deeper (envOfC qual scope s.heap.objs.size f cdv)) → sp vs H Q E →
      ∃ t, PSs (cxOf CX P w K mg base N qual scope f cdv A outer s H E) body t ∧ t { nx := fun _ H' => Q .non H', rt := Q } (start N vs) H) :
    FnOk P w K mg base CX (k + 1) f (PySem.W.fnOf name qual params body scope dV kV doc pm an cdv ct) ps sp := by
  refine ⟨len, fun A outer s H args us vs Q E hr e0 hb r hsp => ?_⟩
  have hl := len _ _ _ _ hsp
  have KX : K.In s.heap := e0.mod.kin.keeps fun b o e => (e0.bs b o e).1
  have lim : s.heap.NoLimit := e0.mod.nolimit.keeps fun b o e => (e0.bs b o e).1
  have hkind : ∀ y ∈ ps.zip us, scope.names.lookup y.1 = some .local ∨ (scope.names.lookup y.1 = some .cell ∧ ((cellsFrom (s.heap.objs.size + 1) scope.names []).lookup y.1).isSome = true) := fun ⟨n, v⟩ hy => by
    rcases S.par n (List.of_mem_zip hy).1 with q | q
    · exact .inl q
    · exact .inr ⟨q, PySem.W.cellsFrom_some _ _ _ (.inl q)⟩
  refine codeAny_call_function hr.depth (KX _ _ lk) rfl S.co S.gen rfl (PySem.W.codeRec_of KX hcd) (hb _ _ _ _ ?_)
  refine wpAny_newFunctionEnv_cells S.kind hkind fun env he s1 x => ?_
  subst he
  refine ⟨lim.keeps x.toInCall.keep, codeAny_func ?_⟩
  obtain ⟨t, ht, hq⟩ := hbody A outer s H vs Q E (hr.deeper _) hsp
  have I : Inv (cxOf CX P w K mg base N qual scope f cdv A outer s H E) [] (start N vs) H s1 := inv_start S hr.hd e0 hl r x
  refine wpAny_mono (ht [] s1 (start N vs) H _ I hq) (fun fl s' hs => ?_) fun e s' hs => hs
  have fin : ∀ {σ' : St} {H' : Hp} {v : V} {u : Value}, Inv (cxOf CX P w K mg base N qual scope f cdv A outer s H E) [] σ' H' s' → RelV v u → Q v H' → CE outer P w H s Q u s' :=
    fun {σ' H' v u} J rv q => ⟨v, H', J.os, J.bare, J.base, J.hok, rv, q⟩
  cases fl with
  | ret u =>
    obtain ⟨v, σ', H', J, rv, q⟩ := hs
    exact fin J rv q
  | next =>
    obtain ⟨σ', H', J, q⟩ := hs
    exact fin (v := V.non) (u := Value.none) J rfl q
  | brk =>
    obtain ⟨_, _, _, q⟩ := hs
    exact False.elim q
  | cont =>
    obtain ⟨_, _, _, q⟩ := hs
    exact False.elim q
end L2

namespace L2
open PySem PySem.Spec PyProof.Rows
section
variable {X : Cx} {x : Str} {p pos : Pos} {e : Expr} {es : List Expr} {t : TA} {id T : String} {r : List V → Hp → VK → Prop}

def tCB (r : List V → Hp → VK → Prop) (t : TA) : TE := fun σ H Q => t σ H fun vs H1 => r vs H1 Q
/-- f(e, ..), f a built-in function -/
theorem pe_callB (hc : CallR X (.builtin id) r) (hg : Gl X x) (hm : X.mg x = none) (hv : bootBuiltins x = some (.builtin id)) (ha : PA X (e :: es) t) (hn : x ≠ "__name__" := by decide) (hdb : (x == ("__debug__" : Str)) = false := by decide)
    (he : starEach (e :: es) X.env = (false, eval e X.env) :: starEach es X.env := by rfl) (hpl : (backTo pos (starEach es X.env)).any (·.1) = false := by rfl) : PE X (.Call (.Name x p) (e :: es) [] pos) (tCB r t) := by
  intro pins s σ H Q I h
  refine wpAny_Call_Name_kw (ld_blt I hg hm hv ?_ hn hdb)
  exact PyProof.Rows.callWith_builtin1 (thn (ha pos pins s σ H _ I h) fun us s1 ⟨vs, H1, I1, r1, q1⟩ => hc pins s1 σ H1 vs us Q I1 r1 q1) he hpl
end
end L2

namespace HT
open PySem PyProof.Rows

section
open PySem.SeqAt
open PySem.AutoSeq1 (wpAny_loadPart')
open PySem.MeetsSeq PySem.MeetsSeq2 PySem.MeetsSeq3

end

section
variable {prog : Program} {w : World} {A : Around} {E : Value → Shared → Prop} {s : Shared}

/-! ### t[a:b], not the whole -/
/-- a slice's bound as a place among n (d where it is left out) -/
def sIx (n d : Nat) : Option Int → Nat
  | none => d
  | some v => if v < 0 then (v + (n : Int)).toNat else min v.toNat n
theorem sIx_none (n d : Nat) : sIx n d none = d := rfl
theorem sIx_nat (n d k : Nat) : sIx n d (some (k : Int)) = min k n := by
  show (if (k : Int) < 0 then ((k : Int) + (n : Int)).toNat else min (k : Int).toNat n) = min k n
  rw [if_neg (by omega), Int.toNat_natCast]
end
end HT

namespace L2
open PySem PySem.Spec PyProof.Rows

/-! ### the parts of a slice -/
abbrev TO := St → Hp → (Option Int → Hp → Prop) → Prop
/-- a slice's part (left out, or an int) -/
def PO (X : Cx) (e : Option Expr) (t : TO) : Prop :=
  ∀ (pins : List (Addr × Obj)) (s : Shared) (σ : St) (H : Hp) (Q : Option Int → Hp → Prop), Inv X pins σ H s → t σ H Q →
    wpAny (model X.prog X.w) X.A (evalPart e X.env) (fun u s' => ∃ o H', Inv X pins σ H' s' ∧ IsPart u o ∧ Q o H') X.xe s
def tNoPart : TO := fun _ H Q => Q none H
def tPart (t : TE) : TO := fun σ H Q => t σ H fun x H1 => ∃ i, x = .int i ∧ Q (some i) H1

section
variable {X : Cx} {e : Expr} {te : TE} {lo hi : Option Expr} {tl th : TO} {pos p2 : Pos}

theorem po_none : PO X none tNoPart := by
  intro pins s σ H Q I h
  rw [evalPart_none]
  exact wpAny_pure ⟨none, H, I, .none, h⟩
theorem po_some (h : PE X e te) : PO X (some e) (tPart te) := by
  intro pins s σ H Q I hw
  rw [evalPart_some]
  refine thn (h pins s σ H _ I hw) fun u s1 ⟨x, H1, I1, r1, q1⟩ => ?_
  obtain ⟨i, rfl, q⟩ := q1
  obtain ⟨t, rfl⟩ := r1
  exact ⟨some i, H1, I1, .int i t, q⟩

/-- what a slice of a value is, by values: the slice object stands at sl -/
def SlR (X : Cx) (r : V → Option Int → Option Int → Hp → VK → Prop) : Prop :=
  ∀ (pins : List (Addr × Obj)) (s : Shared) (σ : St) (H : Hp) (x : V) (v vl vu : Value) (lo hi : Option Int) (sl : Addr) (Q : VK), Inv X pins σ H s → RelV x v → s.heap.IsSliceOf sl vl vu .none → IsPart vl lo → IsPart vu hi → r x lo hi H Q →
    ∃ T id, typeLookup (.type T) "__getitem__" = pure (some (.builtin id)) ∧ s.TypeIs v T ∧ wpAny (model X.prog X.w) X.A (getItem v (.ref sl)) (EP X pins σ Q) X.xe s
def tSl (r : V → Option Int → Option Int → Hp → VK → Prop) (te : TE) (tl th : TO) : TE := fun σ H Q => te σ H fun x H1 => tl σ H1 fun l H2 => th σ H2 fun u H3 => r x l u H3 Q
/-- a[lo:hi], any a -/
theorem pe_slice {r : V → Option Int → Option Int → Hp → VK → Prop} (hr : SlR X r) (he : PE X e te) (hl : PO X lo tl) (hu : PO X hi th) : PE X (.Subscript e (.Slice lo hi none p2) pos) (tSl r te tl th) := by
  intro pins s σ H Q I h
  refine Subscript_ (thn (he pins s σ H _ I h) fun v s1 ⟨x, H1, I1, r1, q1⟩ => ?_)
  refine wpAny_Slice (thn (hl pins s1 σ H1 _ I1 q1) fun vl s2 ⟨l, H2, I2, pl, q2⟩ => thn (hu pins s2 σ H2 _ I2 q2) fun vu s3 ⟨u, H3, I3, pu, q3⟩ => ?_)
  rw [evalPart_none]
  refine wpAny_pure ?_
  have I4 : Inv X pins σ H3 { s3 with heap := s3.heap.push { cls := .type "slice", data := .fields #[vl, vu, .none] } } := I3.kept (t' := s3.toks) fun b ob q => Heap.get?_push_of_some _ q
  obtain ⟨T, id, hT, ht, hg⟩ := hr pins { s3 with heap := s3.heap.push { cls := .type "slice", data := .fields #[vl, vu, .none] } } σ H3 x v vl vu l u s3.heap.objs.size Q I4 r1 (Heap.IsSliceOf.new ..) pl pu q3
  show wpAny (model X.prog X.w) X.A (subscriptTail e (.Slice lo hi none p2) v (.ref s3.heap.objs.size)) (EP X pins σ Q) X.xe { s3 with heap := s3.heap.push { cls := .type "slice", data := .fields #[vl, vu, .none] } }
  exact tail_any (ops := [.ref s3.heap.objs.size, v]) ht hT hg (by with_unfolding_all rfl)

/-- the items of xs[lo:hi] -/
def cutV (xs : List V) (lo hi : Option Int) : List V := (xs.drop (HT.sIx xs.length 0 lo)).take (HT.sIx xs.length xs.length hi - HT.sIx xs.length 0 lo)
theorem cutV_length (xs : List V) (lo hi : Option Int) : (cutV xs lo hi).length ≤ xs.length := by
  unfold cutV
  rw [List.length_take, List.length_drop]
  omega
/-! ### t < u, t + u -/
end
end L2

namespace L2
open PySem PySem.Spec PyProof.Rows

/-! ### places -/
/-- the place that an index of any sign means -/
def ixN (n : Nat) (i : Int) : Option Nat := if 0 ≤ i then (if i < n then some i.toNat else none) else if -(n : Int) ≤ i then some (i + n).toNat else none
def atI {α : Type} (xs : List α) (i : Int) : Option α := (ixN xs.length i).bind fun j => xs[j]?
theorem ixN_seq {n : Nat} {i : Int} {j : Nat} (h : ixN n i = some j) : seqIndex? i n = some j ∧ j < n ∧ -(n : Int) ≤ i ∧ i < n := by
  unfold ixN at h
  by_cases h0 : 0 ≤ i
  · rw [if_pos h0] at h
    by_cases h1 : i < n
    · rw [if_pos h1] at h
      have e : i.toNat = j := Option.some.inj h
      exact ⟨by rw [seqIndex_of h0 h1, e], by omega, by omega, h1⟩
    · rw [if_neg h1] at h; cases h
  · rw [if_neg h0] at h
    by_cases h1 : -(n : Int) ≤ i
    · rw [if_pos h1] at h
      have e : (i + n).toNat = j := Option.some.inj h
      exact ⟨by rw [seqIndex_neg (by omega) h1, e], by omega, h1, by omega⟩
    · rw [if_neg h1] at h; cases h
theorem atI_get {α : Type} {xs : List α} {i : Int} {v : α} (h : atI xs i = some v) : ∃ j, seqIndex? i xs.length = some j ∧ xs[j]? = some v ∧ j < xs.length ∧ -(xs.length : Int) ≤ i ∧ i < xs.length := by
  unfold atI at h
  cases e : ixN xs.length i with
  | none => rw [e] at h; cases h
  | some j =>
    rw [e] at h
    obtain ⟨h1, h2, h3, h4⟩ := ixN_seq e
    exact ⟨j, h1, h, h2, h3, h4⟩
theorem atI_nat {α : Type} {xs : List α} {j : Nat} {v : α} (h : xs[j]? = some v) : atI xs (j : Int) = some v := by
  have hj : j < xs.length := (List.getElem?_eq_some_iff.mp h).1
  have e : ixN xs.length (j : Int) = some j := by
    unfold ixN
    rw [if_pos (by omega), if_pos (by omega)]; simp
  unfold atI; rw [e]; exact h
/-! ### what may be subscripted -/
/-- what stands as an index of a plain subscript -/
def PlainIx (b : Expr) : Prop := ∀ o i, subscripted b false o i = operate [o, i] (getItem o i)
/-- a subscript by values -/
def IxR (X : Cx) (r : R2) : Prop :=
  ∀ (value slice : Expr) (pins : List (Addr × Obj)) (s : Shared) (σ : St) (H : Hp) (x y : V) (v u : Value) (Q : VK), Inv X pins σ H s → RelV x v → RelV y u → r x y H Q →
    subscripted slice false v u = operate [v, u] (getItem v u) → wpAny (model X.prog X.w) X.A (subscriptTail value slice v u) (EP X pins σ Q) X.xe s
/-- a call of a builtin's method by values: the receiver, the arguments -/
def MtR (X : Cx) (id : String) (r : V → List V → Hp → VK → Prop) : Prop :=
  ∀ (pins : List (Addr × Obj)) (s : Shared) (σ : St) (H : Hp) (x : V) (xs : List V) (v : Value) (us : List Value) (Q : VK), Inv X pins σ H s → RelV x v → Vals xs us → r x xs H Q →
    wpAny (model X.prog X.w) X.A (call (.builtin id) (v :: us)) (EP X pins σ Q) X.xe s
section
variable {X : Cx} {a b : Expr} {ta tb : TE} {pos : Pos}
/-- a[b] -/
theorem pe_ix {r : R2} (hr : IxR X r) (ha : PE X a ta) (hb : PE X b tb) (hs : PlainIx b) : PE X (.Subscript a b pos) (tOp r ta tb) := by
  intro pins s σ H Q I h
  exact Subscript_ (binT ha hb I h fun v u s2 x y H2 I2 rx ry q => hr a b pins s2 σ H2 x y v u Q I2 rx ry q (hs _ _))

def rIxL (K : PySem.W.Frag) : R2 := fun x y H Q => ∃ p xs i v, x = .ref p ∧ y = .int i ∧ SqL K H p xs ∧ atI xs i = some v ∧ Q v H
def rIxT (K : PySem.W.Frag) : R2 := fun x y H Q => ∃ p xs i v, x = .ref p ∧ y = .int i ∧ SqT K H p xs ∧ atI xs i = some v ∧ Q v H
theorem ix_list : IxR X (rIxL X.K) := by
  intro value slice pins s σ H x y v u Q I rx ry h hs
  obtain ⟨p, xs, i, z, rfl, rfl, hq, he, q⟩ := h
  cases rx
  obtain ⟨t, rfl⟩ := ry
  obtain ⟨its, r, pl, hz⟩ := I.list hq
  obtain ⟨j, h1, h2, h3, h4, h5⟩ := atI_get he
  obtain ⟨w, ew, rw'⟩ := r.get h2
  have hl := r.length
  have hn := line63
  have fin : EP X pins σ Q w s := ⟨z, H, I, rw', q⟩
  by_cases h0 : 0 ≤ i
  · have hj : i.toNat = j := by
      rw [seqIndex_of h0 h5] at h1
      exact Option.some.inj h1
    exact item_listR pl.isList h0 (by omega) (by rw [hj]; simpa using ew) fin hs
  · have hj : (i + (its.toArray.size : Int)).toNat = j := by
      rw [seqIndex_neg (by omega) h4] at h1
      rw [List.size_toArray, ← hl]
      exact Option.some.inj h1
    exact subscriptTail_builtinR (x := w) pl.isList.typeIs slot_list_getitem.lookup
      (wpAny_getItem_list_neg (Q := fun r s' => r = w ∧ EP X pins σ Q r s') pl.isList (by omega) (by rw [List.size_toArray] <;> omega) (by omega) (by rw [hj]; simpa using ew) ⟨rfl, fin⟩) hs
theorem ix_tup : IxR X (rIxT X.K) := by
  intro value slice pins s σ H x y v u Q I rx ry h hs
  obtain ⟨p, xs, i, z, rfl, rfl, hq, he, q⟩ := h
  cases rx
  obtain ⟨t, rfl⟩ := ry
  obtain ⟨its, r, pl, hz⟩ := I.tuple hq
  obtain ⟨j, h1, h2, h3, h4, h5⟩ := atI_get he
  obtain ⟨w, ew, rw'⟩ := r.get h2
  have hl := r.length
  have hn := line63
  have fin : EP X pins σ Q w s := ⟨z, H, I, rw', q⟩
  exact subscriptTail_builtinR (x := w) pl.typeIs slot_tuple_getitem.lookup
    (getItem_tuple (j := j) (Q := fun r s' => r = w ∧ EP X pins σ Q r s') pl (by omega) (by omega) (by rw [List.size_toArray, ← hl]; exact h1) (by simpa using ew) ⟨rfl, fin⟩) hs
/-! ### xs[i] = v, any sign -/
/-! ### slices -/
theorem slice_bounds (lo hi : Option Int) (n : Nat) : (sliceBounds lo hi none n).1 = ((HT.sIx n 0 lo : Nat) : Int) ∧ (sliceBounds lo hi none n).2.1 = ((HT.sIx n n hi : Nat) : Int) ∧ (sliceBounds lo hi none n).2.2 = 1 := by
  refine ⟨?_, ?_, rfl⟩
  · cases lo with
    | none => simp [sliceBounds, HT.sIx]
    | some i =>
      simp only [sliceBounds, HT.sIx, Option.getD_none, show (1 : Int) > 0 by decide, if_true]
      by_cases h : i < 0
      · simp only [h, if_true] <;> omega
      · simp only [h, if_false] <;> omega
  · cases hi with
    | none => simp [sliceBounds, HT.sIx]
    | some i =>
      simp only [sliceBounds, HT.sIx, Option.getD_none, show (1 : Int) > 0 by decide, if_true]
      by_cases h : i < 0
      · simp only [h, if_true] <;> omega
      · simp only [h, if_false] <;> omega
theorem slicePick_cut (its : List Value) (lo hi : Option Int) : slicePick its.toArray lo hi none = ((its.drop (HT.sIx its.length 0 lo)).take (HT.sIx its.length its.length hi - HT.sIx its.length 0 lo)).toArray := by
  obtain ⟨h1, h2, h3⟩ := slice_bounds lo hi its.toArray.size
  unfold slicePick
  rw [h1, h2, h3]
  simp only [sliceRange_one, pick_run, List.size_toArray] <;> rfl
/-- xs[lo:hi] of a list: a new list -/
def rSlL (K : PySem.W.Frag) : V → Option Int → Option Int → Hp → VK → Prop := fun x lo hi H Q => ∃ a xs, x = .ref a ∧ SqL K H a xs ∧ ∀ p, H p = none → Q (.ref p) (upd H p (.lst (cutV xs lo hi)))
theorem sl_list : SlR X (rSlL X.K) := by
  intro pins s σ H x v vl vu lo hi sl Q I rx hs pl pu h
  obtain ⟨a, xs, rfl, hx, q⟩ := h
  cases rx
  obtain ⟨its, r, ht, hz⟩ := I.list hx
  have hlen := r.length
  refine ⟨"list", _, slot_list_getitem.lookup, ht.isList.typeIs, ?_⟩
  refine wpAny_getItem_list_slice ht.isList hs pl pu .none (by simp) ?_ (by rw [List.size_toArray] <;> omega)
  rw [slicePick_cut, ← hlen]
  refine ⟨.ref s.heap.objs.size, _, I.laid (t' := s.toks) (o := .lst (cutV xs lo hi)) (fun b ob q => Heap.get?_push_of_some _ q) (Nat.le_refl _) ?_, rfl, q _ (I.hok.fresh (Nat.le_refl _))⟩
  exact ⟨Nat.le_trans (cutV_length xs lo hi) hz, _, 0, (r.drop (HT.sIx xs.length 0 lo)).take (HT.sIx xs.length xs.length hi - HT.sIx xs.length 0 lo), Heap.get?_push_size _ rfl⟩

/-! ### in, not in: flat items -/
def flatV : V → Bool
  | .non => true
  | .bl _ => true
  | .int _ => true
  | .str _ => true
  | _ => false
/-- == of flat values -/
def eqV : V → V → Bool
  | .non, .non => true
  | .bl a, .bl b => a == b
  | .bl a, .int b => (if a then 1 else 0) == b
  | .int a, .bl b => a == (if b then 1 else 0)
  | .int a, .int b => a == b
  | .str a, .str b => a == b
  | _, _ => false
theorem eqAt_V {A : Around} {s : Shared} {y x : V} {u v : Value} (ry : RelV y u) (rx : RelV x v) (fy : flatV y = true) (fx : flatV x = true) : SeqAt.EqAt A s u v (eqV y x) := by
  cases y with
  | non =>
    cases ry
    cases x with
    | non => cases rx; exact SeqAt.EqAt.same _
    | bl b => cases rx; exact SeqAt.EqAt.none_bool b
    | int b => obtain ⟨t, rfl⟩ := rx; exact SeqAt.EqAt.none_int b t
    | str b => obtain ⟨t, rfl⟩ := rx; exact SeqAt.EqAt.none_str b t
    | _ => exact absurd (show false = true from fx) Bool.false_ne_true
  | bl a =>
    cases ry
    cases x with
    | non => cases rx; exact SeqAt.EqAt.bool_none a
    | bl b => cases rx; exact SeqAt.EqAt.bool_bool a b
    | int b => obtain ⟨t, rfl⟩ := rx; exact SeqAt.EqAt.bool_int a b t
    | str b => obtain ⟨t, rfl⟩ := rx; exact SeqAt.EqAt.bool_str a b t
    | _ => exact absurd (show false = true from fx) Bool.false_ne_true
  | int a =>
    obtain ⟨t', rfl⟩ := ry
    cases x with
    | non => cases rx; exact SeqAt.EqAt.int_none a t'
    | bl b => cases rx; exact SeqAt.EqAt.int_bool a t' b
    | int b => obtain ⟨t, rfl⟩ := rx; exact SeqAt.EqAt.int_int a t' b t
    | str b => obtain ⟨t, rfl⟩ := rx; exact SeqAt.EqAt.int_str a t' b t
    | _ => exact absurd (show false = true from fx) Bool.false_ne_true
  | str a =>
    obtain ⟨t', rfl⟩ := ry
    cases x with
    | non => cases rx; exact SeqAt.EqAt.str_none a t'
    | bl b => cases rx; exact SeqAt.EqAt.str_bool a t' b
    | int b => obtain ⟨t, rfl⟩ := rx; exact SeqAt.EqAt.str_int a t' b t
    | str b => obtain ⟨t, rfl⟩ := rx; exact SeqAt.EqAt.str_str a t' b t
    | _ => exact absurd (show false = true from fx) Bool.false_ne_true
  | _ => exact absurd (show false = true from fy) Bool.false_ne_true
/-! ### len, list(x), tuple(x) of any list or tuple that is read -/
theorem call_len_seq : CallR X (.builtin "len") (fun xs H Q => ∃ p ys, xs = [.ref p] ∧ (SqL X.K H p ys ∨ SqT X.K H p ys) ∧ Q (.int ys.length) H) := by
  intro pins s σ H xs us Q I r h
  obtain ⟨p, ys, rfl, hq, q⟩ := h
  obtain ⟨u, rfl, rx⟩ := vals1 r
  cases rx
  have hn := line63
  rcases hq with hq | hq
  · obtain ⟨its, r', pl, hz⟩ := I.list hq
    have hlen := r'.length
    exact Calls.call_len_list pl.isList (by simp only [List.size_toArray] <;> omega) ⟨.int ys.length, H, I.tok _, ⟨s.toks + 1, by rw [List.size_toArray, hlen]⟩, q⟩
  · obtain ⟨its, r', pl, hz⟩ := I.tuple hq
    have hlen := r'.length
    exact len_tuple pl (by simp only [List.size_toArray] <;> omega) ⟨.int ys.length, H, I.tok _, ⟨s.toks + 1, by rw [List.size_toArray, hlen]⟩, q⟩
/-! ### the call of a builtin's method: o.m(..) -/
/-- the value is of that builtin type -/
def tyV (K : PySem.W.Frag) (T : String) (x : V) (H : Hp) : Prop := match x with
  | .str _ => T = "str"
  | .int _ => T = "int"
  | .ref p => (T = "list" ∧ ∃ xs, SqL K H p xs) ∨ (T = "tuple" ∧ ∃ o, K.lookup p = some o ∧ o.cls = .type "tuple" ∧ o.dict = none) ∨
      (T = "dict" ∧ ((∃ kvs, H p = some (.dK kvs)) ∨ ∃ kvs, H p = some (.dT kvs))) ∨ (T = "set" ∧ ∃ S n, H p = some (.set S n))
  | _ => False
theorem tyV_is {pins : List (Addr × Obj)} {σ : St} {H : Hp} {s : Shared} {T : String} {x : V} {v : Value} (I : Inv X pins σ H s) (r : RelV x v) (ty : tyV X.K T x H) :
    s.TypeIs v T ∧ ∀ a, v = .ref a → ∃ ob, s.heap.get? a = some ob ∧ ob.dict = none := by
  cases x with
  | str z =>
    obtain ⟨t, rfl⟩ := r
    cases (show T = "str" from ty)
    exact ⟨typeIs_str s z t, fun _ e => nomatch e⟩
  | int i =>
    obtain ⟨t, rfl⟩ := r
    cases (show T = "int" from ty)
    exact ⟨typeIs_int s i t, fun _ e => nomatch e⟩
  | ref p =>
    cases r
    rcases ty with ⟨rfl, xs, hq⟩ | ⟨rfl, o, hk, hc, hd⟩ | ⟨rfl, hk⟩ | ⟨rfl, S, n, hk⟩
    · obtain ⟨its, _, pl, _⟩ := I.list hq
      refine ⟨pl.isList.typeIs, fun a e => ?_⟩
      cases e
      obtain ⟨o, n, e, c, hd, _⟩ := pl
      exact ⟨o, e, hd⟩
    · refine ⟨⟨o, I.kIn p o hk, hc⟩, fun a e => ?_⟩
      cases e
      exact ⟨o, I.kIn _ o hk, hd⟩
    · have z : ∃ o, s.heap.get? p = some o ∧ o.ExactDict := by
        rcases hk with ⟨kvs, hk⟩ | ⟨kvs, hk⟩
        · obtain ⟨_, _, _, _, o, _, _, e, ex, _⟩ := I.hok p _ hk
          exact ⟨o, e, ex⟩
        · obtain ⟨_, _, _, _, o, _, _, e, ex, _⟩ := I.hok p _ hk
          exact ⟨o, e, ex⟩
      obtain ⟨o, e, ex⟩ := z
      refine ⟨⟨o, e, ex.1⟩, fun a e2 => ?_⟩
      cases e2
      exact ⟨o, e, ex.2.1⟩
    · obtain ⟨o, _, _, _, e, ex, _⟩ := I.hok p _ hk
      refine ⟨⟨o, e, ex.1⟩, fun a e2 => ?_⟩
      cases e2
      exact ⟨o, e, ex.2.1⟩
  | _ => exact False.elim ty
def tBM0 (K : PySem.W.Frag) (T : String) (r : V → List V → Hp → VK → Prop) (to : TE) : TE := fun σ H Q => to σ H fun x H1 => tyV K T x H1 ∧ r x [] H1 Q
def tBM (K : PySem.W.Frag) (T : String) (r : V → List V → Hp → VK → Prop) (to : TE) (t : TA) : TE := fun σ H Q => to σ H fun x H1 => tyV K T x H1 ∧ t σ H1 fun xs H2 => r x xs H2 Q
variable {o e : Expr} {es : List Expr} {to : TE} {t : TA} {name : Str} {apos cpos : Pos} {T id : String} {r : V → List V → Hp → VK → Prop}
theorem pe_bm0 (pa : PlainAttrs T) (slot : Slot T name id) (hty : typeOf (.builtin id) = pure (.type "method_descriptor")) (hm : MtR X id r) (ho : PE X o to)
    (hbase : attributeBase o name X.env (eval o X.env) = eval o X.env := by rfl) (hline : (apos.endLine == cpos.line) = true := by rfl) : PE X (.Call (.Attribute o name apos) [] [] cpos) (tBM0 X.K T r to) := by
  intro pins s σ H Q I h
  refine wpAny_Call_method0_late hbase hline (thn (ho pins s σ H _ I h) fun v s1 ⟨x, H1, I1, r1, ty, q1⟩ => ?_)
  obtain ⟨h1, h2⟩ := tyV_is I1 r1 ty
  exact ⟨T, id, pa, slot, hty, h1, h2, Calls.callWith_builtin rfl (PySem.evalArgs_none (hm pins s1 σ H1 x [] v [] Q I1 r1 .nil q1))⟩
theorem pe_bm (pa : PlainAttrs T) (slot : Slot T name id) (hty : typeOf (.builtin id) = pure (.type "method_descriptor")) (hm : MtR X id r) (ho : PE X o to) (ha : PA X (e :: es) t)
    (hbase : attributeBase o name X.env (eval o X.env) = eval o X.env := by rfl)
    (hfew : ((backTo cpos (starEach (e :: es) X.env)).all (fun x => !x.1) && (backToKw cpos (keywordEach [] X.env)).all (fun x => x.1.isSome)
      && decide ((e :: es).length + ([] : List Keyword).length + (if ([] : List Keyword).isEmpty then 0 else 1) < 30)) = true := by rfl)
    (hline : (apos.endLine == cpos.line) = true := by rfl) (hs : starEach (e :: es) X.env = (false, eval e X.env) :: starEach es X.env := by rfl) (hplain : (backTo cpos (starEach es X.env)).any (·.1) = false := by rfl) :
    PE X (.Call (.Attribute o name apos) (e :: es) [] cpos) (tBM X.K T r to t) := by
  intro pins s σ H Q I h
  refine wpAny_Call_method_late hbase hfew hline rfl (thn (ho pins s σ H _ I h) fun v s1 ⟨x, H1, I1, r1, ty, q1⟩ => ?_)
  obtain ⟨h1, h2⟩ := tyV_is I1 r1 ty
  refine ⟨T, id, pa, slot, hty, h1, h2, ?_⟩
  have hA := ha cpos pins s1 σ H1 _ I1 q1
  rw [hs] at hA ⊢
  refine Calls.callWith_builtin (by show (false || (backTo cpos (starEach es X.env)).any (·.1)) = false; rw [hplain] <;> rfl) (Calls.evalArgs_plain ?_)
  exact thn hA fun us s2 ⟨vs, H2, I2, r2, q2⟩ => hm pins s2 σ H2 x vs v us Q I2 r1 r2 q2
/- xs.append(e), list.index on a module's tuple .. are MtR facts of 06m -/
end
end L2

namespace L2
open PySem PySem.Spec PyProof.Rows

def MtM (X : Cx) (id : String) (r : V → List V → Hp → VK → Prop) : Prop :=
  ∀ (pins : List (Addr × Obj)) (s : Shared) (σ : St) (H : Hp) (x : V) (xs : List V) (v : Value) (us : List Value) (Q : VK), Inv X pins σ H s → RelV x v → Vals xs us → r x xs H Q →
    wpAny (model X.prog X.w) X.A (call (.builtin id) (v :: us)) (EP X pins σ Q) X.xe s

/-! ### lists of values -/
theorem Vals.one : ∀ {x : V} {us : List Value}, Vals [x] us → ∃ u, us = [u] ∧ RelV x u
  | _, _, .cons r .nil => ⟨_, rfl, r⟩
section
variable {X : Cx} {pins : List (Addr × Obj)} {σ : St} {H : Hp} {s : Shared} {l b : Addr} {xs ys zs : List V}

/-! ### the two steps: a tracked list is rewritten, a new list is laid -/
theorem Inv.lset {its its' : List Value} {n : Nat} {f : Array Value → Array Value} {t' : Nat} (I : Inv X pins σ H s) (hH : H l = some (.lst xs))
    (e : s.heap.get? l = some { cls := .type "list", data := .seq its.toArray n }) (hf : f its.toArray = its'.toArray) (hv : Vals ys its') (hz : ys.length ≤ sizeLine) :
    Inv X pins σ (upd H l (.lst ys)) { s with heap := s.heap.update l (Obj.mapSeq f), toks := t' } := by
  have q := PySem.IsL.update e f
  rw [hf] at q
  refine I.write (x := l) (e := l) (by rw [hH]; exact trivial) (.inl rfl) (fun b' u hb hu => (Heap.get?_update_other s.heap (Obj.mapSeq f) (Ne.symm hb)).trans hu) ⟨_, q⟩ ?_
  exact ⟨hz, its', _, hv, q⟩
theorem Inv.lnew {its : List Value} {t' : Nat} (I : Inv X pins σ H s) (hv : Vals ys its) (hz : ys.length ≤ sizeLine) :
    Inv X pins σ (upd H s.heap.objs.size (.lst ys)) { s with heap := s.heap.push { cls := .type "list", data := .seq its.toArray }, toks := t' } :=
  I.laid (fun _ _ q => Heap.get?_push_of_some _ q) (Nat.le_refl _) ⟨hz, its, 0, hv, Heap.get?_push_size _ rfl⟩
theorem Inv.fresh (I : Inv X pins σ H s) : H s.heap.objs.size = none := I.hok.fresh (Nat.le_refl _)
theorem Inv.lstM (I : Inv X pins σ H s) (hH : H l = some (.lst xs)) : xs.length ≤ sizeLine ∧ ∃ (its : List Value) (n : Nat), Vals xs its ∧ xs.length = its.length ∧ s.heap.get? l = some { cls := .type "list", data := .seq its.toArray n } := by
  obtain ⟨z, its, n, r, e⟩ := I.hok l _ hH
  exact ⟨z, its, n, r, r.length, e⟩

end

section
variable {X : Cx}

/-! ### methods -/
def rAppend : V → List V → Hp → VK → Prop := fun x vs H Q => ∃ l xs y, x = .ref l ∧ vs = [y] ∧ H l = some (.lst xs) ∧ xs.length < sizeLine ∧ Q .non (upd H l (.lst (xs ++ [y])))
theorem mt_append : MtM X "list.append" rAppend := by
  intro pins s σ H x vs v us Q I rx rv h
  obtain ⟨l, xs, y, rfl, rfl, hH, hz, q⟩ := h
  cases rx
  obtain ⟨u, rfl, ru⟩ := rv.one
  obtain ⟨z, its, n, r, hl, e⟩ := I.lstM hH
  refine call_meets F.slot_list_append ⟨_, e, rfl⟩ F.entry_list_append (F.args_list_append_2 _ _) (PySem.list_append l its.toArray n u (by rw [List.size_toArray]; omega)) ⟨e, ?_⟩
  refine ⟨.non, _, I.lset (its' := its ++ [u]) hH e (by simp) (r.append (.cons ru .nil)) ?_, rfl, q⟩
  rw [List.length_append, List.length_singleton]
  omega

/-! ### list + list, list += list, list * int -/
def rCat : R2 := fun x y H Q => ∃ l b xs zs, x = .ref l ∧ y = .ref b ∧ H l = some (.lst xs) ∧ H b = some (.lst zs) ∧ xs.length + zs.length ≤ sizeLine ∧ ∀ p, H p = none → Q (.ref p) (upd H p (.lst (xs ++ zs)))
theorem op_cat : OpR X (binaryOp .Add) rCat := by
  intro pins s σ H x y v u Q I rx ry h
  obtain ⟨l, b, xs, zs, rfl, rfl, hH, hB, hz, q⟩ := h
  cases rx
  cases ry
  obtain ⟨z, its, n, r, hl, e⟩ := I.lstM hH
  obtain ⟨z2, its2, n2, r2, hl2, e2⟩ := I.lstM hB
  refine PySem.P.add_list e e2 ?_ (by rw [List.size_toArray, List.size_toArray]; omega)
  have ea : its.toArray ++ its2.toArray = (its ++ its2).toArray := by simp
  rw [ea]
  exact ⟨.ref _, _, I.lnew (t' := s.toks) (r.append r2) (by rw [List.length_append]; omega), rfl, q _ I.fresh⟩
/-! ### del xs[i] -/
end

/-! ### xs[a:b] = ys -/
section
variable {prog : Program} {w : World} {A : Around} {E : Value → Shared → Prop} {s : Shared}
set_option maxRecDepth 100000 in
end

section
variable {X : Cx}
end
end L2

namespace Att
open PySem PySem.W PySem.Calls PyProof.Rows

/-! ### the script -/
theorem ints_of_wellAll {P : Params} {h : Heap} : ∀ (ns : List Int) (vs : List Value), WellAll P h vs (ns.map WData.int) → IntsAre vs ns := by
  intro ns
  induction ns with
  | nil =>
    intro vs w
    rw [List.map_nil] at w
    cases w
    exact .nil
  | cons n ns ih =>
    intro vs w
    rw [List.map_cons] at w
    cases w with
    | cons a b =>
      cases a
      exact .cons _ _ (ih _ b)

theorem script_of {l : OpenLaw} {n : Nat} (hn : l.most = some n) {P : Params} {h : Heap} {args : List WData} {vals : List Value}
    (hpre : l.row.toRowW.claim.pre args = true) (hwl : WellAll P h vals args) :
    ∃ a vs ns, vals = [Value.ref a] ∧ args = [WData.list (ns.map WData.int)] ∧ h.get? a = some { cls := .type "list", data := .seq vs.toArray } ∧ IntsAre vs ns ∧ ns.length ≤ n := by
  have hsh : WShape.hasAll [] args [.list .int] = true := (pre_splitW hpre).1
  have hc : l.pre.holds [] { args := args } = true := (pre_splitW hpre).2
  obtain ⟨d, r, rfl, h1, h2⟩ := hasAllW_cons hsh
  obtain rfl := hasAllW_nil h2
  obtain ⟨xs, rfl, h3⟩ := hasW_list h1
  obtain ⟨ns, rfl⟩ := items_int h3
  have hlen : ns.length ≤ n := by
    unfold OpenLaw.pre at hc
    have h4 : (WTm.not (.lt (.lit (.int (n : Int))) (.len (.arg 0)))).holds [] { args := [.list (ns.map .int)] } = true := by
      have h4 := (holds_andW hc).1
      rw [hn] at h4
      exact h4
    have h5 := condW_of h4 (w_not (w_lt w_lit (w_len_list (w_arg rfl))))
    rw [List.length_map] at h5
    refine Nat.le_of_not_lt fun q => ?_
    have q' : (n : Int) < ((ns.length : Nat) : Int) := by omega
    first
      | (rw [decide_eq_true q'] at h5; exact absurd h5 (by decide))
      | (simp at h5; omega)
  cases hwl with
  | cons w1 w2 =>
    cases w2
    cases w1 with
    | list ho hall => exact ⟨_, _, ns, rfl, rfl, ho, ints_of_wellAll ns _ hall, hlen⟩

theorem post_true (l : OpenLaw) (args : List WData) : l.row.toRowW.claim.post args (.bool true) args = true :=
  postW_of (r := l.row.toRowW) (X := (true == true))
    (show WShape.has [] (.bool true) .bool = true by first | rfl | decide | simp [WShape.has, WShape.arms, WShape.armsAll])
    (show (WTm.eq .res (.lit (.bool true))).value [] { args := args, res := some (.bool true), after := args } = some (.bool (true == true)) from w_eq_bool (w_res rfl) w_lit) rfl

/-! ### the attachment: holds_open's last premise (the goal 'hc' behind k_head) from a wpAny of the law's body -/
/-- the same from a codeAny of the CALL (for a layer whose function contracts speak of calls) -/
theorem attach_call {l : OpenLaw} {n : Nat} {q : Program} {loose : List Str} {XP : (Str → Option Value) → Heap → Prop} {YP : World → Heap → Prop} {d : DefRec}
    (hn : l.most = some n) (hdf : d.params.defaults = [])
    (call : ∀ (w : World) (s₀ s₁ : Shared) (mg mb : Str → Option Value) (fa : Addr) (o : Obj) (pm cd doc : Value) (a : Addr) (vs : List Value) (ns : List Int),
      Ground q loose [] XP w s₀ mg mb s₁.heap → YP w s₁.heap →
      s₁.heap.get? fa = some o → o.data = .func (docDef d.name d.params d.body d.scope pm cd doc) → s₁.heap.CodeRec cd d.name → mg d.name = some (.ref fa) →
      s₁.heap.get? a = some { cls := .type "list", data := .seq vs.toArray } → IntsAre vs ns → ns.length ≤ n → s₁.gens = #[] →
      codeAny (model l.prog w) callerA (.call (.ref fa) ⟨[.ref a], []⟩) (fun r s' => r = .ok (.ret (.bool true)) ∧ OldK s₁.heap s'.heap ∧ s'.os = s₁.os ∧ AllBare s'.gens) s₁) :
    WalkO q loose XP YP l.row.toRowW d [] (fun f vs => PySem.call f vs) := by
  intro w s₀ s₁ mg mb G Y fa o pm cd doc dV kV ho hd hcd hD hmg hg args vals as hpre hlay hrd hwl hlo
  obtain rfl : dV = .none := Dflts.none hD hdf
  obtain rfl : kV = .none := Dflts.noKw hD
  obtain ⟨a, vs, ns, rfl, rfl, hobj, hints, hlen⟩ := script_of hn hpre hwl
  refine enter_call (codeAny_mono (call w s₀ s₁ mg mb fa o pm cd doc a vs ns G Y ho (fd_plain hd) hcd hmg hobj hints hlen hg) fun r s' hq => ?_)
  obtain ⟨rfl, h2, h3, h4⟩ := hq
  exact ⟨.inl ⟨.bool true, .bool true, [], rfl, fun _ => rfl, .bool true, post_true l _, fun _ => ⟨List.Pairwise.nil, fun _ hm => (nomatch hm)⟩⟩, h2, h3, h4⟩

/-! ### rules over ANY heap (no ledger) from facts about the written part K: the library's own take a ledger (News) for what they write -/
section
variable {prog : Program} {w : World} {A : Around} {E : Value → Shared → Prop} {s : Shared} {K : Frag}

/-! the whole heap as the ledger: makes every rule that writes through a ledger a rule over any heap -/
end
end Att

namespace L2
open PySem PySem.Spec PyProof.Rows

theorem vals_ints : ∀ {vs : List Value} {ns : List Int}, IntsAre vs ns → Vals (ns.map V.int) vs
  | _, _, .nil => .nil
  | _, _, .cons n t h => .cons ⟨t, rfl⟩ (vals_ints h)

/-- nothing is tracked but the script, known to the object (or it is an object of the module) -/
def Only (H : Hp) : Prop := ∀ b, H b = none ∨ ∃ o xs, H b = some (.frz o (.lst xs))

/-- THE HEAD: the law's promise, at the heap behind the top. F, the promise of the law's def, may use that base is part of the heap (so K.In base, base.Ns mainGlobals mg stand in Mod) -/
theorem law_call {P : Program} {w : World} {K : PySem.W.Frag} {mg mb : Str → Option Value} {CX : CXT} {k : Nat} {fa a : Addr} {fd : FuncData} {x : Str} {sp : Sp} {s₁ : Shared} {vs : List Value} {ns : List Int}
    (KX : K.In s₁.heap) (hns : s₁.heap.Ns mainGlobals mg) (hb : s₁.heap.Ns builtinsNs mb) (hbb : ∀ x : Str, x ≠ "__name__" → mb x = bootBuiltins x) (hlim : s₁.heap.NoLimit) (hg : s₁.gens = #[])
    (ha : s₁.heap.get? a = some { cls := .type "list", data := .seq vs.toArray }) (hi : IntsAre vs ns) (hl : ns.length ≤ sizeLine) (hr : Room k callerA)
    (F : ∀ base : Heap, K.In base → base.Ns mainGlobals mg → FnOk P w K mg base CX k fa fd [x] sp) (hbind : ∀ (s : Shared) (u : Value), BindsTo s fd ⟨[u], []⟩ [(x, u)])
    (hsp : ∀ H : Hp, Only H → SqL K H a (ns.map V.int) → sp [.ref a] H (fun v _ => v = .bl true) fun _ _ _ => False)
    (hCX : ∀ H e s', CX [] H s₁ (fun _ _ _ => False) e s' → False) :
    codeAny (model P w) callerA (.call (.ref fa) ⟨[.ref a], []⟩) (fun r s' => r = .ok (.ret (.bool true)) ∧ OldK s₁.heap s'.heap ∧ s'.os = s₁.os ∧ AllBare s'.gens) s₁ := by
  have rv := vals_ints hi
  have lenV := hi.length
  -- from an abstract heap in which nothing but the script may be tracked
  have core : ∀ H : Hp, Only H → SqL K H a (ns.map V.int) → HOk P w H s₁.heap → (∀ b, H b ≠ none → b = a) → (H a ≠ none → K.lookup a = none) →
      codeAny (model P w) callerA (.call (.ref fa) ⟨[.ref a], []⟩) (fun r s' => r = .ok (.ret (.bool true)) ∧ OldK s₁.heap s'.heap ∧ s'.os = s₁.os ∧ AllBare s'.gens) s₁ := by
    intro H hO hS hok hA hK
    have base_of : ∀ {b : Addr} {o : Obj}, s₁.heap.get? b = some o → H b = none → (hidT s₁.heap H).get? b = some o := fun e n => hidT_get e n
    have noA : ∀ {b : Addr} {o : Obj} {es : Array DictEntry} {ep : Nat}, s₁.heap.get? b = some o → o.data = .dict es ep → H b = none := fun {b o es ep} e d => by
      cases q : H b with
      | none => rfl
      | some u =>
        have e' : b = a := hA b (by rw [q]; simp)
        subst e'
        rw [ha] at e; cases e
        have d' : Data.seq vs.toArray _ = Data.dict es ep := d
        cases d'
    have nsK : ∀ {b : Addr} {m : Str → Option Value}, s₁.heap.Ns b m → (hidT s₁.heap H).Ns b m := fun {b m} ⟨o, es, ep, e, d, r⟩ => ⟨o, es, ep, base_of e (noA e d), d, r⟩
    have hKb : K.In (hidT s₁.heap H) := fun b o e => base_of (KX b o e) (by
      cases q : H b with
      | none => rfl
      | some u =>
        have e' : b = a := hA b (by rw [q]; simp)
        subst e'
        rw [hK (by rw [q]; simp)] at e; cases e)
    have hM : Mod K mg (hidT s₁.heap H) := ⟨hKb, nsK hns, ⟨mb, nsK hb, hbb⟩, let ⟨mc, h1, h2⟩ := hlim; ⟨mc, nsK h1, h2⟩⟩
    have e0 : Env0 P w K mg (hidT s₁.heap H) callerA [] s₁ H := ⟨rfl, hM, fun b o e => of_hidT e, Nat.le_of_eq (hidT_size _ _), trivial, fun b hb => absurd (show b ∈ ([] : List Addr) from hb) (by simp), hok, .of_eq hg⟩
    refine codeAny_mono ((F _ hKb (nsK hns)).run callerA [] s₁ H ⟨[.ref a], []⟩ [.ref a] [.ref a] _ _ hr e0 (hbind s₁ (.ref a)) (.cons rfl .nil) (hsp H hO hS)) fun r s' h => ?_
    cases r with
    | error e => exact (hCX H e s' h).elim
    | ok fl =>
      cases fl with
      | next => exact False.elim h
      | brk => exact False.elim h
      | cont => exact False.elim h
      | ret u =>
        obtain ⟨v, H', os, bare, un, hok', r', q⟩ := h
        have q' : v = .bl true := q
        subst q'
        obtain rfl : u = Value.bool true := r'
        refine ⟨rfl, OldK.of_keep fun b o e => ?_, os, bare⟩
        cases q : H b with
        | none => exact un.keep b o e q (by intro z; exact absurd (show b ∈ ([] : List Addr) from z) (by simp)) (by simp)
        | some u =>
          rcases hO b with z | ⟨ob, xs, z⟩
          · rw [q] at z; cases z
          · have z2 := un.frzs b ob _ z
            obtain ⟨e1, _⟩ := hok b _ z
            obtain ⟨e2, _⟩ := hok' b _ z2
            rw [e] at e1; cases e1
            exact e2
  cases hk : K.lookup a with
  | some o =>
    -- the script is one of the module's own objects
    have e := KX a o hk
    rw [ha] at e
    cases e
    refine core (fun _ => none) (fun _ => .inl rfl) (.inr ⟨_, vs.toArray, _, hk, rfl, rfl, rfl, by rw [List.size_toArray, lenV]; exact hl, by simpa using rv⟩) (fun b u z => by have z' : (none : Option HO) = some u := z; cases z') (fun b z => absurd rfl z) fun z => absurd rfl z
  | none =>
    refine core (fun b => if b = a then some (.frz { cls := .type "list", data := .seq vs.toArray } (.lst (ns.map V.int))) else none) (fun b => ?_) (.inl (.inr ⟨{ cls := .type "list", data := .seq vs.toArray }, if_pos rfl⟩)) (fun b u z => ?_) (fun b z => ?_) fun _ => hk
    · by_cases hb : b = a
      · exact .inr ⟨_, _, if_pos hb⟩
      · exact .inl (if_neg hb)
    · by_cases hb : b = a
      · have z' := (if_pos hb).symm.trans z
        cases z'
        subst hb
        exact ⟨ha, by rw [List.length_map]; exact hl, vs, _, rv, ha⟩
      · have z' := (if_neg hb).symm.trans z
        cases z'
    · by_cases hb : b = a
      · exact hb
      · exact absurd (if_neg hb) z
end L2

namespace L2
open PySem PySem.Spec PyProof.Rows

/-- the goal that k_head leaves (case hc), from the law's promise. F gives the function object fd (K's own) once, then the promise over every base -/
theorem walk_of {l : PySem.W.OpenLaw} {n k : Nat} {q : Program} {loose : List Str} {XP : (Str → Option Value) → Heap → Prop} {YP : World → Heap → Prop} {d : DefRec} {K : Params → PySem.W.Frag} {CX : World → CXT} {sp : World → Sp} {x : Str}
    (hn : l.most = some n) (hn2 : n ≤ sizeLine) (hdf : d.params.defaults = []) (hr : Room k callerA)
    (hY : ∀ (w : World) (h : Heap), YP w h → (K w.params).In h)
    (F : ∀ (w : World) (mg : Str → Option Value) (fa : Addr) (h : Heap), (K w.params).In h → h.Ns mainGlobals mg → mg d.name = some (.ref fa) →
      ∃ fd : FuncData, (∀ (s : Shared) (u : Value), BindsTo s fd ⟨[u], []⟩ [(x, u)]) ∧
        ∀ base : Heap, (K w.params).In base → base.Ns mainGlobals mg → FnOk l.prog w (K w.params) mg base (CX w) k fa fd [x] (sp w))
    (hsp : ∀ (w : World) (H : Hp) (a : Addr) (ns : List Int), ns.length ≤ n → Only H → SqL (K w.params) H a (ns.map V.int) → sp w [.ref a] H (fun v _ => v = .bl true) fun _ _ _ => False)
    (hCX : ∀ (w : World) (H : Hp) (s : Shared) (e : Value) (s' : Shared), CX w [] H s (fun _ _ _ => False) e s' → False) :
    PySem.W.WalkO q loose XP YP l.row.toRowW d [] (fun f vs => PySem.call f vs) := by
  refine Att.attach_call hn hdf fun w s₀ s₁ mg mb fa o pm cd doc a vs ns G Y ho hd hcd hmg hobj hints hlen hg => ?_
  have KX := hY w _ Y
  obtain ⟨fd, hb, hF⟩ := F w mg fa _ KX G.T.g hmg
  exact law_call KX G.T.g G.T.b G.T.builtins G.T.nolimit hg hobj hints (Nat.le_trans hlen hn2) hr hF hb (fun H hO hS => hsp w H a ns hlen hO hS) fun H e s' => hCX w H s₁ e s'
end L2

/- THE LAST THEOREM (shape; LID, My.* are yours):
   My.Adr: a structure of the addresses that your layer names (classes, functions); My.Txt K t: a structure (Prop) of the equations over K;
   My.txt_mk : {K} {implicit addresses ..} (e1 : nsIn K mainGlobals "law" = some (some (.ref f))) (e2 : K.lookup f = some ⟨oc, od, .func (fnOf "law" "law" params body scope dV kV doc pm an cdv ct), sl⟩) (e3 : codeIn K cdv "law" = true) .. : ∃ t, My.Txt K t

set_option maxRecDepth 100000 in
set_option maxHeartbeats 0 in
theorem PySem.Challenge.cw_LID_holds : PySem.Challenge.rw_LID.Holds := by
  w_on; o_law; k_head; (case hw => w_witness2)
  k_fill
  refine L2.walk_of (l := PySem.Challenge.rw_LID) (n := 63) (k := 40) (x := "script") (CX := fun w => ..) (sp := fun _ => My.sp_law) rfl (by decide) rfl ⟨rfl, by decide, by decide⟩ (fun w h Y => PySem.W.kIn_of Y) ?F ?S ?C
  case F =>
    intro w mg fa h KX G hmg
    have T : ∃ t, My.Txt (L2.KOf KX) t := by
      dsimp only [L2.KOf]                          -- K must stand as «<heap const> w.params» for k_is
      refine' My.txt_mk ?e1 ?e2 ?e3 ..
      (case e1 => PySem.W.k_is)                    -- in the order: a name -> its address -> its object -> its parts
      (case e2 => PySem.W.k_is)
      ..
    obtain ⟨t, T⟩ := T
    have e0 := hmg.symm.trans (PySem.W.mg_of KX G T.law)
    cases e0                                       -- fa is the law's own address
    exact ⟨_, fun s u => .of_eq rfl, fun base kb nb => My.law_fn T kb nb⟩     -- if «.of_eq rfl» comes too early: refine' ⟨_, ?b, fun base kb nb => My.law_fn T kb nb⟩; exact fun s u => .of_eq rfl
  case S => exact fun w H a ns hl hO hS => ..
  case C => exact ..
(the tactic k_is has no namespace: write k_is) -/

/-! SHORT WORDS over the layer: a def of the text, its body, what a loop and a test want. -/
namespace L2
open PySem PySem.Spec PyProof.Rows

/-! ### the text by places -/
def defArgs (s : Stmt) : Arguments := match s with
  | .FunctionDef _ a _ _ _ _ _ _ _ _ => a
  | _ => { posonlyargs := [], args := [], vararg := none, kwonlyargs := [], kw_defaults := [], kwarg := none, defaults := [] }
def defBody (s : Stmt) : List Stmt := match s with
  | .FunctionDef _ _ b _ _ _ _ _ _ _ => b
  | _ => []
def defScope (s : Stmt) : Scope := match s with
  | .FunctionDef _ _ _ _ _ _ sc _ _ _ => sc
  | _ => { kind := .function, names := [], isGenerator := false, isCoroutine := false }

/-! ### no exception leaves a def -/
abbrev CX0 : CXT := fun _ _ _ _ _ _ => False
abbrev E0 : XK := fun _ _ _ => False
theorem pass0 {X : Cx} : Passes CX0 X E0 := fun _ _ _ _ _ _ _ h => h.elim

/-! ### a def (or method) of the text as it stands behind the top -/
section
variable {P : Program} {w : World} {K : PySem.W.Frag} {mg : Str → Option Value} {base : Heap}
end
theorem small1000 {n : Nat} (h : n ≤ 1000) : n < sizeLine := Nat.lt_of_le_of_lt h (by decide)

/-! ### expressions in short: the name that stands in the i-th slot -/
section
variable {X : Cx}
theorem pv (i : Nat) {x : Str} {pos : Pos} (hN : X.N[i]? = some x := by rfl) (hv : Vis X.env.scope x := by first | exact Or.inl rfl | exact Or.inr (Or.inl rfl) | exact Or.inr (Or.inr rfl)) (hd : (x == ("__debug__" : Str)) = false := by decide)
    (hcd : (x == ("__classdict__" : Str)) = false := by decide) : PE X (.Name x pos) (tVar i) := pe_var hN hv hd hcd
end

/-! ### tests -/
theorem iteF {A B : Prop} (h : B) : if false = true then A else B := by
  rw [if_neg Bool.false_ne_true]
  exact h
theorem iteT {A B : Prop} (h : A) : if true = true then A else B := by
  rw [if_pos rfl]
  exact h
/-! ### heaps -/
/-- all that was tracked is as it was -/
def Same (H H' : Hp) : Prop := ∀ b o, H b = some o → H' b = some o
theorem Same.refl (H : Hp) : Same H H := fun _ _ h => h
theorem Same.trans {H H1 H2 : Hp} (a : Same H H1) (b : Same H1 H2) : Same H H2 := fun c o h => b c o (a c o h)
theorem Same.seq {K : PySem.W.Frag} {H H' : Hp} {a : Addr} {xs : List V} (e : Same H H') (h : SqL K H a xs) : SqL K H' a xs := by
  rcases h with (h | ⟨o, h⟩) | h
  · exact .inl (.inl (e _ _ h))
  · exact .inl (.inr ⟨o, e _ _ h⟩)
  · exact .inr h

end L2
end
section
set_option Elab.async false
set_option linter.all false
set_option maxRecDepth 100000
set_option maxHeartbeats 4000000
namespace Mth
theorem gcd_step {a b : Int} (ha : 0 ≤ a) (hb : 0 < b) : Int.gcd b (a % b) = Int.gcd a b := by
  obtain ⟨m, rfl⟩ := Int.eq_ofNat_of_zero_le ha
  obtain ⟨n, rfl⟩ := Int.eq_ofNat_of_zero_le (Int.le_of_lt hb)
  rw [← Int.natCast_emod]
  show Nat.gcd (n : Int).natAbs ((m % n : Nat) : Int).natAbs = Nat.gcd (m : Int).natAbs (n : Int).natAbs
  simp only [Int.natAbs_natCast]
  rw [Nat.gcd_comm m n, Nat.gcd_comm n (m % n)]
  exact (Nat.gcd_rec n m).symm
theorem gcd_abs (a b : Int) : Int.gcd (if a < 0 then -a else a) b = Int.gcd a b := by
  split
  · exact Int.neg_gcd
  · rfl
theorem gcd_abs' (a b : Int) : Int.gcd a (if b < 0 then -b else b) = Int.gcd a b := by
  rw [Int.gcd_comm, gcd_abs, Int.gcd_comm]
theorem gcd_zero {a : Int} (ha : 0 ≤ a) : (Int.gcd a 0 : Int) = a := by
  rw [Int.gcd_zero]; omega
/-- lowest terms -/
structure Low (t b : Int) : Prop where
  pos : 1 ≤ b
  one : Int.gcd t b = 1
theorem gcd_pos {a b : Int} (h : b ≠ 0) : 0 < (Int.gcd a b : Int) := by
  have := Int.gcd_pos_of_ne_zero_right a h
  omega
/-- exact division -/
theorem div_eq (a b : Int) : a = a / (Int.gcd a b : Int) * (Int.gcd a b : Int) := (Int.ediv_mul_cancel (Int.gcd_dvd_left a b)).symm
theorem div_eq' (a b : Int) : b = b / (Int.gcd a b : Int) * (Int.gcd a b : Int) := (Int.ediv_mul_cancel (Int.gcd_dvd_right a b)).symm
theorem div_low {a b : Int} (hb : 0 < b) : Low (a / (Int.gcd a b : Int)) (b / (Int.gcd a b : Int)) := by
  have hg := gcd_pos (a := a) (b := b) (by omega)
  refine ⟨?_, ?_⟩
  · have h1 := div_eq' a b
    have h2 : 0 < b / (Int.gcd a b : Int) := Int.ediv_pos_of_pos_of_dvd hb (by omega) (Int.gcd_dvd_right a b)
    omega
  · rw [Int.gcd_ediv (Int.gcd_dvd_left a b) (Int.gcd_dvd_right a b)]
    simp only [Int.natAbs_natCast]
    exact Nat.div_self (by omega)
theorem low_dvd {t b t' b' : Int} (h : Low t b) (e : t * b' = t' * b) : b ∣ b' := by
  have h1 : b.natAbs ∣ t.natAbs * b'.natAbs := by
    rw [← Int.natAbs_mul, e, Int.natAbs_mul]
    exact Nat.dvd_mul_left _ _
  have h2 : Nat.Coprime b.natAbs t.natAbs := by
    have := h.one
    unfold Nat.Coprime
    rw [Nat.gcd_comm]
    exact this
  exact Int.natAbs_dvd_natAbs.mp (h2.dvd_of_dvd_mul_left h1)
theorem low_unique {t b t' b' : Int} (h : Low t b) (h' : Low t' b') (e : t * b' = t' * b) : t = t' ∧ b = b' := by
  have d1 := low_dvd h e
  have d2 := low_dvd h' e.symm
  have p1 := h.pos
  have p2 := h'.pos
  have eb : b = b' := Int.le_antisymm (Int.le_of_dvd (by omega) d1) (Int.le_of_dvd (by omega) d2)
  subst eb
  exact ⟨Int.eq_of_mul_eq_mul_right (by omega) e, rfl⟩
/-- the fraction of two numbers -/
structure Frac (top bottom t b : Int) : Prop where
  low : Low t b
  eq : top * b = t * bottom
theorem frac_pos {a b : Int} (hb : 0 < b) : Frac a b (a / (Int.gcd a b : Int)) (b / (Int.gcd a b : Int)) := by
  refine ⟨div_low hb, ?_⟩
  have h1 := div_eq a b
  have h2 := div_eq' a b
  generalize a / (Int.gcd a b : Int) = x at *
  generalize b / (Int.gcd a b : Int) = y at *
  generalize (Int.gcd a b : Int) = g at *
  subst h1 h2
  grind
/-- ratio's two parts: the divisor has the bottom's sign -/
theorem frac_fdiv {a b : Int} (hb : b ≠ 0) (d : Int) (hd : d = if b < 0 then -(Int.gcd a b : Int) else (Int.gcd a b : Int)) : Frac a b (a.fdiv d) (b.fdiv d) := by
  have hg := gcd_pos (a := a) (b := b) hb
  by_cases h : b < 0
  · rw [if_pos h] at hd
    have f := frac_pos (a := -a) (b := -b) (by omega)
    rw [Int.gcd_neg, Int.neg_gcd] at f
    subst hd
    have e1 : a.fdiv (-(Int.gcd a b : Int)) = -a / (Int.gcd a b : Int) := by
      rw [← Int.neg_fdiv_neg, Int.neg_neg]; exact Int.fdiv_eq_ediv_of_nonneg _ (by omega)
    have e2 : b.fdiv (-(Int.gcd a b : Int)) = -b / (Int.gcd a b : Int) := by
      rw [← Int.neg_fdiv_neg, Int.neg_neg]; exact Int.fdiv_eq_ediv_of_nonneg _ (by omega)
    rw [e1, e2]
    exact ⟨f.low, by have := f.eq; grind⟩
  · rw [if_neg h] at hd
    subst hd
    rw [Int.fdiv_eq_ediv_of_nonneg _ (by omega), Int.fdiv_eq_ediv_of_nonneg _ (by omega)]
    exact frac_pos (by omega)
theorem frac_unique {a b t u t' u' : Int} (hb : b ≠ 0) (h : Frac a b t u) (h' : Frac a b t' u') : t = t' ∧ u = u' := by
  refine low_unique h.low h'.low ?_
  have e1 := h.eq
  have e2 := h'.eq
  have : b * (t * u') = b * (t' * u) := by grind
  exact Int.eq_of_mul_eq_mul_left hb this
end Mth
/-! WORDS OF OUR OWN over the hand layer. -/
namespace L2
open PySem PySem.Spec PyProof.Rows

/-! ### sizes -/
abbrev bits (i : Int) : Nat := Builtin.Int.intBits i
theorem bits_of {i : Int} {n : Nat} (h : i.natAbs < 2 ^ n) : bits i ≤ n := intBits_le h
theorem bits_lt {i : Int} {n : Nat} (h : bits i ≤ n) : i.natAbs < 2 ^ n := by
  unfold bits Builtin.Int.intBits at h
  by_cases h0 : i = 0
  · subst h0
    exact Nat.pos_of_ne_zero (by simp)
  · rw [if_neg (by simpa using h0)] at h
    have h1 : i.natAbs ≠ 0 := by omega
    exact (Nat.log2_lt h1).mp (by omega)
theorem bits_mono {i j : Int} {n : Nat} (h : i.natAbs ≤ j.natAbs) (hj : bits j ≤ n) : bits i ≤ n := bits_of (Nat.lt_of_le_of_lt h (bits_lt hj))
theorem bits_mul {i j : Int} {m n : Nat} (hi : bits i ≤ m) (hj : bits j ≤ n) : bits (i * j) ≤ m + n := by
  refine bits_of ?_
  rw [Int.natAbs_mul, Nat.pow_add]
  exact Nat.mul_lt_mul'' (bits_lt hi) (bits_lt hj)
theorem bits_add {i j : Int} {n : Nat} (hi : bits i ≤ n) (hj : bits j ≤ n) : bits (i + j) ≤ n + 1 := by
  refine bits_of ?_
  have h1 := bits_lt hi
  have h2 := bits_lt hj
  have h3 : (2 : Nat) ^ (n + 1) = 2 * 2 ^ n := by rw [Nat.pow_succ, Nat.mul_comm]
  omega
theorem bits_sub {i j : Int} {n : Nat} (hi : bits i ≤ n) (hj : bits j ≤ n) : bits (i - j) ≤ n + 1 := by
  refine bits_of ?_
  have h1 := bits_lt hi
  have h2 := bits_lt hj
  have h3 : (2 : Nat) ^ (n + 1) = 2 * 2 ^ n := by rw [Nat.pow_succ, Nat.mul_comm]
  omega
theorem bits_neg {i : Int} {n : Nat} (hi : bits i ≤ n) : bits (-i) ≤ n := bits_mono (by omega) hi
theorem bits_ediv {i j : Int} {n : Nat} (hj : 0 < j) (hi : bits i ≤ n) : bits (i / j) ≤ n := by
  refine bits_mono ?_ hi
  exact Int.natAbs_ediv_le_natAbs i j
theorem bits_fdiv {i j : Int} {n : Nat} (hi : bits i ≤ n) : bits (i.fdiv j) ≤ n := PySem.intBits_fdiv_le hi
theorem bits_range {i b : Int} {n : Nat} (h0 : 0 ≤ i) (h1 : i ≤ b) (hb : bits b ≤ n) : bits i ≤ n := bits_mono (by omega) hb
theorem bits_le {i : Int} {m n : Nat} (h : bits i ≤ m) (hm : m ≤ n) : bits i ≤ n := Nat.le_trans h hm

/-! ### products, quotients -/
section
variable {X : Cx} {pos : Pos}
def CM (i j : Int) : Prop := IntMulOk i j
theorem CM.b {i j : Int} {m n : Nat} (hi : bits i ≤ m) (hj : bits j ≤ n) (hm : m ≤ 2 ^ 20) (hn : n ≤ 2 ^ 20) : CM i j := IntMulOk.of_bits (Nat.le_trans hi hm) (Nat.le_trans hj hn)
theorem CM.l {i j : Int} (h : -(2 ^ 64) < i ∧ i < 2 ^ 64) : CM i j := CMul.ok (.inl h)
theorem CM.r {i j : Int} (h : -(2 ^ 64) < j ∧ j < 2 ^ 64) : CM i j := CMul.ok (.inr h)
theorem op_mulX : OpR X (binaryOp .Mult) (rI CM fun i j => .int (i * j)) := opI fun _ _ _ _ _ _ _ hc q => mul_int q hc
def CD (_ j : Int) : Prop := 0 < j ∧ bits j ≤ 8000
theorem log2_of_bits {j : Int} {n : Nat} (hj : j ≠ 0) (h : bits j ≤ n) (hn : n ≤ 9000) : j.natAbs.log2 < 9000 := by
  have h1 : j.natAbs ≠ 0 := by omega
  have h2 := (Nat.log2_lt h1).mpr (bits_lt h)
  omega
theorem op_fdivP : OpR X (binaryOp .FloorDiv) (rI CD fun i j => .int (i / j)) := opI fun i j _ _ _ _ _ hc q => by
  have h1 : (0 : Int) < j := hc.1
  exact floordiv_int (by omega) (by rw [Int.fdiv_eq_ediv_of_nonneg i (by omega)]; exact q) (.inl (PyProof.noPylong_of_log2 (log2_of_bits (by omega) hc.2 (by decide))))
def CDZ (_ j : Int) : Prop := j ≠ 0 ∧ bits j ≤ 8000
theorem op_fdivZ : OpR X (binaryOp .FloorDiv) (rI CDZ fun i j => .int (i.fdiv j)) := opI fun i j _ _ _ _ _ hc q =>
  floordiv_int hc.1 q (.inl (PyProof.noPylong_of_log2 (log2_of_bits hc.1 hc.2 (by decide))))

/-! ### bit_length -/
theorem mt_bitlen : MtR X "int.bit_length" (fun x xs H Q => ∃ i, x = .int i ∧ xs = [] ∧ Q (.int ((bits i : Nat) : Int)) H) := by
  intro pins s σ H x xs v us Q I rx rs h
  obtain ⟨i, rfl, rfl, q⟩ := h
  obtain ⟨t, rfl⟩ := rx
  cases rs
  exact call_int_bit_length ⟨.int _, H, I.tok _, ⟨_, rfl⟩, q⟩
end

/-! ### the built-in names -/
theorem bt_int : bootBuiltins "int" = some (.type "int") := by decide +kernel
theorem bt_bool : bootBuiltins "bool" = some (.type "bool") := by decide +kernel
theorem bt_tuple : bootBuiltins "tuple" = some (.type "tuple") := by decide +kernel
theorem bt_isinstance : bootBuiltins "isinstance" = some (.builtin "isinstance") := by decide +kernel
theorem bt_abs : bootBuiltins "abs" = some (.builtin "abs") := by decide +kernel
theorem bt_len : bootBuiltins "len" = some (.builtin "len") := by decide +kernel
theorem bt_min : bootBuiltins "min" = some (.builtin "min") := by decide +kernel
theorem bt_max : bootBuiltins "max" = some (.builtin "max") := by decide +kernel
theorem pe_ty {X : Cx} {x : Str} {T : String} {pos : Pos} (hm : X.mg x = none) (hv : bootBuiltins x = some (.type T)) (hg : Gl X x := by rfl) (hn : x ≠ "__name__" := by decide) (hd : (x == ("__debug__" : Str)) = false := by decide) :
    PE X (.Name x pos) (tC (.ty T)) := pe_bltn hg hm hv rfl hn hd

/-! ### the kinds of things, and isinstance -/
inductive Kn (H : Hp) : V → String → Prop where
  | non : Kn H .non "NoneType"
  | bl (b : Bool) : Kn H (.bl b) "bool"
  | int (i : Int) : Kn H (.int i) "int"
  | str (x : Str) : Kn H (.str x) "str"
  | lst {a : Addr} {xs : List V} (e : H a = some (.lst xs)) : Kn H (.ref a) "list"
  | tup {a : Addr} {xs : List V} (e : H a = some (.tup xs)) : Kn H (.ref a) "tuple"
  | dict {a : Addr} {kvs : List (Key × V)} (e : H a = some (.dK kvs)) : Kn H (.ref a) "dict"
theorem Kn.ty {K : PySem.W.Frag} {H : Hp} {x : V} {t : String} (k : Kn H x t) : TyOf K H x (.type t) := by
  cases k with
  | non => exact .non
  | bl b => exact .bl b
  | int i => exact .int i
  | str x => exact .str x
  | lst e => exact .lst e
  | tup e => exact .tup e
  | dict e => exact .dK e
theorem Kn.mono {H H' : Hp} {x : V} {t : String} (k : Kn H x t) (s : Same H H') : Kn H' x t := by
  cases k with
  | non => exact .non
  | bl b => exact .bl b
  | int i => exact .int i
  | str x => exact .str x
  | lst e => exact .lst (s _ _ e)
  | tup e => exact .tup (s _ _ e)
  | dict e => exact .dict (s _ _ e)
def isSub (t T : String) : Bool := t == T || (t == "bool" && T == "int")
def Nice (T : String) : Prop := T = "int" ∨ T = "bool" ∨ T = "tuple" ∨ T = "list" ∨ T = "str"
theorem kit_of (K : PySem.W.Frag) {H : Hp} {x : V} {t T : String} (k : Kn H x t) (n : Nice T) : PySem.W.kitOne K (.type t) (.type T) = some (isSub t T) := by
  rcases n with rfl | rfl | rfl | rfl | rfl <;> cases k <;> kernel_rfl
theorem call_isinst {X : Cx} : CallR X (.builtin "isinstance") (fun xs H Q => ∃ x t T, xs = [x, .ty T] ∧ Kn H x t ∧ Nice T ∧ Q (.bl (isSub t T)) H) := by
  intro pins s σ H xs us Q I rs h
  obtain ⟨x, t, T, rfl, k, n, q⟩ := h
  obtain ⟨u, v, rfl, ru, rv⟩ := vals2 rs
  cases (show v = Value.type T from rv)
  exact isinst_ok I ru k.ty (kit_of X.K k n) fun tk => ⟨.bl _, H, I.tok _, rfl, q⟩

/-! ### defs -/
/-- a def of the text, with what it keeps -/
structure Fn (P : Program) (w : World) (K : PySem.W.Frag) (mg : Str → Option Value) (base : Heap) (x : Str) (ps : List Str) (k : Nat) (sp : Sp) : Prop where
  ex : ∃ (f : Addr) (fd : FuncData) (o : Obj), mg x = some (.ref f) ∧ PySem.W.keepIn K (.ref f) = true ∧ (∀ us : List Value, us.length = ps.length → bindArgs fd ⟨us, []⟩ = pure (ps.zip us)) ∧ (K.lookup f = some o ∧ o.data = .func fd) ∧ FnOk P w K mg base CX0 k f fd ps sp
theorem pe_fn {X : Cx} {x : Str} {ps : List Str} {k : Nat} {sp : Sp} {p pos : Pos} {e : Expr} {es : List Expr} {t : TA} (F : Fn X.prog X.w X.K X.mg X.base x ps k sp) (hr : Room k X.A) (hg : Gl X x) (ha : PA X (e :: es) t)
    (hdb : (x == ("__debug__" : Str)) = false := by decide) (he : starEach (e :: es) X.env = (false, eval e X.env) :: starEach es X.env := by rfl) (hpl : (backTo pos (starEach es X.env)).any (·.1) = false := by rfl) :
    PE X (.Call (.Name x p) (e :: es) [] pos) (tCall sp [] E0 t) := by
  obtain ⟨f, fd, o, hm, hk, hb, _, G⟩ := F.ex
  exact pe_call G hr hg hm hk (.all hb) .nil pass0 ha hdb he hpl
/-- a def as the top has laid it, without defaults -/
structure Df (K : PySem.W.Frag) (mg : Str → Option Value) (x : Str) (st : Stmt) : Prop where
  ex : ∃ (f : Addr) (oc : Value) (od : Option Addr) (kV doc pm : Value) (an : Option Addr) (cdv ct : Value) (osl : Array (Option Value)),
    mg x = some (.ref f) ∧ K.lookup f = some ⟨oc, od, .func (PySem.W.fnOf x x (defArgs st) (defBody st) (defScope st) .none kV doc pm an cdv ct), osl⟩ ∧ PySem.W.codeIn K cdv x = true ∧ PySem.W.keepIn K (.ref f) = true
theorem df_mk {K : PySem.W.Frag} {mg : Str → Option Value} {h : Heap} {x : Str} {st : Stmt} {f : Addr} {oc : Value} {od an : Option Addr} {osl : Array (Option Value)} {kV doc pm cdv ct : Value} (X : K.In h) (G : h.Ns mainGlobals mg)
    (a : PySem.W.nsIn K mainGlobals x = some (some (.ref f))) (l : K.lookup f = some ⟨oc, od, .func (PySem.W.fnOf x x (defArgs st) (defBody st) (defScope st) .none kV doc pm an cdv ct), osl⟩) (c : PySem.W.codeIn K cdv x = true) (k : PySem.W.keepIn K (.ref f) = true) :
    Df K mg x st := ⟨⟨f, oc, od, kV, doc, pm, an, cdv, ct, osl, PySem.W.mg_of X G a, l, c, k⟩⟩
theorem Df.fn {P : Program} {w : World} {K : PySem.W.Frag} {mg : Str → Option Value} {base : Heap} {x : Str} {st : Stmt} {N ps : List Str} {k : Nat} {sp : Sp} (D : Df K mg x st) (S : FnScope N ps (defScope st))
    (hbind : ∀ (kV doc pm : Value) (an : Option Addr) (cdv ct : Value) (us : List Value), us.length = ps.length → bindArgs (PySem.W.fnOf x x (defArgs st) (defBody st) (defScope st) .none kV doc pm an cdv ct) ⟨us, []⟩ = pure (ps.zip us))
    (len : ∀ vs H Q E, sp vs H Q E → vs.length = ps.length)
    (hbody : ∀ (f : Addr) (cdv : Value) (A : Around) (outer : List Env) (s : Shared) (H : Hp) (vs : List V) (Q : VK) (E : XK), Room k (A.deeper (envOfC x (defScope st) s.heap.objs.size f cdv)) → sp vs H Q E →
      ∃ t, PSs (cxOf CX0 P w K mg base N x (defScope st) f cdv A outer s H E).nox (defBody st) t ∧ t { nx := fun _ H' => Q .non H', rt := Q } (start N vs) H) : Fn P w K mg base x ps (k + 1) sp := by
  obtain ⟨f, oc, od, kV, doc, pm, an, cdv, ct, osl, hm, lk, hcd, hk⟩ := D.ex
  refine ⟨⟨f, _, _, hm, hk, hbind kV doc pm an cdv ct, ⟨lk, rfl⟩, fn_of lk hcd S len fun A outer s H vs Q E hr hsp => ?_⟩⟩
  obtain ⟨t, h, q⟩ := hbody f cdv A outer s H vs Q E hr hsp
  exact ⟨t, h.nox, q⟩

/-- the law's own def, once for every base -/
theorem law_fd {P : Program} {w : World} {K : PySem.W.Frag} {mg : Str → Option Value} {fa : Addr} {k : Nat} {sp : Sp} (h : Heap) (hfa : mg "law" = some (.ref fa)) (F : ∀ base : Heap, Fn P w K mg base "law" ["script"] k sp) :
    ∃ fd : FuncData, (∀ (s : Shared) (v : Value), BindsTo s fd ⟨[v], []⟩ [("script", v)]) ∧ ∀ base : Heap, K.In base → base.Ns mainGlobals mg → FnOk P w K mg base CX0 k fa fd ["script"] sp := by
  obtain ⟨f, fd, o, hm, _, hb, ⟨hl, hd⟩, _⟩ := (F h).ex
  rw [hfa] at hm
  cases hm
  refine ⟨fd, fun s v => .of_eq (hb [v] rfl), fun base _ _ => ?_⟩
  obtain ⟨f', fd', o', hm', _, _, ⟨hl', hd'⟩, G⟩ := (F base).ex
  rw [hfa] at hm'
  cases hm'
  rw [hl] at hl'
  cases hl'
  rw [hd] at hd'
  cases hd'
  exact G
/-- what a law promises -/
def spLaw (K : PySem.W.Frag) : Sp := fun vs H Q _ => ∃ (a : Addr) (ns : List Int), vs = [.ref a] ∧ SqL K H a (ns.map V.int) ∧ ns.length ≤ 63 ∧ ∀ H', Q (.bl true) H'
theorem law_walk {l : PySem.W.OpenLaw} {k : Nat} {q : Program} {loose : List Str} {XP : (Str → Option Value) → Heap → Prop} {YP : World → Heap → Prop} {d : DefRec} {K : Params → PySem.W.Frag} (hk : Room k callerA) (hn : l.most = some 63) (hdf : d.params.defaults = [])
    (hY : ∀ (w : World) (h : Heap), YP w h → (K w.params).In h)
    (F : ∀ (w : World) (mg : Str → Option Value) (fa : Addr) (h : Heap), (K w.params).In h → h.Ns mainGlobals mg → mg d.name = some (.ref fa) →
      ∃ fd : FuncData, (∀ (s : Shared) (u : Value), BindsTo s fd ⟨[u], []⟩ [("script", u)]) ∧ ∀ base : Heap, (K w.params).In base → base.Ns mainGlobals mg → FnOk l.prog w (K w.params) mg base CX0 k fa fd ["script"] (spLaw (K w.params))) :
    PySem.W.WalkO q loose XP YP l.row.toRowW d [] (fun f vs => PySem.call f vs) :=
  L2.walk_of (n := 63) (k := k) (x := "script") (CX := fun _ => CX0) (sp := fun w => spLaw (K w.params)) hn (by decide) hdf hk hY F (fun _ _ a ns hl _ hS => ⟨a, ns, rfl, hS, hl, fun _ => rfl⟩) fun _ _ _ _ _ z => z

/-! ### heaps -/
theorem Same.new {H : Hp} {p : Addr} {o : HO} (h : H p = none) : Same H (upd H p o) := fun b o' e => by
  rw [upd_ne (ne_of_none e h)]
  exact e
/-- the test of a while read for another end -/
theorem ite3 {c : Bool} {A B : Prop} (h1 : c = true → A) (h2 : c = false → B) : if c = true then A else B := by
  cases c with
  | true => exact iteT (h1 rfl)
  | false => exact iteF (h2 rfl)
theorem iteFalse {b : Bool} {A B : Prop} (hb : b = false) (h : B) : if b = true then A else B := by
  subst hb
  exact iteF h
/-- the body of a for -/
def forBody (s : Stmt) : List Stmt := match s with
  | .For _ _ b _ _ => b
  | _ => []
def isIntV : V → Bool
  | .int _ => true
  | _ => false
theorem mem_cutV {xs : List V} {lo hi : Option Int} {x : V} (h : x ∈ cutV xs lo hi) : x ∈ xs := List.mem_of_mem_drop (List.mem_of_mem_take h)
end L2
/-! WHAT THE SMALL DEFS KEEP -/
namespace Sp1
open PySem PySem.Spec L2 Mth
/-! ### what each def keeps -/
def spWhole : Sp := fun vs H Q _ => ∃ x t, vs = [x] ∧ Kn H x t ∧ Q (.bl (isIntV x)) H
def spGcd : Sp := fun vs H Q _ => ∃ a b : Int, vs = [.int a, .int b] ∧ Q (.int (Int.gcd a b : Int)) H
def spCommon : Sp := fun vs H Q _ => ∃ a b : Int, vs = [.int a, .int b] ∧ 0 ≤ a ∧ 0 ≤ b ∧ Q (.int (Int.gcd a b : Int)) H
def spFloor : Sp := fun vs H Q _ => ∃ (p : Addr) (a b : Int), vs = [.ref p] ∧ H p = some (.tup [.int a, .int b]) ∧ (0 < b ∧ bits b ≤ 2000) ∧ Q (.int (a / b)) H
def lowB (a b : Int) : Bool := decide (1 ≤ b) && decide (Int.gcd a b = 1)
def lowL : List V → Bool
  | [.int a, .int b] => lowB a b
  | _ => false
def lowV (H : Hp) : V → Bool
  | .ref p => match H p with
    | some (.tup xs) => lowL xs
    | _ => false
  | _ => false
/-- a thing of a known kind; a tuple's parts are so, too -/
structure Thing (H : Hp) (x : V) : Prop where
  kn : ∃ t, Kn H x t
  parts : ∀ p xs, x = .ref p → H p = some (.tup xs) → ∀ y ∈ xs, ∃ t, Kn H y t
def spLow : Sp := fun vs H Q _ => ∃ x, vs = [x] ∧ Thing H x ∧ Q (.bl (lowV H x)) H
def spMixed : Sp := fun vs H Q _ => ∃ c k : Int, vs = [.int c, .int k] ∧ ∀ n : Int, Q (.int n) H
def spNumbers : Sp := fun vs H Q _ => ∃ (c : Int) (m : Nat) (b : Int), vs = [.int c, .int (m : Int), .int b] ∧ m ≤ 100 ∧ (0 < b ∧ bits b ≤ 2000) ∧
  ∀ (p : Addr) (ns : List Int) (H' : Hp), ns.length = m → (∀ n ∈ ns, 0 ≤ n ∧ n < b) → Same H H' → H' p = some (.lst (ns.map V.int)) → Q (.ref p) H'
theorem whole_sub {H : Hp} {x : V} {t : String} (k : Kn H x t) : (isSub t "int" = true → (!isSub t "bool") = isIntV x) ∧ (isSub t "int" = false → isIntV x = false) := by
  cases k with
  | non => exact ⟨fun h => absurd h (by decide), fun _ => rfl⟩
  | bl b => exact ⟨fun _ => (show (!isSub "bool" "bool") = false by decide), fun h => absurd h (by decide)⟩
  | int i => exact ⟨fun _ => (show (!isSub "int" "bool") = true by decide), fun h => absurd h (by decide)⟩
  | str x => exact ⟨fun h => absurd h (by decide), fun _ => rfl⟩
  | lst e => exact ⟨fun h => absurd h (by decide), fun _ => rfl⟩
  | tup e => exact ⟨fun h => absurd h (by decide), fun _ => rfl⟩
  | dict e => exact ⟨fun h => absurd h (by decide), fun _ => rfl⟩
theorem abs_nonneg (a : Int) : 0 ≤ (if a < 0 then -a else a) := by split <;> omega
/-! ### is_ratio and the law's own look -/
theorem Kn.cases_int {H : Hp} {y : V} {t : String} (k : Kn H y t) : (∃ a, y = .int a ∧ t = "int") ∨ ((∀ a, y ≠ .int a) ∧ isIntV y = false) := by
  cases k with
  | int a => exact .inl ⟨a, rfl, rfl⟩
  | non => exact .inr ⟨fun a e => (nomatch e), rfl⟩
  | bl b => exact .inr ⟨fun a e => (nomatch e), rfl⟩
  | str x => exact .inr ⟨fun a e => (nomatch e), rfl⟩
  | lst e => exact .inr ⟨fun a e => (nomatch e), rfl⟩
  | tup e => exact .inr ⟨fun a e => (nomatch e), rfl⟩
  | dict e => exact .inr ⟨fun a e => (nomatch e), rfl⟩
theorem Kn.cases_tup {H : Hp} {y : V} {t : String} (k : Kn H y t) : (∃ p xs, y = .ref p ∧ H p = some (.tup xs) ∧ t = "tuple") ∨ (lowV H y = false ∧ isSub t "tuple" = false) := by
  cases k with
  | tup e => exact .inl ⟨_, _, rfl, e, rfl⟩
  | non => exact .inr ⟨rfl, by decide⟩
  | bl b => exact .inr ⟨rfl, by decide⟩
  | str x => exact .inr ⟨rfl, by decide⟩
  | int a => exact .inr ⟨rfl, by decide⟩
  | lst e => exact .inr ⟨by simp only [lowV, e], by decide⟩
  | dict e => exact .inr ⟨by simp only [lowV, e], by decide⟩
theorem lowV_tup {H : Hp} {p : Addr} {xs : List V} (e : H p = some (.tup xs)) : lowV H (.ref p) = lowL xs := by simp only [lowV, e]
theorem lowL_len {xs : List V} (h : xs.length ≠ 2) : lowL xs = false := by
  unfold lowL
  split
  · exact absurd rfl h
  · rfl
theorem lowL_fst {y z : V} (h : ∀ a, y ≠ .int a) : lowL [y, z] = false := by
  unfold lowL
  split
  · rename_i a b e
    cases e
    exact absurd rfl (h a)
  · rfl
theorem lowL_snd {y z : V} (h : ∀ a, z ≠ .int a) : lowL [y, z] = false := by
  unfold lowL
  split
  · rename_i a b e
    cases e
    exact absurd rfl (h b)
  · rfl
theorem sz {n : Nat} (h : n ≤ 1000) : n ≤ sizeLine := Nat.le_of_lt (small1000 h)
theorem gcd_bits {a b : Int} {n : Nat} (hb : 0 < b) (h : bits b ≤ n) : bits (Int.gcd a b : Int) ≤ n := by
  refine bits_mono ?_ h
  have h1 : (Int.gcd a b : Int) ≤ b := Int.le_of_dvd hb (Int.gcd_dvd_right a b)
  omega
/-! ### things -/
theorem grow {H : Hp} {p : Addr} {o : HO} (h : H p = none) : ∃ H1, upd H p o = H1 ∧ Same H H1 ∧ H1 p = some o := ⟨_, rfl, Same.new h, upd_same⟩
theorem atI_mem {α : Type} {xs : List α} {k : Int} (h0 : 0 ≤ k) (h1 : k < (xs.length : Int)) : ∃ v, atI xs k = some v ∧ v ∈ xs := by
  have hk : k.toNat < xs.length := by omega
  have ek : k = ((k.toNat : Nat) : Int) := by omega
  have q := atI_nat (xs := xs) (j := k.toNat) (List.getElem?_eq_getElem hk)
  rw [← ek] at q
  exact ⟨xs[k.toNat], q, List.getElem_mem hk⟩
theorem th_flat {H : Hp} {x : V} {t : String} (k : Kn H x t) (h : ∀ p, x ≠ .ref p) : Thing H x := ⟨⟨t, k⟩, fun p xs e => absurd e (h p)⟩
theorem th_lst {H : Hp} {p : Addr} {xs : List V} (e : H p = some (.lst xs)) : Thing H (.ref p) := ⟨⟨_, .lst e⟩, fun p' ys e1 e2 => by
  cases e1
  rw [e] at e2
  cases e2⟩
theorem th_tup {H : Hp} {p : Addr} {xs : List V} (e : H p = some (.tup xs)) (h : ∀ y ∈ xs, ∃ t, Kn H y t) : Thing H (.ref p) := ⟨⟨_, .tup e⟩, fun p' ys e1 e2 => by
  cases e1
  rw [e] at e2
  cases e2
  exact h⟩
theorem lt64 {n : Int} (h0 : 0 ≤ n) (h1 : n < 2147483647) : -(2 ^ 64) < n ∧ n < 2 ^ 64 := by
  have e : (2 : Int) ^ 64 = 18446744073709551616 := by decide
  rw [e]
  omega
/-! ### fractions made -/
theorem gcd_bits2 {a b : Int} {n : Nat} (hb : b ≠ 0) (h : bits b ≤ n) : bits (Int.gcd a b : Int) ≤ n := by
  refine bits_mono ?_ h
  have h1 : (Int.gcd a b) ∣ b.natAbs := Int.gcd_dvd_natAbs_right a b
  have h2 := Nat.le_of_dvd (by omega) h1
  omega
end Sp1
/-! TUPLES OF WHOLE NUMBERS compared -/
namespace L2
open PySem PySem.Spec PyProof.Rows
theorem all_same (ns ms : List Int) : ((List.range (min ns.length ms.length)).all (fun j => decide (ns[j]? = ms[j]?)) && ns.length == ms.length) = decide (ns = ms) := by
  rw [Bool.eq_iff_iff]
  simp only [Bool.and_eq_true, List.all_eq_true, List.mem_range, decide_eq_true_eq, beq_iff_eq]
  constructor
  · rintro ⟨h1, h2⟩
    refine List.ext_getElem? fun j => ?_
    by_cases hj : j < ns.length
    · exact h1 j (by omega)
    · rw [List.getElem?_eq_none (by omega), List.getElem?_eq_none (by omega)]
  · rintro rfl
    exact ⟨fun _ _ => rfl, rfl⟩
theorem val_at {ns : List Int} {us : List Value} {j : Nat} (r : Vals (ns.map V.int) us) (h : j < us.length) : ∃ a, ns[j]? = some a ∧ RelV (.int a) us[j] := by
  have hl := r.length
  rw [List.length_map] at hl
  have hj : j < ns.length := by omega
  obtain ⟨u, e, q⟩ := r.get (i := j) (x := .int ns[j]) (by rw [List.getElem?_map, List.getElem?_eq_getElem hj]; rfl)
  rw [List.getElem?_eq_getElem h] at e
  cases e
  exact ⟨ns[j], List.getElem?_eq_getElem hj, q⟩
section
variable {X : Cx}
def rEqI (K : PySem.W.Frag) (neg : Bool) : R2 := fun x y H Q => ∃ (p q : Addr) (ns ms : List Int), x = .ref p ∧ y = .ref q ∧ SqT K H p (ns.map V.int) ∧ SqT K H q (ms.map V.int) ∧ Q (.bl (if neg then !decide (ns = ms) else decide (ns = ms))) H
theorem items_eq {A : Around} {s : Shared} {ns ms : List Int} {us vs : List Value} (r : Vals (ns.map V.int) us) (r' : Vals (ms.map V.int) vs) (j : Nat) (h1 : j < us.toArray.size) (h2 : j < vs.toArray.size) :
    SeqAt.EqAt A s us.toArray[j] vs.toArray[j] (decide (ns[j]? = ms[j]?)) := by
  rw [List.size_toArray] at h1 h2
  obtain ⟨a, ea, ra⟩ := val_at r h1
  obtain ⟨b, eb, rb⟩ := val_at r' h2
  have q := eqAt_V (A := A) (s := s) ra rb rfl rfl
  have e : eqV (.int a) (.int b) = decide (ns[j]? = ms[j]?) := by
    rw [ea, eb]
    show (a == b) = decide (some a = some b)
    rw [Bool.eq_iff_iff]
    simp
  rw [e] at q
  exact q
theorem op_eqI (hu : X.A.units < cLine) : OpR X (compareOp .Eq) (rEqI X.K false) := by
  intro pins s σ H x y v u Q I rx ry h
  obtain ⟨p, q, ns, ms, rfl, rfl, hp, hq, k⟩ := h
  cases rx
  cases ry
  obtain ⟨its, r, pl, _⟩ := I.tuple hp
  obtain ⟨jts, r', pl', _⟩ := I.tuple hq
  refine SeqAt.eq_tupleAt pl pl' hu (items_eq r r') ⟨.bl _, H, I, rfl, ?_⟩
  have e1 := r.length
  have e2 := r'.length
  rw [List.length_map] at e1 e2
  rw [List.size_toArray, List.size_toArray, ← e1, ← e2, all_same]
  exact k
end
end L2
/-! A LIST unpacked: a, b = f(..) where f tells a list -/
namespace L2
open PySem PySem.Spec PyProof.Rows
section
variable {prog : Program} {w : World} {A : Around} {E : Value → Shared → Prop}
theorem drawn_list {it l : Addr} {its : List Value} (hne : l ≠ it) : ∀ (n i : Nat) (s : Shared) (Q : List Value → Shared → Prop), s.heap.IsListIter it l i → s.heap.IsList l its.toArray → i + n ≤ its.length →
    (∀ h', h'.IsListIter it l (i + n) → Heap.SameBut it s.heap h' → Q ((its.drop i).take n) { s with heap := h' }) → wpAny (model prog w) A (draw (.ref it) n) Q E s := by
  intro n
  induction n with
  | zero =>
    intro i s Q hit _ _ hQ
    exact wpAny_pure (by simpa using hQ s.heap hit (Heap.SameBut.refl ..))
  | succ n ih =>
    intro i s Q hit hl hle hQ
    have hlt : i < its.length := by omega
    refine wpAny_bind (m := pyNext (.ref it)) (wpAny_pyNext_list_item hit hl (x := its[i]) (by simp [hlt]) fun h1 hit1 sb1 => ?_)
    refine wpAny_bind (wpAny_holding (ih (i + 1) _ _ hit1 (hl.extBut sb1.extBut hne) (by omega) fun h2 hit2 sb2 => wpAny_pure ?_))
    have hd : its.drop i = its[i] :: its.drop (i + 1) := List.drop_eq_getElem_cons hlt
    have q := hQ h2 (by rw [show i + (n + 1) = i + 1 + n by omega]; exact hit2) (sb1.trans sb2)
    rw [hd, List.take_succ_cons] at q
    exact q
theorem unpacked_list {l : Addr} {its : List Value} {s : Shared} {Q : List Value → Shared → Prop} (hh : A.handled = none) (hl : s.heap.IsList l its.toArray)
    (hQ : ∀ h', (∀ b o, s.heap.get? b = some o → h'.get? b = some o) → Q its { s with heap := h' }) : wpAny (model prog w) A (unpackItems (.ref l) its.length none) Q E s := by
  have hlt : l ≠ s.heap.objs.size := by
    obtain ⟨o, ho, _⟩ := hl
    exact Nat.ne_of_lt (Heap.lt_size ho)
  unfold unpackItems
  refine wpAny_bind (m := notIterableAtAll _) ?_
  unfold notIterableAtAll
  refine wpAny_bind (wpAny_specialOf hl.typeIs slot_list_iter.lookup (wpAny_pure ?_))
  simp only [if_false, Bool.false_eq_true]
  refine wpAny_bind (wpAny_holding (wpAny_pyIter_list hl ?_))
  refine wpAny_bind (wpAny_holding (drawn_list hlt its.length 0 _ _ ⟨_, Heap.get?_push_size _ rfl, rfl, rfl⟩ (hl.push _) (by omega) fun h1 hit1 sb1 => ?_))
  have hall : (its.drop 0).take its.length = its := by rw [List.drop_zero, List.take_length]
  rw [hall, if_neg (by simp)]
  have hlh : h1.IsList l its.toArray := (hl.push _).extBut sb1.extBut hlt
  refine wpAny_bind (wpAny_holding (wpAny_pyNext_list_end hh hit1 hlh (by simp) fun h2 eb => ?_))
  simp only [Option.isSome_none, if_false, Bool.false_eq_true]
  exact wpAny_pure (hQ h2 fun b o e => eb b o (Nat.ne_of_lt (Heap.lt_size e)) (sb1.extBut b o (Nat.ne_of_lt (Heap.lt_size e)) (Heap.get?_push_of_some _ e)))
end
def gLst (K : PySem.W.Frag) (n : Nat) (t : TGs) : TG := fun v σ H Q => ∃ a xs, v = .ref a ∧ SqL K H a xs ∧ xs.length = n ∧ t xs σ H Q
theorem pg_lst {X : Cx} {pos : Pos} {es : List Expr} {k : Nat} {t : TGs} {n : Nat} (hc : X.calm = true) (h : PGs X es t)
    (hn : (assignEach es X.env).length = n := by rfl) (hst : (assignEach es X.env).findIdx? (·.1) = none := by rfl) : PG X (.Tuple es k pos) (gLst X.K n t) := by
  intro pins s σ H v u Q I r hw
  obtain ⟨a, xs, rfl, hq, hl, hw⟩ := hw
  cases r
  obtain ⟨its, rv, pl, hz⟩ := I.list hq
  have hlen : its.length = n := by rw [← rv.length]; exact hl
  rw [assign_Tuple]
  refine wpAny_bind (wpAny_standAt ?_)
  unfold unpack
  rw [hst, hn, ← hlen]
  refine wpAny_bind (wpAny_holding (unpacked_list (I.ok.hd hc) pl.isList fun h' kp => ?_))
  exact h pins _ σ H xs _ Q (I.kept (t' := s.toks) kp) rv hw
end L2
/-! EXCEPTIONS over the hand layer: own classes, raised in a def, passed on, caught by their name. -/
namespace L2
open PySem PySem.Spec PyProof.Rows

theorem ObjOk.has {P : Program} {w : World} {H : Hp} {h : Heap} {a : Addr} {o : HO} (x : ObjOk P w H h a o) : ∃ ob, h.get? a = some ob := by
  cases o with
  | lst xs => obtain ⟨_, _, _, _, e⟩ := x; exact ⟨_, e⟩
  | tup xs => obtain ⟨_, _, _, ob, e, _⟩ := x; exact ⟨_, e⟩
  | dK kvs => obtain ⟨_, _, _, _, ob, _, _, e, _⟩ := x; exact ⟨_, e⟩
  | dT kvs => obtain ⟨_, _, _, _, ob, _, _, e, _⟩ := x; exact ⟨_, e⟩
  | set S n => obtain ⟨ob, _, _, _, e, _⟩ := x; exact ⟨_, e⟩
  | ins C dx fs => obtain ⟨_, _, _, e, _⟩ := x; exact ⟨_, e⟩
  | own y => obtain ⟨ob, e⟩ := x; exact ⟨_, e⟩
  | xd fs => obtain ⟨_, ⟨od, _, _, e, _⟩, _⟩ := x; exact ⟨_, e⟩
  | rng lo hi => obtain ⟨_, _, _, e⟩ := x; exact ⟨_, e⟩
  | frz ob u => obtain ⟨e, _⟩ := x; exact ⟨_, e⟩
  | tbl ps => exact ⟨_, (show h.get? a = some _ from x)⟩
  | met f y => exact ⟨_, (show h.get? a = some _ from x)⟩
  | ext φ => obtain ⟨_, ⟨ob, e⟩, _⟩ := x; exact ⟨_, e⟩

/-- B holds what an exception on its way leaves as it is: what is tracked, and what was there ahead, but the frames -/
structure Big (B : Heap) (fs : List Addr) (H' : Hp) (h : Heap) : Prop where
  tr : ∀ b o, H' b = some o → ∃ ob, B.get? b = some ob
  old : ∀ b o, h.get? b = some o → b ∉ fs → ∃ ob, B.get? b = some ob
section
variable {P : Program} {w : World} {fs fs' : List Addr} {H H1 H' : Hp} {h h1 h2 B : Heap}
theorem Un.fly (un : Un fs [] H H' h h1) (big : Big B fs H' h) (st1 : B.StaysIn h1) (st2 : B.StaysIn h2) (sl : h1.UpToSlots h2)
    (fr : ∀ b ∈ fs, H b = none ∧ ∀ o, h1.get? b = some o → ∀ vs, o.data ≠ .fields vs) : Un fs [] H H' h h2 where
  keep := fun b o e n hb hx => by
    have e1 := un.keep b o e n hb hx
    obtain ⟨ob, eb⟩ := big.old b o e hb
    have e2 := st1 b ob eb
    rw [e1] at e2
    cases e2
    exact st2 b _ eb
  slot := fun b o e n hb hx => by
    obtain ⟨s1, e1⟩ := un.slot b o e n hb hx
    obtain ⟨s2, e2⟩ := sl b _ e1 ((fr b hb).2 _ e1)
    exact ⟨s2, e2⟩
  free := un.free
  there := fun b o e hx => by
    by_cases hb : b ∈ fs
    · obtain ⟨s1, e1⟩ := un.slot b o e (fr b hb).1 hb hx
      obtain ⟨s2, e2⟩ := sl b _ e1 ((fr b hb).2 _ e1)
      exact ⟨_, e2⟩
    · obtain ⟨ob, eb⟩ := big.old b o e hb
      exact ⟨_, st2 b ob eb⟩
  tups := un.tups
  frzs := un.frzs
  tbls := un.tbls
theorem HOk.fly (hok : HOk P w H' h1) (big : Big B fs H' h) (st1 : B.StaysIn h1) (st2 : B.StaysIn h2) : HOk P w H' h2 := fun a o e => by
  refine (hok a o e).stay (fun b u hb q => ?_) (fun _ q => q) fun _ _ q => q
  have hb' : ∃ ob, B.get? b = some ob := by
    rcases hb with z | z
    · rw [z]
      exact big.tr a o e
    · exact big.tr b _ z
  obtain ⟨ob, eb⟩ := hb'
  have e2 := st1 b ob eb
  rw [q] at e2
  cases e2
  exact st2 b _ eb
/-- a def's own frame is left: it was not there ahead -/
theorem Un.shed (a : Un fs [] H H1 h h1) (b : Un fs' [] H1 H' h1 h2) (sub : ∀ x ∈ fs, x ∈ fs') (out : ∀ x o, h.get? x = some o → x ∈ fs' → x ∈ fs) : Un fs [] H H' h h2 where
  keep := fun x o e n hx hn => b.keep x o (a.keep x o e n hx hn) (a.free x o e n hn) (fun z => hx (out x o e z)) hn
  slot := fun x o e n hx hn => by
    obtain ⟨s1, e1⟩ := a.slot x o e n hx hn
    obtain ⟨s2, e2⟩ := b.slot x _ e1 (a.free x o e n hn) (sub x hx) hn
    exact ⟨s2, e2⟩
  free := fun x o e n hn => by
    obtain ⟨o1, e1⟩ := a.there x o e hn
    exact b.free x o1 e1 (a.free x o e n hn) hn
  there := fun x o e hn => by
    obtain ⟨o1, e1⟩ := a.there x o e hn
    exact b.there x o1 e1 hn
  tups := fun x xs e => b.tups x xs (a.tups x xs e)
  frzs := fun x o xs e => b.frzs x o xs (a.frzs x o xs e)
  tbls := fun x ps e => by
    obtain ⟨m1, e1⟩ := a.tbls x ps e
    obtain ⟨m2, e2⟩ := b.tbls x _ e1
    exact ⟨m1 ++ m2, by rw [e2, Array.append_assoc]⟩
end

/-- how an exception lies behind a call -/
def CXE (P : Program) (w : World) : CXT := fun outer H s E e s' => ∃ (ea t : Addr) (cls : Value) (H' : Hp) (B : Heap),
  e = .ref ea ∧ s'.os = s.os ∧ AllBare s'.gens ∧ Un (frs outer) [] H H' s.heap s'.heap ∧ HOk P w H' s'.heap ∧ Heap.FlyingW B outer ea cls (.ref t) s'.heap ∧ Big B (frs outer) H' s.heap ∧ E cls none H'

section
variable {P : Program} {w : World} {K : PySem.W.Frag} {mg : Str → Option Value} {base : Heap} {N : List Str} {qual : Str} {scope : Scope} {f : Addr} {cdv : Value} {A : Around} {outer : List Env} {s₀ : Shared} {H₀ : Hp} {E : XK}
/-- the frames of a def's body -/
theorem frs_cons {env : Env} {L : Addr} (hf : env.frame = some L) (l : List Env) : frs (env :: l) = L :: frs l := by
  unfold frs
  rw [List.filterMap_cons, hf]
/-- an exception that was made just now leaves the def -/
theorem raised {pins : List (Addr × Obj)} {σ : St} {H : Hp} {s : Shared} {h' : Heap} {e : Addr} {cls : Value} {vs : List Value} (I : Inv (cxOf (CXE P w) P w K mg base N qual scope f cdv A outer s₀ H₀ E) pins σ H s)
    (hx : Heap.MadeExcOf s.heap h' e cls vs) (q : E cls none H) : (cxOf (CXE P w) P w K mg base N qual scope f cdv A outer s₀ H₀ E).xe (.ref e) { s with heap := h' } := by
  have hin : ∀ env ∈ (cxOf (CXE P w) P w K mg base N qual scope f cdv A outer s₀ H₀ E).stack, ∀ a, env.frame = some a → a ∈ frs (cxOf (CXE P w) P w K mg base N qual scope f cdv A outer s₀ H₀ E).stack :=
    fun env he a ha => List.mem_filterMap.mpr ⟨env, he, ha⟩
  have neL : ∀ b o, s₀.heap.get? b = some o → b ∉ frs outer → b ∉ frs (cxOf (CXE P w) P w K mg base N qual scope f cdv A outer s₀ H₀ E).stack := fun b o eb hb hm => by
    rcases List.mem_cons.mp (I.stkSub b hm) with z | z
    · exact absurd z (Nat.ne_of_lt (Nat.lt_of_lt_of_le (Heap.lt_size eb) I.ok.above))
    · exact hb z
  refine wpAny_leaves_madeW (base := PySem.W.hideAll s.heap (frs (cxOf (CXE P w) P w K mg base N qual scope f cdv A outer s₀ H₀ E).stack)) (h := s.heap) (L := s₀.heap.objs.size) I.ok.frames rfl (fun b o z => PySem.W.of_hideAll _ z) (PySem.W.funFrames_hide I.stack hin) hx fun h'' t fl _ _ up => ?_
  have big : Big (PySem.W.hideAll s.heap (frs (cxOf (CXE P w) P w K mg base N qual scope f cdv A outer s₀ H₀ E).stack)) (frs outer) H s₀.heap := by
    refine ⟨fun b o eb => ?_, fun b o eb hb => ?_⟩
    · obtain ⟨ob, z⟩ := (I.hok b o eb).has
      refine ⟨ob, PySem.W.hideAll_get _ z fun hm => ?_⟩
      rw [I.stkFree b hm] at eb
      cases eb
    · obtain ⟨ob, z⟩ := I.base.there b o eb (by intro z; cases z)
      exact ⟨ob, PySem.W.hideAll_get _ z (neL b o eb hb)⟩
  have st1 : (PySem.W.hideAll s.heap (frs (cxOf (CXE P w) P w K mg base N qual scope f cdv A outer s₀ H₀ E).stack)).StaysIn s.heap := fun b o z => PySem.W.of_hideAll _ z
  have sl : s.heap.UpToSlots h'' := (Heap.UpToSlots.of_keeps hx.keeps).trans up
  exact ⟨e, t, cls, H, _, rfl, I.os, I.bare, Un.fly I.base big st1 fl.1 sl fun b hb => ⟨I.ok.frf b hb, fun o eo => by
      obtain ⟨_, o', eo', nf⟩ := I.funs.mem hb
      rw [eo] at eo'
      cases eo'
      exact nf⟩, HOk.fly I.hok big st1 fl.1, fl, big, q⟩
/-- an exception of a callee leaves the def, too -/
theorem pass_on {E1 : XK} (hE : ∀ c o H', E1 c o H' → E c o H') : Passes (CXE P w) (cxOf (CXE P w) P w K mg base N qual scope f cdv A outer s₀ H₀ E) E1 := by
  intro pins σ H s e s' I h
  obtain ⟨ea, t, cls, H', B, rfl, os, bare, un, hok, fl, big, q⟩ := h
  refine wpAny_leaves_onW (L := s₀.heap.objs.size) I.ok.frames rfl fl fun h'' fl' up => ?_
  have out : ∀ x o, s₀.heap.get? x = some o → x ∈ frs (cxOf (CXE P w) P w K mg base N qual scope f cdv A outer s₀ H₀ E).stack → x ∈ frs outer := fun x o ex hm => by
    rcases List.mem_cons.mp (I.stkSub x hm) with z | z
    · exact absurd z (Nat.ne_of_lt (Nat.lt_of_lt_of_le (Heap.lt_size ex) I.ok.above))
    · exact z
  have sub : ∀ x ∈ frs outer, x ∈ frs (cxOf (CXE P w) P w K mg base N qual scope f cdv A outer s₀ H₀ E).stack := fun x hx => by
    show x ∈ frs (_ :: outer)
    rw [frs_cons (L := s₀.heap.objs.size) rfl]
    exact List.mem_cons_of_mem _ hx
  have un1 : Un (frs outer) [] H₀ H' s₀.heap s'.heap := Un.shed I.base un sub out
  have big1 : Big B (frs outer) H' s₀.heap := by
    refine ⟨big.tr, fun b o eb hb => ?_⟩
    obtain ⟨ob, z⟩ := I.base.there b o eb (by intro z; cases z)
    exact big.old b ob z fun hm => hb (out b o eb hm)
  refine ⟨ea, t, cls, H', B, rfl, os.trans I.os, bare, Un.fly un1 big1 fl.1 fl'.1 up fun b hb => ⟨I.ok.frf b hb, fun o eo => ?_⟩, HOk.fly hok big1 fl.1 fl'.1, fl', big1, hE _ _ _ q⟩
  obtain ⟨_, o', eo', nf⟩ := fl'.2.2.1.mem hb
  obtain ⟨_, o2, eo2, nf2⟩ := fl.2.2.1.mem (sub b hb)
  rw [eo] at eo2
  cases eo2
  exact nf2
end

/-! ### raise -/
/-- an own class of exceptions, straight or not under ValueError -/
structure ExcC (K : PySem.W.Frag) (mg : Str → Option Value) (x : Str) (C : Addr) : Prop where
  bound : mg x = some (.ref C)
  obj : ∀ h : Heap, K.In h → ∃ bm N nm qn bs hd sn sub ab col dd k0 k1 k2 k3 k5 mN, h.get? C = some (excClassObj nm qn C N bs bm hd sn sub ab col dd k0 k1 k2 k3 k5 "ValueError.__new__") ∧ h.Ns N mN ∧ mN "__init__" = none ∧
    OwnTail h [.type "ValueError", .type "Exception", .type "BaseException", .type "object"] bm
theorem exc_obj {K : PySem.W.Frag} {h : Heap} {C : Addr} {bmB : List Value} {newId : String} (X : K.In h) (q : PySem.W.excIn K C bmB newId = true) :
    ∃ bm N nm qn bs hd sn sub ab col dd k0 k1 k2 k3 k5 mN, h.get? C = some (excClassObj nm qn C N bs bm hd sn sub ab col dd k0 k1 k2 k3 k5 newId) ∧ h.Ns N mN ∧ mN "__init__" = none ∧ OwnTail h bmB bm := by
  unfold PySem.W.excIn at q
  split at q
  next dct cl sls look =>
    split at q
    next C2 bms a0 a1 a2 a3 nid a5 hmro hsls =>
      simp only [Bool.not_eq_true', beq_iff_eq, Bool.and_eq_true] at q
      obtain ⟨⟨⟨⟨⟨q1, q2⟩, q3⟩, q4⟩, q5⟩, q6⟩ := q
      subst q1 q2
      obtain ⟨c1, c2, c3, c4, c5, c6, c7, c8, c9, c10, c11⟩ := cl
      dsimp only at hmro q3 q5 q6
      subst hmro q3
      obtain ⟨lst⟩ := sls
      simp only at hsls
      subst hsls
      exact ⟨bms, c4, c1, c5, c2, c6, c7, c8, c9, c10, dct, a0, a1, a2, a3, a5, _, X _ _ look, .of_isNs (PySem.W.isNs_of_in X q5), PySem.W.nsMap_none_of_in X q5 q6, PySem.W.tail_of_in X q4⟩
    next => cases q
  next => cases q
theorem exc_mk {K : PySem.W.Frag} {mg : Str → Option Value} {h : Heap} {x : Str} {C : Addr} (X : K.In h) (G : h.Ns mainGlobals mg) (a : PySem.W.nsIn K mainGlobals x = some (some (.ref C)))
    (q : PySem.W.excIn K C [.type "ValueError", .type "Exception", .type "BaseException", .type "object"] "ValueError.__new__" = true) : ExcC K mg x C := ⟨PySem.W.mg_of X G a, fun _ Y => exc_obj Y q⟩
section
variable {P : Program} {w : World} {K : PySem.W.Frag} {mg : Str → Option Value} {base : Heap} {N : List Str} {qual : Str} {scope : Scope} {f : Addr} {cdv : Value} {A : Around} {outer : List Env} {s₀ : Shared} {H₀ : Hp} {E : XK}
/-- raise X() -/
theorem ps_raise {x : Str} {C : Addr} {np cpos pos : Pos} (O : ExcC K mg x C) (hg : Gl (cxOf (CXE P w) P w K mg base N qual scope f cdv A outer s₀ H₀ E) x) (hdb : (x == ("__debug__" : Str)) = false := by decide) :
    PS (cxOf (CXE P w) P w K mg base N qual scope f cdv A outer s₀ H₀ E) (.Raise (some (.Call (.Name x np) [] [] cpos)) none pos) (fun _ _ H => E (.ref C) none H) := by
  intro pins s σ H D I h
  obtain ⟨bm, N', nm, qn, bs, hd, sn, sub, ab, col, dd, k0, k1, k2, k3, k5, mN, hC, hN, hni, T⟩ := O.obj s.heap I.kIn
  refine wpAny_Raise_call_subT (C := C) (nm := nm) (q := qn) (N := N') (bs := bs) (bm := bm) (hdct := hd) (sn := sn) (sub := sub) (ab := ab) (col := col) (dd := dd) (k0 := k0) (k1 := k1) (k2 := k2) (k3 := k3) (k5 := k5) PySem.F.excBase_ValueError (mN := mN) (T.hasType (by decide +kernel)) (I.ok.hd rfl) rfl hni (ld_glob I hg O.bound ⟨rfl, ?_⟩ hdb)
  exact evalArgs_empty ⟨rfl, Nat.zero_le _, hC, hN, T, fun h' e hx => raised I hx h⟩
end

/-! ### try: one call, one clause -/
/-- the context within an except suite -/
abbrev Cx.inH (X : Cx) (e : Addr) : Cx := { X with A := X.A.mark (some (.ref e)), calm := false, xe := fun _ _ => False }
theorem Inv.inH {X : Cx} {pins : List (Addr × Obj)} {σ : St} {H : Hp} {s : Shared} (I : Inv X pins σ H s) (e : Addr) : Inv (X.inH e) pins σ H s :=
  ⟨⟨I.ok.mod, I.ok.kind, I.ok.glob, I.ok.blt, I.ok.above, I.ok.inj, I.ok.has, I.ok.cab, (fun z => by cases z), I.ok.frames, I.ok.stk, I.ok.exf, I.ok.bs, I.ok.bsz, I.ok.noex, I.ok.exfs, I.ok.funs, I.ok.frf⟩,
    I.os, I.bare, I.base, I.loc, I.cell, I.free, I.freeC, I.pin, I.hok, I.len⟩
theorem Inv.outH {X : Cx} {e : Addr} {pins : List (Addr × Obj)} {σ : St} {H : Hp} {s : Shared} (ok : X.Ok) (I : Inv (X.inH e) pins σ H s) : Inv X pins σ H s :=
  ⟨ok, I.os, I.bare, I.base, I.loc, I.cell, I.free, I.freeC, I.pin, I.hok, I.len⟩
theorem SP.outH {X : Cx} {e : Addr} {pins : List (Addr × Obj)} {D : Ends} {fl : Flow} {s : Shared} (ok : X.Ok) (h : SP (X.inH e) pins D fl s) : SP X pins D fl s := by
  cases fl with
  | next => obtain ⟨σ', H', I, q⟩ := h; exact ⟨σ', H', I.outH ok, q⟩
  | brk => obtain ⟨σ', H', I, q⟩ := h; exact ⟨σ', H', I.outH ok, q⟩
  | cont => obtain ⟨σ', H', I, q⟩ := h; exact ⟨σ', H', I.outH ok, q⟩
  | ret u => obtain ⟨v, σ', H', I, r, q⟩ := h; exact ⟨v, σ', H', I.outH ok, r, q⟩
section
variable {X : Cx}
/-- an exception of a callee is met by a clause that names its very class -/
theorem caught {pins : List (Addr × Obj)} {σ : St} {H : Hp} {s s' : Shared} {E1 : XK} {ev : Value} {x : Str} {C : Addr} {np pos : Pos} {b₀ : Stmt} {suite : List Stmt} {rest : List ExceptHandler} {D : Ends} {th : TS} {Ex : Value → Shared → Prop}
    (I : Inv X pins σ H s) (stk : X.stack = X.env :: X.outer) (hf : X.env.frame = some X.env.locals) (O : ExcC X.K X.mg x C) (hg : Gl X x) (h : CXE X.prog X.w X.stack H s E1 ev s')
    (hE : ∀ c o H', E1 c o H' → c = .ref C ∧ th D σ H') (hb : ∀ e : Addr, PSs (X.inH e) (b₀ :: suite) th) (hdb : (x == ("__debug__" : Str)) = false := by decide) :
    wpAny (model X.prog X.w) X.A (noteFrame ev X.env) (fun _ s₂ => wpAny (model X.prog X.w) X.A (setFlight ev none) (fun _ s₃ =>
      wpAny (model X.prog X.w) X.A (handleBy ev X.env (.ExceptHandler (some (.Name x np)) none (b₀ :: suite) pos :: rest)) (SP X pins D) Ex s₃) Ex s₂) Ex s' := by
  obtain ⟨ea, t, cls, H', B, rfl, os, bare, un, hok, fl, big, q⟩ := h
  obtain ⟨rfl, rd⟩ := hE _ _ _ q
  have hfr := I.ok.frames
  rw [stk] at hfr
  have fr : ∀ b ∈ frs X.stack, H b = none ∧ ∀ o, s'.heap.get? b = some o → ∀ vs, o.data ≠ .fields vs := fun b hb => ⟨I.stkFree b hb, fun o eo => by
    obtain ⟨_, o', eo', nf⟩ := fl.2.2.1.mem hb
    rw [eo] at eo'
    cases eo'
    exact nf⟩
  have J : ∀ h2 : Heap, B.StaysIn h2 → s'.heap.UpToSlots h2 → Inv X pins σ H' { s' with heap := h2 } := fun h2 st2 sl =>
    I.call' (s' := { s' with heap := h2 }) (ch := []) os (Un.fly un big fl.1 st2 sl fr) (HOk.fly hok big fl.1 st2) bare fun b z => absurd z (by simp)
  have fl0 := fl
  rw [stk] at fl0
  refine wpAny_looks_onW (L := X.env.locals) hfr hf fl0 fun h4 hheld up4 => ?_
  refine wpAny_landsW hheld fun h5 fl5 up5 => ?_
  have up45 := up4.trans up5
  have I5 := (J h5 fl5.1 up45).inH ea
  obtain ⟨oe, he, hc⟩ := fl5.there
  obtain ⟨bm, N', nm, qn, bs, hd, sn, sub, ab, col, dd, k0, k1, k2, k3, k5, mN, hC, hN, hni, T⟩ := O.obj h5 I5.kIn
  refine wpAny_handleBy_cons (codeAny_handlers_test (ld_glob I5 hg O.bound ?_ hdb)) (by intro z; cases z)
  refine wpAny_excMatches_sub_self hC he hc (T.hasType (by decide +kernel)) (codeAny_handlers_suite ?_)
  refine lands_againW fl5 fun h6 fl6 up6 => ?_
  have I6 := (J h6 fl6.1 (up45.trans up6)).inH ea
  exact wpAny_mono (hb ea pins _ σ H' D I6 rd) (fun f s₂ z => z.outH I.ok) fun _ _ z => False.elim z
end

/-- statements from which an exception may come: R is what is wanted of it, its class, the frame and the heap at that time -/
abbrev TX := (Value → St → Hp → Prop) → TS
def XP (X : Cx) (pins : List (Addr × Obj)) (R : Value → St → Hp → Prop) (ev : Value) (s' : Shared) : Prop :=
  ∃ (s₁ : Shared) (σ₁ : St) (H₁ : Hp) (E1 : XK), Inv X pins σ₁ H₁ s₁ ∧ CXE X.prog X.w X.stack H₁ s₁ E1 ev s' ∧ ∀ c o H', E1 c o H' → R c σ₁ H'
def PX (X : Cx) (st : Stmt) (t : TX) : Prop :=
  ∀ (pins : List (Addr × Obj)) (s : Shared) (σ : St) (H : Hp) (D : Ends) (R : Value → St → Hp → Prop), Inv X pins σ H s → t R D σ H → wpAny (model X.prog X.w) X.A (exec st X.env) (SP X pins D) (XP X pins R) s
def PXs (X : Cx) (st : List Stmt) (t : TX) : Prop :=
  ∀ (pins : List (Addr × Obj)) (s : Shared) (σ : St) (H : Hp) (D : Ends) (R : Value → St → Hp → Prop), Inv X pins σ H s → t R D σ H → wpAny (model X.prog X.w) X.A (execs st X.env) (SP X pins D) (XP X pins R) s
/-- a def that may raise, with what it keeps -/
structure Fx (P : Program) (w : World) (K : PySem.W.Frag) (mg : Str → Option Value) (base : Heap) (x : Str) (ps : List Str) (k : Nat) (ds : List V) (sp : Sp) : Prop where
  ex : ∃ (f : Addr) (fd : FuncData) (its : List Value), mg x = some (.ref f) ∧ PySem.W.keepIn K (.ref f) = true ∧ Binds K fd ps [] ∧ Binds K fd ps its ∧ Vals ds its ∧ FnOk P w K mg base (CXE P w) k f fd ps sp
/-- a def with defaults ds, as the top has laid it -/
structure DfD (K : PySem.W.Frag) (mg : Str → Option Value) (x : Str) (st : Stmt) (ds : List V) : Prop where
  ex : ∃ (f T : Addr) (oT : Obj) (n : Nat) (its : List Value) (oc : Value) (od : Option Addr) (kV doc pm : Value) (an : Option Addr) (cdv ct : Value) (osl : Array (Option Value)),
    mg x = some (.ref f) ∧ K.lookup f = some ⟨oc, od, .func (PySem.W.fnOf x x (defArgs st) (defBody st) (defScope st) (.ref T) kV doc pm an cdv ct), osl⟩ ∧ PySem.W.codeIn K cdv x = true ∧ PySem.W.keepIn K (.ref f) = true ∧ K.lookup T = some oT ∧ oT.data = .seq its.toArray n ∧ Vals ds its
theorem dfd_mk {K : PySem.W.Frag} {mg : Str → Option Value} {h : Heap} {x : Str} {st : Stmt} {ds : List V} {its : List Value} {f T : Addr} {oT : Obj} {n : Nat} {oc : Value} {od an : Option Addr} {osl : Array (Option Value)} {kV doc pm cdv ct : Value} (X : K.In h) (G : h.Ns mainGlobals mg)
    (a : PySem.W.nsIn K mainGlobals x = some (some (.ref f))) (l : K.lookup f = some ⟨oc, od, .func (PySem.W.fnOf x x (defArgs st) (defBody st) (defScope st) (.ref T) kV doc pm an cdv ct), osl⟩) (c : PySem.W.codeIn K cdv x = true) (k : PySem.W.keepIn K (.ref f) = true)
    (t : K.lookup T = some oT) (d : oT.data = .seq its.toArray n) (v : Vals ds its) : DfD K mg x st ds := ⟨⟨f, T, oT, n, its, oc, od, kV, doc, pm, an, cdv, ct, osl, PySem.W.mg_of X G a, l, c, k, t, d, v⟩⟩
/-- hb: all arguments given; hd: those of the defaults left out -/
theorem DfD.fx {P : Program} {w : World} {K : PySem.W.Frag} {mg : Str → Option Value} {base : Heap} {x : Str} {st : Stmt} {ds : List V} {N ps : List Str} {k : Nat} {sp : Sp} (D : DfD K mg x st ds) (S : FnScope N ps (defScope st))
    (hb : ∀ (T : Addr) (kV doc pm : Value) (an : Option Addr) (cdv ct : Value) (us its : List Value) (oT : Obj) (n : Nat) (s : Shared), Vals ds its → us.length = ps.length → s.heap.get? T = some oT → oT.data = .seq its.toArray n →
      BindsTo s (PySem.W.fnOf x x (defArgs st) (defBody st) (defScope st) (.ref T) kV doc pm an cdv ct) ⟨us, []⟩ (ps.zip us))
    (hd : ∀ (T : Addr) (kV doc pm : Value) (an : Option Addr) (cdv ct : Value) (us its : List Value) (oT : Obj) (n : Nat) (s : Shared), Vals ds its → (us ++ its).length = ps.length → s.heap.get? T = some oT → oT.data = .seq its.toArray n →
      BindsTo s (PySem.W.fnOf x x (defArgs st) (defBody st) (defScope st) (.ref T) kV doc pm an cdv ct) ⟨us, []⟩ (ps.zip (us ++ its)))
    (len : ∀ vs H Q E, sp vs H Q E → vs.length = ps.length)
    (hbody : ∀ (f : Addr) (cdv : Value) (A : Around) (outer : List Env) (s : Shared) (H : Hp) (vs : List V) (Q : VK) (E : XK), Room k (A.deeper (envOfC x (defScope st) s.heap.objs.size f cdv)) → sp vs H Q E →
      ∃ t, PSs (cxOf (CXE P w) P w K mg base N x (defScope st) f cdv A outer s H E) (defBody st) t ∧ t { nx := fun _ H' => Q .non H', rt := Q } (start N vs) H) : Fx P w K mg base x ps (k + 1) ds sp := by
  obtain ⟨f, T, oT, n, its, oc, od, kV, doc, pm, an, cdv, ct, osl, hm, lk, hcd, hk, hT, hs, hv⟩ := D.ex
  refine ⟨⟨f, _, its, hm, hk, fun s us KX hl => ?_, fun s us KX hl => hd T kV doc pm an cdv ct us its oT n s hv hl (KX _ _ hT) hs, hv, fn_of lk hcd S len fun A outer s H vs Q E hr hsp => hbody f cdv A outer s H vs Q E hr hsp⟩⟩
  rw [List.append_nil] at hl ⊢
  exact hb T kV doc pm an cdv ct us its oT n s hv hl (KX _ _ hT) hs
theorem Df.fx {P : Program} {w : World} {K : PySem.W.Frag} {mg : Str → Option Value} {base : Heap} {x : Str} {st : Stmt} {N ps : List Str} {k : Nat} {sp : Sp} (D : Df K mg x st) (S : FnScope N ps (defScope st))
    (hbind : ∀ (kV doc pm : Value) (an : Option Addr) (cdv ct : Value) (us : List Value), us.length = ps.length → bindArgs (PySem.W.fnOf x x (defArgs st) (defBody st) (defScope st) .none kV doc pm an cdv ct) ⟨us, []⟩ = pure (ps.zip us))
    (len : ∀ vs H Q E, sp vs H Q E → vs.length = ps.length)
    (hbody : ∀ (f : Addr) (cdv : Value) (A : Around) (outer : List Env) (s : Shared) (H : Hp) (vs : List V) (Q : VK) (E : XK), Room k (A.deeper (envOfC x (defScope st) s.heap.objs.size f cdv)) → sp vs H Q E →
      ∃ t, PSs (cxOf (CXE P w) P w K mg base N x (defScope st) f cdv A outer s H E) (defBody st) t ∧ t { nx := fun _ H' => Q .non H', rt := Q } (start N vs) H) : Fx P w K mg base x ps (k + 1) [] sp := by
  obtain ⟨f, oc, od, kV, doc, pm, an, cdv, ct, osl, hm, lk, hcd, hk⟩ := D.ex
  have hb : Binds K (PySem.W.fnOf x x (defArgs st) (defBody st) (defScope st) .none kV doc pm an cdv ct) ps [] := .all (hbind kV doc pm an cdv ct)
  exact ⟨⟨f, _, [], hm, hk, hb, hb, .nil, fn_of lk hcd S len fun A outer s H vs Q E hr hsp => hbody f cdv A outer s H vs Q E hr hsp⟩⟩
/-- a def that may raise is called in one that may raise -/
theorem pe_fx {P : Program} {w : World} {K : PySem.W.Frag} {mg : Str → Option Value} {base : Heap} {N : List Str} {qual : Str} {scope : Scope} {f : Addr} {cdv : Value} {A : Around} {outer : List Env} {s₀ : Shared} {H₀ : Hp} {E : XK}
    {x : Str} {ps : List Str} {k : Nat} {ds : List V} {sp : Sp} {p pos : Pos} {e : Expr} {es : List Expr} {t : TA} (F : Fx P w K mg base x ps k ds sp) (hr : Room k (cxOf (CXE P w) P w K mg base N qual scope f cdv A outer s₀ H₀ E).A) (hg : Gl (cxOf (CXE P w) P w K mg base N qual scope f cdv A outer s₀ H₀ E) x)
    (ha : PA (cxOf (CXE P w) P w K mg base N qual scope f cdv A outer s₀ H₀ E) (e :: es) t)
    (hdb : (x == ("__debug__" : Str)) = false := by decide) (he : starEach (e :: es) (cxOf (CXE P w) P w K mg base N qual scope f cdv A outer s₀ H₀ E).env = (false, eval e (cxOf (CXE P w) P w K mg base N qual scope f cdv A outer s₀ H₀ E).env) :: starEach es (cxOf (CXE P w) P w K mg base N qual scope f cdv A outer s₀ H₀ E).env := by rfl)
    (hpl : (backTo pos (starEach es (cxOf (CXE P w) P w K mg base N qual scope f cdv A outer s₀ H₀ E).env)).any (·.1) = false := by rfl) :
    PE (cxOf (CXE P w) P w K mg base N qual scope f cdv A outer s₀ H₀ E) (.Call (.Name x p) (e :: es) [] pos) (tCall sp [] E t) := by
  obtain ⟨g, fd, its, hm, hk, hb, _, _, G⟩ := F.ex
  exact pe_call G hr hg hm hk hb .nil (pass_on fun _ _ _ z => z) ha hdb he hpl
/-- nothing is raised -/
theorem pass_none {P : Program} {w : World} {X : Cx} : Passes (CXE P w) X E0 := fun _ _ _ _ _ _ _ h => by
  obtain ⟨_, _, _, _, _, _, _, _, _, _, _, _, q⟩ := h
  exact q.elim
theorem pe_fx0 {X : Cx} {x : Str} {ps : List Str} {k : Nat} {ds : List V} {sp : Sp} {p pos : Pos} {e : Expr} {es : List Expr} {t : TA} (F : Fx X.prog X.w X.K X.mg X.base x ps k ds sp) (hr : Room k X.A) (hg : Gl X x) (ha : PA X (e :: es) t)
    (hdb : (x == ("__debug__" : Str)) = false := by decide) (he : starEach (e :: es) X.env = (false, eval e X.env) :: starEach es X.env := by rfl) (hpl : (backTo pos (starEach es X.env)).any (·.1) = false := by rfl) :
    PE X (.Call (.Name x p) (e :: es) [] pos) (tCall sp [] E0 t) := by
  obtain ⟨g, fd, its, hm, hk, hb, _, _, G⟩ := F.ex
  exact pe_call G hr hg hm hk hb .nil pass_none ha hdb he hpl
section
variable {X : Cx}
/-- the call itself -/
theorem run_fx {pins : List (Addr × Obj)} {s : Shared} {σ : St} {H : Hp} {Q : VK} {R : Value → St → Hp → Prop} {x : Str} {ps : List Str} {k : Nat} {ds : List V} {sp : Sp} {p pos : Pos} {e : Expr} {es : List Expr} {t : TA} (I : Inv X pins σ H s)
    (F : Fx X.prog X.w X.K X.mg X.base x ps k ds sp) (hr : Room k X.A) (hg : Gl X x) (ha : PA X.nox (e :: es) t) (q : t σ H fun vs H1 => sp vs H1 Q fun c _ H2 => R c σ H2)
    (hdb : (x == ("__debug__" : Str)) = false) (he : starEach (e :: es) X.env = (false, eval e X.env) :: starEach es X.env) (hpl : (backTo pos (starEach es X.env)).any (·.1) = false) :
    wpAny (model X.prog X.w) X.A (eval (.Call (.Name x p) (e :: es) [] pos) X.env) (EP X pins σ Q) (XP X pins R) s := by
  obtain ⟨f, fd, its, hm, hk, hb, _, _, G⟩ := F.ex
  refine wpAny_Call_Name_kw (ld_glob I hg hm ?_ hdb)
  refine PySem.W.callWith_K (h₀ := X.base) I.ok.mod.kin hk (wpAny_mono (ha pos pins s σ H _ (I.wish _) q) (fun us s1 ⟨vs, H1, J1, r, q1⟩ => ?_) fun _ _ z => False.elim z) he hpl
  have I1 : Inv X pins σ H1 s1 := J1.unwish
  refine ⟨I1.kIn, ?_⟩
  have hl : (us ++ []).length = ps.length := by rw [List.append_nil, ← r.length]; exact G.len _ _ _ _ q1
  have hbb := hb s1 us I1.kIn hl
  rw [List.append_nil] at hbb
  refine wpAny_call (codeAny_mono (G.run X.A X.stack s1 H1 ⟨us, []⟩ us vs Q _ hr I1.env0 hbb r q1) fun rr s' hq => ?_)
  cases rr with
  | error ev => exact ⟨s1, σ, H1, (fun c _ H2 => R c σ H2), I1, hq, fun c o H' z => z⟩
  | ok flw =>
    cases flw with
    | ret u => exact I1.after hq
    | next => exact False.elim hq
    | brk => exact False.elim hq
    | cont => exact False.elim hq
variable {x fn : Str} {i : Nat} {ps : List Str} {k : Nat} {ds : List V} {sp : Sp} {e : Expr} {es : List Expr} {ta : TA} {px pf cpos pos : Pos}
/-- f(..) -/
theorem px_expr (F : Fx X.prog X.w X.K X.mg X.base fn ps k ds sp) (hr : Room k X.A) (hg : Gl X fn) (ha : PA X.nox (e :: es) ta) (hs : swapsWith (.Call (.Name fn pf) (e :: es) [] cpos) none pos.line X.env = pure false := by rfl)
    (hdb : (fn == ("__debug__" : Str)) = false := by decide) (he : starEach (e :: es) X.env = (false, eval e X.env) :: starEach es X.env := by rfl) (hpl : (backTo cpos (starEach es X.env)).any (·.1) = false := by rfl) :
    PX X (.Expr (.Call (.Name fn pf) (e :: es) [] cpos) pos) (fun R D σ H => ta σ H fun vs H1 => sp vs H1 (fun _ H2 => D.nx σ H2) fun c _ H2 => R c σ H2) := by
  intro pins s σ H D R I h
  exact wpAny_Expr_any (thn (run_fx I F hr hg ha h hdb he hpl) fun v s1 ⟨y, H1, I1, r1, q1⟩ => ⟨σ, H1, I1, q1⟩) I.quiet hs
theorem pxs_one {st : Stmt} {t : TX} (h1 : PX X st t) : PXs X [st] t := by
  intro pins s σ H D R I h
  refine wpAny_execs_cons (thn (h1 pins s σ H D R I h) fun f s1 q => ?_)
  cases f with
  | next => exact wpAny_execs_nil q
  | ret v => exact q
  | brk => exact q
  | cont => exact q
/-- try with one clause that names an own class -/
theorem ps_try {n : Str} {C : Addr} {np hpos : Pos} {body : List Stmt} {b₀ : Stmt} {suite : List Stmt} {tx : TX} {th : TS} (stk : X.stack = X.env :: X.outer) (hfr : X.env.frame = some X.env.locals) (hb : PXs X body tx) (O : ExcC X.K X.mg n C) (hg : Gl X n)
    (hh : ∀ e : Addr, PSs (X.inH e) (b₀ :: suite) th) (hdb : (n == ("__debug__" : Str)) = false := by decide) :
    PS X (.Try body [.ExceptHandler (some (.Name n np)) none (b₀ :: suite) hpos] [] [] pos) (fun D σ H => tx (fun c σ' H' => c = .ref C ∧ th D σ' H') D σ H) := by
  intro pins s σ H D I h
  refine wpAny_Try_except (wpAny_mono (hb pins s σ H D _ I h) (fun f s1 q => ?_) fun ev s1 q => ?_)
  · cases f with
    | next => exact wpAny_execs_nil q
    | ret v => exact q
    | brk => exact q
    | cont => exact q
  · obtain ⟨s₁, σ₁, H₁, E1, I1, hx, hE⟩ := q
    exact caught I1 stk hfr O hg hx (fun c o H' z => hE c o H' z) hh hdb
end
end L2
/-! PLACES: what the defs about places keep -/
namespace Sp2
open PySem PySem.Spec L2 Mth Sp1
def placeL (n : Int) : List V → Bool
  | [.int a, .int b] => lowB a b && (decide (0 ≤ a) && decide (a ≤ n * b))
  | _ => false
def placeV (n : Int) (H : Hp) : V → Bool
  | .ref p => match H p with
    | some (.tup xs) => placeL n xs
    | _ => false
  | _ => false
theorem lowV_inv {H : Hp} {x : V} (h : lowV H x = true) : ∃ p a b, x = .ref p ∧ H p = some (.tup [.int a, .int b]) ∧ Low a b := by
  unfold lowV at h
  split at h
  · split at h
    · rename_i p _ xs e
      unfold lowL at h
      split at h
      · rename_i a b
        unfold lowB at h
        rw [Bool.and_eq_true, decide_eq_true_eq, decide_eq_true_eq] at h
        exact ⟨p, a, b, rfl, e, h.1, h.2⟩
      · cases h
    · cases h
  · cases h
theorem placeV_tup {n : Int} {H : Hp} {p : Addr} {a b : Int} (e : H p = some (.tup [.int a, .int b])) : placeV n H (.ref p) = (lowB a b && (decide (0 ≤ a) && decide (a ≤ n * b))) := by
  simp only [placeV, e, placeL]
theorem lowV_two {H : Hp} {p : Addr} {a b : Int} (e : H p = some (.tup [.int a, .int b])) : lowV H (.ref p) = lowB a b := by
  simp only [lowV, e, lowL]
theorem placeV_low {n : Int} {H : Hp} {x : V} (h : lowV H x = false) : placeV n H x = false := by
  unfold placeV
  split
  · split
    · rename_i p _ xs e
      unfold placeL
      split
      · rename_i a b
        rw [lowV_two e] at h
        rw [h, Bool.false_and]
      · rfl
    · rfl
  · rfl
theorem low_B {a b : Int} (h : Low a b) : lowB a b = true := by
  unfold lowB
  rw [decide_eq_true h.pos, decide_eq_true h.one]
  rfl
theorem placeV_of {n : Int} {H : Hp} {p : Addr} {a b : Int} (e : H p = some (.tup [.int a, .int b])) (h : Low a b) (h0 : 0 ≤ a) (h1 : a ≤ n * b) : placeV n H (.ref p) = true := by
  rw [placeV_tup e, low_B h, decide_eq_true h0, decide_eq_true h1]
  rfl
theorem placeV_inv {n : Int} {H : Hp} {x : V} (h : placeV n H x = true) : ∃ p a b, x = .ref p ∧ H p = some (.tup [.int a, .int b]) ∧ Low a b ∧ 0 ≤ a ∧ a ≤ n * b := by
  cases hl : lowV H x with
  | false =>
    rw [placeV_low hl] at h
    cases h
  | true =>
    obtain ⟨p, a, b, rfl, e, lw⟩ := lowV_inv hl
    rw [placeV_tup e, low_B lw, Bool.true_and, Bool.and_eq_true, decide_eq_true_eq, decide_eq_true_eq] at h
    exact ⟨p, a, b, rfl, e, lw, h.1, h.2⟩
def spLast : Sp := fun vs H Q _ => ∃ (p : Addr) (xs : List V), vs = [.ref p] ∧ H p = some (.lst xs) ∧ Q (.int ((xs.length : Int) - 1)) H
def spIsPlace : Sp := fun vs H Q _ => ∃ (p : Addr) (xs : List V) (x : V), vs = [.ref p, x] ∧ H p = some (.lst xs) ∧ xs.length ≤ 100 ∧ Thing H x ∧ Q (.bl (placeV ((xs.length : Int) - 1) H x)) H
def spLook (C : Addr) : Sp := fun vs H Q E => ∃ (p : Addr) (xs : List V) (x : V), vs = [.ref p, x] ∧ H p = some (.lst xs) ∧ xs.length ≤ 100 ∧ Thing H x ∧ (placeV ((xs.length : Int) - 1) H x = false → E (.ref C) none H) ∧ (placeV ((xs.length : Int) - 1) H x = true → Q .non H)
/-- a line in the heap -/
structure LineAt (H : Hp) (l : Addr) (qs : List (Addr × Int × Int)) : Prop where
  lst : H l = some (.lst (qs.map fun q => V.ref q.1))
  crn : ∀ q ∈ qs, H q.1 = some (.tup [.int q.2.1, .int q.2.2]) ∧ bits q.2.1 ≤ 50 ∧ bits q.2.2 ≤ 50
theorem LineAt.mono {H H' : Hp} {l : Addr} {qs : List (Addr × Int × Int)} (L : LineAt H l qs) (s : Same H H') : LineAt H' l qs := ⟨s _ _ L.lst, fun q h => ⟨s _ _ (L.crn q h).1, (L.crn q h).2⟩⟩
def spLine : Sp := fun vs H Q _ => ∃ (pn : Addr) (ns : List Int) (m : Nat), vs = [.ref pn, .int (m : Int)] ∧ H pn = some (.lst (ns.map V.int)) ∧ 1 ≤ m ∧ m ≤ 10 ∧ 4 + 2 * m ≤ ns.length ∧
  ∀ (l : Addr) (qs : List (Addr × Int × Int)) (H' : Hp), LineAt H' l qs → 1 ≤ qs.length → qs.length ≤ m → Same H H' → Q (.ref l) H'
def spPlaceL : Sp := fun vs H Q _ => ∃ (p : Addr) (xs : List V) (v n : Int), vs = [.ref p, .int v, .int n] ∧ H p = some (.lst xs) ∧ 1 ≤ xs.length ∧ xs.length ≤ 20 ∧ 0 ≤ n ∧
  ∀ (q : Addr) (t b : Int) (H' : Hp), Low t b → 0 ≤ t → t ≤ ((xs.length : Int) - 1) * b → bits t ≤ 100 → bits b ≤ 60 → Same H H' → H' q = some (.tup [.int t, .int b]) → Q (.ref q) H'
/-! ### small helps -/
theorem lt64s {n : Int} (h0 : -1000 ≤ n) (h1 : n ≤ 1000) : -(2 ^ 64) < n ∧ n < 2 ^ 64 := by
  have e : (2 : Int) ^ 64 = 18446744073709551616 := by decide
  rw [e]
  omega
theorem at_int {ns : List Int} {k : Int} (j : Nat) (e : k = (j : Int)) (h : j < ns.length) : atI (ns.map V.int) k = some (.int ns[j]) := by
  subst e
  exact atI_nat (by rw [List.getElem?_map, List.getElem?_eq_getElem h]; rfl)
theorem cut_from {ns : List Int} (k : Nat) : cutV (ns.map V.int) (some (k : Int)) none = (ns.drop k).map V.int := by
  unfold cutV
  rw [HT.sIx_nat, HT.sIx_none, List.length_map, ← List.map_drop]
  by_cases h : k ≤ ns.length
  · rw [Nat.min_eq_left h, List.take_of_length_le (by rw [List.length_map, List.length_drop]; exact Nat.le_refl _)]
  · rw [Nat.min_eq_right (by omega), List.drop_eq_nil_of_le (Nat.le_refl _), List.drop_eq_nil_of_le (by omega)]
    simp
theorem bits_small {n : Int} (h0 : -1000 ≤ n) (h1 : n ≤ 1000) : bits n ≤ 10 := by
  refine bits_of (n := 10) ?_
  show _ < 1024
  omega
/-! ### the mathematics -/
theorem fl_ge {a b k : Int} (hb : 0 < b) (h : k * b ≤ a) : k ≤ a / b := (Int.le_ediv_iff_mul_le hb).mpr h
theorem fl_nn {a b : Int} (hb : 0 < b) (h : 0 ≤ a) : 0 ≤ a / b := Int.ediv_nonneg h (by omega)
end Sp2
namespace L2
open PySem PySem.Spec PyProof.Rows
end L2
/-! COMPREHENSIONS of one clause without a test, over the hand layer -/
namespace L2
open PySem PySem.Spec PyProof.Rows
/-- the context of a comprehension's block -/
abbrev Cx.blk (X : Cx) (N' : List Str) (scope : Scope) (cl : List (Str × Addr)) (fp : List Addr) (s₀ : Shared) (H₀ : Hp) : Cx :=
  { X with N := N', s₀ := s₀, H₀ := H₀, env := compEnvC scope cl s₀.heap.objs.size X.env, outer := X.stack, ex := fp, fn := fun _ => false, pn := [], xe := fun _ _ => False }
theorem lookup_mem {α : Type} {y : Str} {c : α} : ∀ {l : List (Str × α)}, l.lookup y = some c → (y, c) ∈ l
  | [], h => by simp at h
  | (n, d) :: r, h => by
    rw [List.lookup_cons] at h
    cases e : y == n with
    | true =>
      rw [e] at h
      cases h
      rw [beq_iff_eq.mp e]
      exact List.mem_cons_self
    | false =>
      rw [e] at h
      exact List.mem_cons_of_mem _ (lookup_mem h)
/-- what is asked of the names: x the clause's own name; fv the free ones with their slots -/
structure CompN (X : Cx) (scope : Scope) (cl : List (Str × Addr)) (x : Str) (fv : List (Str × Nat)) : Prop where
  clos : closureFor scope X.env = pure cl
  kind : scope.kind = .function
  cell : ∀ y ∈ scope.names, y.2 ≠ .cell
  names : ∀ y ∈ scope.names, y.2 = .local → scope.names.lookup y.1 = some .local
  own : scope.names.lookup x = some .local
  cells : ∀ p ∈ cl, X.env.cells.lookup p.1 = some p.2
  has : ((relabel scope X.env).names.all fun q => !(q.2 == .cell || q.2 == .free) || (cl.lookup q.1).isSome) = true
  nd : (x :: fv.map (·.1)).Nodup
  slot : ∀ p ∈ fv, X.N[p.2]? = some p.1 ∧ X.env.kindOf p.1 = some .cell ∧ Vis X.env.scope p.1 ∧ (cl.lookup p.1).isSome = true ∧ ((relabel scope X.env).names.lookup p.1 = some .cell)
  stk : X.stack = X.env :: X.outer ∧ X.env.frame = some X.env.locals
  noex : X.ex = []
def fvs (fv : List (Str × Nat)) (σ : St) : St := fv.map fun p => (σ[p.2]?).join
/-- the reading of a comprehension: W the invariant by the turn, a measure, what the list holds -/
def tComp (wi : TI) (fv : List (Str × Nat)) (te : TE) : TE := fun σ H Q => wi σ H fun J H1 => ∀ p, H1 p = none → ∃ W : Nat → Nat → List V → Hp → Prop, (∃ m, W 0 m [] (upd H1 p (.lst []))) ∧ ∀ i m acc H2, W i m acc H2 →
  H2 p = some (.lst acc) ∧ acc.length < sizeLine ∧ ((J.stop i H2 ∧ Q (.ref p) H2) ∨ (J.go i H2 ∧ ∀ x H3, J.yld i H2 x H3 → te (some x :: fvs fv σ) H3 fun y H4 => H4 p = some (.lst acc) ∧ ∃ m', m' < m ∧ W (i + 1) m' (acc ++ [y]) (upd H4 p (.lst (acc ++ [y])))))
section
variable {X : Cx} {scope : Scope} {cl : List (Str × Addr)} {x : Str} {fv : List (Str × Nat)} {elt iter : Expr} {px pos : Pos} {te : TE}
theorem blk_ok {pins : List (Addr × Obj)} {σ : St} {H : Hp} {s : Shared} {fp : List Addr} (C : CompN X scope cl x fv) (I : Inv X pins σ H s) (hf : ∀ b ∈ fp, FpOk X pins H b) (ho : ∀ b ∈ fp, b < s.heap.objs.size) : (X.blk (x :: fv.map (·.1)) scope cl fp s H).Ok := by
  have hcl : ∀ y c, cl.lookup y = some c → X.env.cells.lookup y = some c := fun y c h => C.cells _ (lookup_mem h)
  have old : ∀ b ∈ fp, X.s₀.heap.objs.size ≤ b := fun b hb => by
    rcases (hf b hb).2.2.2.1 with z | z
    · rw [C.noex] at z
      cases z
    · exact z
  refine ⟨I.ok.mod, by show (relabel scope X.env).kind = _; exact C.kind, I.ok.glob, I.ok.blt, Nat.le_refl _, fun y z c h1 h2 => I.ok.inj y z c (hcl y c h1) (hcl z c h2), fun y hy => ?_, (fun y c h => by cases h), I.ok.hd, I.ok.frames, .inl rfl, fun b hb => ?_, fun b o e => I.bs b o e, Nat.le_trans I.ok.bsz I.sz, fun b o e hb => ?_, fun b hb hm => ?_, I.stack, I.stkFree⟩
  · have q := C.has
    rw [List.all_eq_true] at q
    have hm : ∃ k, (y, k) ∈ (relabel scope X.env).names ∧ (k = .cell ∨ k = .free) := by
      rcases hy with hy | hy
      · exact ⟨_, lookup_mem hy, .inl rfl⟩
      · exact ⟨_, lookup_mem hy, .inr rfl⟩
    obtain ⟨k, hk, hk2⟩ := hm
    have q2 := q _ hk
    have q3 : (cl.lookup y).isSome = true := by
      rcases hk2 with rfl | rfl
      · simpa using q2
      · simpa using q2
    exact Option.isSome_iff_exists.mp q3
  · obtain ⟨f0, f1, f2, f3, f4, f5⟩ := hf b hb
    refine ⟨?_, fun y c h => f4 y c (hcl y c h)⟩
    exact Nat.ne_of_lt (ho b hb)
  · have z := Heap.lt_size e
    have z2 := old b hb
    exact absurd (Nat.lt_of_lt_of_le z (Nat.le_trans I.ok.bsz z2)) (Nat.lt_irrefl _)
  · obtain ⟨f0, f1, f2, f3, f4, f5⟩ := hf b hb
    rcases List.mem_cons.mp (I.stkSub b hm) with z | z
    · exact f1 z
    · exact f2 z
/-- the block begins -/
theorem blk_inv {pins : List (Addr × Obj)} {σ : St} {H : Hp} {s s4 : Shared} {fp : List Addr} (C : CompN X scope cl x fv) (I : Inv X pins σ H s) (hf : ∀ b ∈ fp, FpOk X pins H b) (ho : ∀ b ∈ fp, b < s.heap.objs.size)
    (hs : s4.os = s.os ∧ s4.gens = s.gens) (ns : s4.heap.Ns s.heap.objs.size fun _ => none) (kp : ∀ b o, s.heap.get? b = some o → s4.heap.get? b = some o) :
    Inv (X.blk (x :: fv.map (·.1)) scope cl fp s H) [] (none :: fvs fv σ) H s4 := by
  have hcl : ∀ y c, cl.lookup y = some c → X.env.cells.lookup y = some c := fun y c h => C.cells _ (lookup_mem h)
  refine ⟨blk_ok C I hf ho, hs.1, by rw [hs.2]; exact I.bare, Un.kept kp, ⟨_, ns, fun i y v e1 e2 e3 => ?_⟩, fun y c h => ?_, I.hok.fresh (Nat.le_refl _), fun y c h => I.freeC y c (hcl y c h), fun p hp => by simp at hp, I.hok.kept kp, by simp [fvs]⟩
  · cases i with
    | zero => simp at e2
    | succ j =>
      have e1' : (fv.map (·.1))[j]? = some y := by simpa using e1
      have e2' : (fvs fv σ)[j]? = some (some v) := by simpa using e2
      rw [List.getElem?_map] at e1'
      unfold fvs at e2'
      rw [List.getElem?_map] at e2'
      cases hq : fv[j]? with
      | none =>
        rw [hq] at e1'
        cases e1'
      | some q =>
        rw [hq] at e1' e2'
        have ey : q.1 = y := Option.some.inj e1'
        have ev : (σ[q.2]?).join = some v := Option.some.inj e2'
        have hm : q ∈ fv := List.mem_of_getElem? hq
        obtain ⟨s1, s2, s3, s4', s5⟩ := C.slot q hm
        have ev2 : σ[q.2]? = some (some v) := by
          cases hz : σ[q.2]? with
          | none =>
            rw [hz] at ev
            cases ev
          | some z =>
            rw [hz] at ev
            have ev' : z = some v := ev
            rw [ev']
        obtain ⟨m, hn, hl⟩ := I.loc
        obtain ⟨u, r, lk⟩ := hl q.2 q.1 v s1 ev2 s3
        obtain ⟨c, hc⟩ := Option.isSome_iff_exists.mp s4'
        refine ⟨u, r, .inr ⟨.inl (by rw [← ey]; exact s5), c, by rw [← ey]; exact hc, ?_⟩⟩
        rcases lk with ⟨k, _⟩ | ⟨_, c', hc', z⟩
        · rw [s2] at k
          cases k
        · rw [hcl _ _ hc] at hc'
          cases hc'
          obtain ⟨o, ho', hd⟩ := z
          exact ⟨o, kp _ _ ho', hd⟩
  · obtain ⟨v, o, ho', hd⟩ := I.cell y c (hcl y c h)
    exact ⟨v, o, kp _ _ ho', hd⟩
/-- the block, to its end -/
theorem blk_run {pins : List (Addr × Obj)} {σ : St} {H2 : Hp} {s2 : Shared} {it : Addr} {fp : List Addr} {tn : Nat → Heap → Prop} {J : It} {RR : Value → Addr → Result → Shared → Prop} {E : Value → Shared → Prop} {Qf : V → Hp → Prop}
    (hcalm : X.calm = true) (C : CompN X scope cl x fv) (I2 : Inv X pins σ H2 s2) (T : Turn X.prog X.w X.K (.Name x px) J fp it tn) (st : tn 0 s2.heap) (f2 : ∀ b ∈ fp, FpOk X pins H2 b)
    (rd : ∀ p, H2 p = none → ∃ W : Nat → Nat → List V → Hp → Prop, (∃ m, W 0 m [] (upd H2 p (.lst []))) ∧ ∀ i m acc H2, W i m acc H2 →
      H2 p = some (.lst acc) ∧ acc.length < sizeLine ∧ ((J.stop i H2 ∧ Qf (.ref p) H2) ∨ (J.go i H2 ∧ ∀ x H3, J.yld i H2 x H3 → te (some x :: fvs fv σ) H3 fun y H4 => H4 p = some (.lst acc) ∧ ∃ m', m' < m ∧ W (i + 1) m' (acc ++ [y]) (upd H4 p (.lst (acc ++ [y]))))))
    (he : ∀ (s₀ : Shared) (H₀ : Hp), PE (X.blk (x :: fv.map (·.1)) scope cl fp s₀ H₀) elt te)
    (hRR : ∀ (p C : Addr) (H' : Hp) (s' : Shared), (∃ m, s'.heap.Ns C m) → C ≠ X.env.locals → H' C = none → X.s₀.heap.objs.size ≤ C → (∀ y c, X.env.cells.lookup y = some c → c ≠ C) → (∀ q ∈ X.pn ++ pins, q.1 ≠ C) → Inv X pins σ H' s' → Qf (.ref p) H' → RR (.ref p) C (.ok .next) s') :
    wpAny (model X.prog X.w) X.A (newList []) (fun acc s₃ => wpAny (model X.prog X.w) X.A (newFunctionEnv scope X.env.globals cl [] X.env.qual none .none (some X.env)) (fun cenv s₄ =>
      codeAny (model X.prog X.w) X.A (.compStart (.ListComp elt [⟨.Name x px, iter, [], 0⟩] scope pos) 0 (.ref it) acc { cenv with scope := relabel scope X.env }) (RR acc cenv.locals) s₄) E s₃) E s2 := by
  refine wpAny_newObj_type ?_
  -- the new list
  have hfresh := I2.fresh
  have I3 : Inv X pins σ (upd H2 s2.heap.objs.size (.lst [])) { s2 with heap := s2.heap.push { cls := .type "list", data := .seq ([] : List Value).toArray } } :=
    I2.laid (t' := s2.toks) (fun b u q => Heap.get?_push_of_some _ q) (Nat.le_refl _) ⟨Nat.zero_le _, [], 0, .nil, Heap.get?_push_size _ rfl⟩
  generalize hs3 : ({ s2 with heap := s2.heap.push { cls := .type "list", data := .seq ([] : List Value).toArray } } : Shared) = s3 at I3 ⊢
  have hp3 : s2.heap.objs.size < s3.heap.objs.size := by rw [← hs3]; exact Nat.lt_of_lt_of_le (Nat.lt_succ_self _) (Nat.le_of_eq (Heap.size_push _ _).symm)
  have k23 : ∀ b o, s2.heap.get? b = some o → s3.heap.get? b = some o := fun b o e => by rw [← hs3]; exact Heap.get?_push_of_some _ e
  have fpo : ∀ b ∈ fp, b < s2.heap.objs.size := fun b hb => by
    obtain ⟨o, e, _⟩ := T.obj 0 _ st b hb
    exact Heap.lt_size e
  have f3 : ∀ b ∈ fp, FpOk X pins (upd H2 s2.heap.objs.size (.lst [])) b := fun b hb => ⟨by rw [upd_ne (Nat.ne_of_lt (fpo b hb))]; exact (f2 b hb).1, (f2 b hb).2⟩
  refine wpAny_newFunctionEnv C.cell (by intro y hy; simp at hy) (fun h1 hns1 hsb1 => ?_) C.kind
  have kp : ∀ b o, s3.heap.get? b = some o → h1.get? b = some o := fun b o e => (hsb1.2 b (Nat.ne_of_lt (Heap.lt_size e))).trans (Heap.get?_push_of_some _ e)
  have I4 := blk_inv (s4 := { s3 with heap := h1, toks := s3.toks + ([] : List (Str × Value)).length }) C I3 f3 (fun b hb => Nat.lt_trans (fpo b hb) hp3) ⟨rfl, rfl⟩ hns1 kp
  have st4 : tn 0 h1 := T.keep 0 _ _ st fun b _ o e => kp b o (k23 b o e)
  obtain ⟨W, ⟨m0, w0⟩, step⟩ := rd _ hfresh
  have loop : codeAny (model X.prog X.w) X.A (.compLoop (.ListComp elt [⟨.Name x px, iter, [], 0⟩] scope pos) 0 (.ref it) (.ref s2.heap.objs.size) (compEnvC scope cl s3.heap.objs.size X.env)) (RR (.ref s2.heap.objs.size) s3.heap.objs.size)
      { s3 with heap := h1, toks := s3.toks + ([] : List (Str × Value)).length } := by
    refine codeAny_compLoop_list (fun n s => ∃ i acc σv H', Inv (X.blk (x :: fv.map (·.1)) scope cl fp s3 (upd H2 s2.heap.objs.size (.lst []))) [] (σv :: fvs fv σ) H' s ∧ tn i s.heap ∧ (∀ b ∈ fp, H' b = none) ∧ W i n acc H') ?_ m0 ⟨0, [], none, _, I4, st4, fun b hb => (f3 b hb).1, w0⟩
    rintro n s ⟨i, acc, σv, H', I', st', fr', w'⟩
    obtain ⟨hp, hlen, alt⟩ := step i n acc H' w'
    have fpk : ∀ {H5 : Hp}, (∀ b ∈ fp, H5 b = none) → ∀ b ∈ fp, FpOk (X.blk (x :: fv.map (·.1)) scope cl fp s3 (upd H2 s2.heap.objs.size (.lst []))) [] H5 b := fun h5 b hb =>
      ⟨h5 b hb, (I'.ok.exf b hb).1, I'.ok.exfs b hb, .inl hb, fun y c e => (I'.ok.exf b hb).2 y c e, fun q hq => by simp at hq⟩
    rcases alt with ⟨stop, qf⟩ | ⟨go, turn⟩
    · refine wpAny_mono (T.done (X.blk (x :: fv.map (·.1)) scope cl fp s3 (upd H2 s2.heap.objs.size (.lst []))) rfl rfl rfl hcalm i [] s _ H' (fun _ _ => False) I' (fpk fr') st' stop) (fun r s5 ⟨hr, I5⟩ => ?_) fun _ _ z => False.elim z
      subst hr
      refine hRR _ _ H' s5 (let ⟨m, hn, _⟩ := I5.loc; ⟨m, hn⟩) (Nat.ne_of_gt I3.lt) I5.free I3.sz (fun y c e => ?_) (fun q hq => ?_) ?_ qf
      · obtain ⟨v, z⟩ := I3.cell y c e
        exact Nat.ne_of_lt z.lt
      · exact Nat.ne_of_lt (Heap.lt_size (I3.pin q hq).1)
      · exact I3.call' (s' := s5) (ch := fp) I5.os I5.base I5.hok I5.bare fun b hb => ⟨(f2 b hb).2.2.2.1, (f2 b hb).2.1, (f2 b hb).2.2.2.2.1, (f2 b hb).2.2.2.2.2⟩
    · refine wpAny_mono (T.item (X.blk (x :: fv.map (·.1)) scope cl fp s3 (upd H2 s2.heap.objs.size (.lst []))) rfl rfl rfl hcalm i [] s _ H' (fun _ _ => False) I' (fpk fr') st' go) (fun r s5 ⟨u, hr, h5⟩ => ?_) fun _ _ z => False.elim z
      subst hr
      have e5 : assign (.Name x px) (compEnvC scope cl s3.heap.objs.size X.env) u = (letOwnedTupleGo (.Name x px) (.ref it) u >>= fun _ => assign (.Name x px) (compEnvC scope cl s3.heap.objs.size X.env) u) := by
        rw [show letOwnedTupleGo (.Name x px) (.ref it) u = pure () from rfl]
        rfl
      show wpAny _ _ (assign (.Name x px) (compEnvC scope cl s3.heap.objs.size X.env) u) _ _ _
      rw [e5]
      refine wpAny_bind (wpAny_mono h5 (fun _ s6 ⟨y, H6, I6, r6, y6, st6, fr6⟩ => ?_) fun _ _ z => False.elim z)
      have I6' := I6.pinned (fpk fr6) (T.obj _ _ st6)
      have lx : (relabel scope X.env).names.lookup x = some .local := lookup_relabel_local C.own
      refine wpAny_mono (pg_name (X := X.blk (x :: fv.map (·.1)) scope cl fp s3 (upd H2 s2.heap.objs.size (.lst []))) (i := 0) C.nd rfl (.inl lx) (.inr lx) _ s6 _ H6 y u (fun σ7 H7 => σ7 = some y :: fvs fv σ ∧ H7 = H6) I6' r6 ⟨rfl, rfl⟩) (fun _ s7 ⟨σ7, H7, I7, e7, e7'⟩ => ?_) fun _ _ z => False.elim z
      subst e7 e7'
      refine wpAny_mono (he s3 _ _ s7 _ _ _ I7 (turn y _ y6)) (fun v8 s8 ⟨y8, H8, I8, r8, q8, m', hm', w8⟩ => ?_) fun _ _ z => False.elim z
      refine wpAny_mono (mt_append (X := X.blk (x :: fv.map (·.1)) scope cl fp s3 (upd H2 s2.heap.objs.size (.lst []))) _ s8 _ H8 (.ref s2.heap.objs.size) [y8] (.ref s2.heap.objs.size) [v8] (fun _ H9 => H9 = upd H8 s2.heap.objs.size (.lst (acc ++ [y8]))) I8 rfl (.cons r8 .nil) ⟨_, acc, y8, rfl, rfl, q8, hlen, rfl⟩) (fun _ s9 ⟨_, H9, I9, _, e9⟩ => ?_) fun _ _ z => False.elim z
      subst e9
      refine ⟨m', hm', i + 1, acc ++ [y8], some y, _, I9.unpinned, T.keep _ _ _ st6 fun b hb o e => (I9.pin (b, o) (List.mem_append_right _ (List.mem_append_right _ (mem_pinsAt hb e)))).1, fun b hb => ?_, w8⟩
      obtain ⟨o, e, d⟩ := T.obj _ _ st6 b hb
      exact (I9.pin (b, o) (List.mem_append_right _ (List.mem_append_right _ (mem_pinsAt hb e)))).2.1
  exact codeAny_compStart_list loop (T.self _ 0 _ _ _ st4 loop)
/-- y = [elt for x in iter] -/
theorem ps_setComp {wi : TI} {y : Str} {j : Nat} {py spos : Pos} (hcalm : X.calm = true) (C : CompN X scope cl x fv) (hN : X.N.Nodup) (hj : X.N[j]? = some y) (hy : X.env.scope.names.lookup y = some .local) (hi : PI X (.Name x px) iter wi) (he : ∀ (fp : List Addr) (s₀ : Shared) (H₀ : Hp), PE (X.blk (x :: fv.map (·.1)) scope cl fp s₀ H₀) elt te)
    (hsw : swapsWith (.ListComp elt [⟨.Name x px, iter, [], 0⟩] scope pos) (some (.Name y py)) spos.line X.env = pure true := by rfl)
    (hs : ∀ v, foldedSetIterable iter X.env v = pure v := by intro _; rfl) : PS X (.Assign [.Name y py] (.ListComp elt [⟨.Name x px, iter, [], 0⟩] scope pos) spos) (tAsg (tComp wi fv te) (gName j)) := by
  intro pins s σ H D I h
  rw [exec_Assign_Name_used _ _ _ _ hsw]
  refine wpAny_bind (wpAny_standAt (wpAny_bind ?_))
  show wpAny _ _ (do let _ ← comprehension (.ListComp elt [⟨.Name x px, iter, [], 0⟩] scope pos) scope X.env _ (newList []) false (eval iter X.env) (some (assign (.Name y py) X.env))) _ _ s
  refine wpAny_bind (wpAny_mono (wpAny_comprehension_free (use := some (assign (.Name y py) X.env)) (Q := fun _ s' => SP X pins D .next s') rfl hs C.clos C.kind C.names
    (wpAny_mono (hi pins s σ H _ I h) (fun v s1 h1 => wpAny_mono h1 (fun itv s2 h2 => ?_) fun _ _ z => z) fun _ _ z => z)) (fun _ s' hq => wpAny_pure (wpAny_pure hq)) fun _ _ z => z)
  obtain ⟨it, fp, tn, J, H2, rfl, I2, T, st2, f2, rd⟩ := h2
  refine blk_run (Qf := fun v H' => gName j v σ H' D.nx) hcalm C I2 T st2 f2 rd (he fp) fun p D' H' s' ns nL nH n0 nC nP I8 q => ?_
  obtain ⟨m, hn⟩ := ns
  show wpAny _ _ (assign (.Name y py) X.env (.ref p)) _ _ _
  refine wpAny_assign_Name (store_ok2 I8 hN hj (.inl hy) (v := .ref p) rfl (fun s9 I9 ⟨a, sb, ha⟩ => ?_) (.inr hy))
  have aD : D' ≠ a := by
    rintro rfl
    rcases ha with z | z
    · exact nL z
    · exact nC y _ z rfl
  exact ⟨m, hn.sameBut sb aD, fun h'' sb2 => ⟨_, H', I9.turned (t' := s9.toks) (fun b o hb e => (sb2.2 b hb).trans e) nH nL (.inr n0) nC nP, q⟩⟩
end
end L2
namespace L2
open PySem PySem.Spec PyProof.Rows
theorem comp_range {n : Nat} {lo : Int} {fv : List (Str × Nat)} {te : TE} {σ : St} {H1 : Hp} {Qp : Hp → Prop} {l : Addr} (Pv : Nat → List V → Hp → Prop) (h0 : Pv 0 [] (upd H1 l (.lst []))) (hp : ∀ i acc H2, i ≤ n → Pv i acc H2 → H2 l = some (.lst acc) ∧ acc.length < sizeLine)
    (hs : ∀ i acc H2 (K : VK), i < n → Pv i acc H2 → (∀ y H4, H4 l = some (.lst acc) → Pv (i + 1) (acc ++ [y]) (upd H4 l (.lst (acc ++ [y]))) → K y H4) → te (some (.int (lo + i)) :: fvs fv σ) H2 K) (hd : ∀ acc H2, Pv n acc H2 → Qp H2) :
    ∃ W : Nat → Nat → List V → Hp → Prop, (∃ m, W 0 m [] (upd H1 l (.lst []))) ∧ ∀ i m acc H2, W i m acc H2 →
      H2 l = some (.lst acc) ∧ acc.length < sizeLine ∧ (((Itr lo n).stop i H2 ∧ Qp H2) ∨ ((Itr lo n).go i H2 ∧ ∀ x H3, (Itr lo n).yld i H2 x H3 → te (some x :: fvs fv σ) H3 fun y H4 => H4 l = some (.lst acc) ∧ ∃ m', m' < m ∧ W (i + 1) m' (acc ++ [y]) (upd H4 l (.lst (acc ++ [y]))))) := by
  refine ⟨fun i m acc H2 => m = n - i ∧ i ≤ n ∧ Pv i acc H2, ⟨n, by simp, Nat.zero_le _, h0⟩, ?_⟩
  rintro i m acc H2 ⟨rfl, hi, p⟩
  refine ⟨(hp i acc H2 hi p).1, (hp i acc H2 hi p).2, ?_⟩
  by_cases hlt : i < n
  · refine .inr ⟨hlt, fun x H3 y => ?_⟩
    obtain ⟨e1, e2⟩ := y
    subst e1 e2
    exact hs i acc _ _ hlt p fun y H4 z1 z2 => ⟨z1, n - (i + 1), by omega, rfl, hlt, z2⟩
  · have e : i = n := by omega
    subst e
    exact .inl ⟨Nat.le_refl _, hd acc H2 p⟩
/-- the scope of a comprehension that is assigned -/
def setScope (s : Stmt) : Scope := match s with
  | .Assign _ (.ListComp _ _ sc _) _ => sc
  | _ => { kind := .function, names := [], isGenerator := false, isCoroutine := false }
end L2
namespace L2
open PySem PySem.Spec PyProof.Rows
theorem ix_listK {X : Cx} {K : PySem.W.Frag} (h : X.K = K) : IxR X (rIxL K) := h ▸ ix_list
end L2
namespace L2
open PySem PySem.Spec PyProof.Rows
end L2
/-! == and != of tuples and lists at any depth -/
namespace L2
open PySem PySem.Spec PyProof.Rows
theorem val_get {xs : List V} {us : List Value} {j : Nat} (r : Vals xs us) (h : j < us.length) : ∃ a, xs[j]? = some a ∧ RelV a us[j] := by
  have hl := r.length
  have hj : j < xs.length := by omega
  obtain ⟨u, e, q⟩ := r.get (i := j) (x := xs[j]) (List.getElem?_eq_getElem hj)
  rw [List.getElem?_eq_getElem h] at e
  cases e
  exact ⟨xs[j], List.getElem?_eq_getElem hj, q⟩
section
variable {X : Cx} {pins : List (Addr × Obj)} {σ : St} {H : Hp} {s : Shared}
end
end L2
namespace L2
open PySem
theorem Room.units10 {k : Nat} {A : Around} (r : Room k A) : A.units + 10 < cLine := by have := r.un; omega
end L2
/-! POINTS: what the defs about points and squares keep -/
namespace L2
open PySem PySem.Spec PyProof.Rows
def CPX (i j : Int) : Prop := 0 ≤ j ∧ (Builtin.Int.intBits i : Int) * j ≤ 2 ^ 27
theorem op_powX {X : Cx} : OpR X (binaryOp .Pow) (rI CPX fun i j => .int (i ^ j.toNat)) := opI fun _ _ _ _ _ _ _ hc q => pow_int hc.1 hc.2 q
theorem cpx2 {i : Int} {n : Nat} (h : bits i ≤ n) (hn : n ≤ 100000) : CPX i 2 := ⟨by decide, by
  have e : (2 : Int) ^ 27 = 134217728 := by decide
  have h' : Builtin.Int.intBits i ≤ n := h
  rw [e]
  omega⟩
end L2
namespace Sp3
open PySem PySem.Spec L2 Mth Sp1 Sp2
end Sp3
namespace Sp3
open PySem PySem.Spec L2 Mth Sp1 Sp2
abbrev Crn := List (Addr × Int × Int)
/-! sizes and equal points -/
end Sp3
/-! EXCEPTIONS KEPT: the class of an exception object, isinstance of it, except .. as e -/
namespace PySem
open Sem (wp)
section
variable {prog : Program} {w : World} {A : Around} {E : Value → Shared → Prop} {h : Heap} {g : Array GenState} {d : Drawn} {t : Nat} {os : OsState} {a : Addr} {o : Obj}
  {nm q : Str} {C N : Addr} {bs bm : List Value} {hdct : Bool} {sn : List Str} {sub : List Value} {ab : Bool} {col : Option Bool} {dd : Option Addr} {k0 k1 k2 k3 k5 : Option Value} {newId : String}
end
end PySem

namespace L2
open PySem PySem.Spec PyProof.Rows
section
variable {X : Cx}
end
section
variable {X : Cx} {pins : List (Addr × Obj)} {σ : St} {H : Hp} {s : Shared}
end
section
variable {X : Cx}
end
end L2
/-! k08: places and points -/
namespace Sp8
open PySem PySem.Spec L2 Mth Sp1 Sp2 Sp3
end Sp8
/-! try: an if ahead of the calls -/
namespace L2
open PySem PySem.Spec PyProof.Rows
end L2
/-! k24: gates -/
namespace Sp24
open PySem PySem.Spec L2 Mth Sp1 Sp2 Sp3 Sp8
end Sp24
/-! all(..) of a list of truths -/
namespace L2
open PySem PySem.Spec PyProof.Rows
end L2
/-! k07: lines -/
namespace Sp7
open PySem PySem.Spec L2 Mth Sp1 Sp2 Sp3
def retScope (s : Stmt) : Scope := match s with
  | .Return (some (.Call _ [.ListComp _ _ sc _] _ _)) _ => sc
  | .Return (some (.ListComp _ _ sc _)) _ => sc
  | _ => { kind := .function, names := [], isGenerator := false, isCoroutine := false }
end Sp7
/-! AUTO: the plain parts of a reading, found by their shape -/
namespace L2
open PySem PySem.Spec PyProof.Rows
theorem dec_t {p : Prop} [Decidable p] (h : decide p = true) : p := of_decide_eq_true h
theorem dec_f {p : Prop} [Decidable p] (h : decide p = false) : ¬ p := of_decide_eq_false h
end L2
namespace L2
open PySem PySem.Spec PyProof.Rows
/-- the tuples stay -/
def SameT (H H' : Hp) : Prop := ∀ b xs, H b = some (.tup xs) → H' b = some (.tup xs)
theorem Same.t {H H' : Hp} (s : Same H H') : SameT H H' := fun b xs e => s b _ e
theorem SameT.trans {H H1 H2 : Hp} (a : SameT H H1) (b : SameT H1 H2) : SameT H H2 := fun c xs e => b c xs (a c xs e)
theorem SameT.upd {H : Hp} {l : Addr} {xs ys : List V} (hl : H l = some (.lst xs)) : SameT H (upd H l (.lst ys)) := fun b zs e => by
  rw [upd_ne (ne_of e hl (by intro z; cases z))]
  exact e
theorem Same.upd {H0 H : Hp} {l : Addr} {o : HO} (s : Same H0 H) (hl : H0 l = none) : Same H0 (upd H l o) := fun b u e => by
  rw [upd_ne (ne_of_none e hl)]
  exact s b u e
/-- a comprehension from where its list is made -/
def CompAt (J : It) (fv : List (Str × Nat)) (te : TE) (σ : St) (H1 : Hp) (Q : VK) : Prop := ∀ p, H1 p = none → ∃ W : Nat → Nat → List V → Hp → Prop, (∃ m, W 0 m [] (upd H1 p (.lst []))) ∧ ∀ i m acc H2, W i m acc H2 →
  H2 p = some (.lst acc) ∧ acc.length < sizeLine ∧ ((J.stop i H2 ∧ Q (.ref p) H2) ∨ (J.go i H2 ∧ ∀ x H3, J.yld i H2 x H3 → te (some x :: fvs fv σ) H3 fun y H4 => H4 p = some (.lst acc) ∧ ∃ m', m' < m ∧ W (i + 1) m' (acc ++ [y]) (upd H4 p (.lst (acc ++ [y])))))
def tCompA (wi : TI) (fv : List (Str × Nat)) (te : TE) : TE := fun σ H Q => wi σ H fun J H1 => CompAt J fv te σ H1 Q
section
variable {X : Cx} {scope : Scope} {cl : List (Str × Addr)} {x : Str} {fv : List (Str × Nat)} {elt iter : Expr} {px pos : Pos} {te : TE}
theorem ps_setCompA {wi : TI} {y : Str} {j : Nat} {py spos : Pos} (hcalm : X.calm = true) (C : CompN X scope cl x fv) (hN : X.N.Nodup) (hj : X.N[j]? = some y) (hy : X.env.scope.names.lookup y = some .local) (hi : PI X (.Name x px) iter wi) (he : ∀ (fp : List Addr) (s₀ : Shared) (H₀ : Hp), PE (X.blk (x :: fv.map (·.1)) scope cl fp s₀ H₀) elt te)
    (hsw : swapsWith (.ListComp elt [⟨.Name x px, iter, [], 0⟩] scope pos) (some (.Name y py)) spos.line X.env = pure true := by rfl)
    (hs : ∀ v, foldedSetIterable iter X.env v = pure v := by intro _; rfl) : PS X (.Assign [.Name y py] (.ListComp elt [⟨.Name x px, iter, [], 0⟩] scope pos) spos) (tAsg (tCompA wi fv te) (gName j)) := ps_setComp hcalm C hN hj hy hi he hsw hs
end
theorem comp_rR {n : Nat} {lo : Int} {fv : List (Str × Nat)} {te : TE} {σ : St} {H1 : Hp} {Q : VK} (hlen : n < 1000) (R : Nat → V → Hp → Prop) (hR : ∀ i v H H', SameT H H' → R i v H → R i v H')
    (hs : ∀ i H2 (Kc : VK), i < n → Same H1 H2 → (∀ y H4, Same H2 H4 → R i y H4 → Kc y H4) → te (some (.int (lo + i)) :: fvs fv σ) H2 Kc)
    (hd : ∀ l ys H', H1 l = none → Same H1 H' → H' l = some (.lst ys) → ys.length = n → (∀ i y, ys[i]? = some y → R i y H') → Q (.ref l) H') :
    CompAt (Itr lo n) fv te σ H1 Q := by
  intro l hl
  refine comp_range (n := n) (lo := lo) (l := l) (fv := fv) (Qp := fun H2 => Q (.ref l) H2) (fun i acc H2 => acc.length = i ∧ Same H1 H2 ∧ H2 l = some (.lst acc) ∧ ∀ j y, acc[j]? = some y → R j y H2)
    ⟨rfl, Same.new hl, upd_same, fun j y h => by simp at h⟩ ?_ ?_ ?_
  · rintro i acc H2 hi ⟨e1, sm, e3, _⟩
    exact ⟨e3, small1000 (by omega)⟩
  · rintro i acc H2 Kc hx ⟨e1, sm, e3, hr⟩ kk
    refine hs i H2 Kc hx sm fun y H4 s4 ry => kk y H4 (s4 _ _ e3) ⟨by simp [e1], (sm.trans s4).upd hl, upd_same, fun j z hz => ?_⟩
    have t4 := SameT.upd (ys := acc ++ [y]) (s4 _ _ e3)
    rcases Nat.lt_trichotomy j acc.length with h | h | h
    · rw [List.getElem?_append_left h] at hz
      exact hR _ _ _ _ (s4.t.trans t4) (hr j z hz)
    · subst h
      rw [List.getElem?_append_right (Nat.le_refl _), Nat.sub_self] at hz
      cases hz
      rw [e1]
      exact hR _ _ _ _ t4 ry
    · rw [List.getElem?_eq_none (by simp; omega)] at hz
      cases hz
  · rintro acc H2 ⟨e1, sm, e3, hr⟩
    exact hd l acc H2 hl sm e3 e1 hr
end L2
namespace L2
open PySem PySem.Spec PyProof.Rows
/-! ### what is new, what is changed, by heaps of their own names -/
section
variable {X : Cx} {pos : Pos} {es : List Expr} {ta : TA}
def tTupA (t : TA) : TE := fun σ H Q => t σ H fun xs H1 => xs.length ≤ sizeLine ∧ ∀ p H2, Same H1 H2 → H2 p = some (.tup xs) → H1 p = none → Q (.ref p) H2
def tLstA (t : TA) : TE := fun σ H Q => t σ H fun xs H1 => xs.length ≤ sizeLine ∧ ∀ p H2, Same H1 H2 → H2 p = some (.lst xs) → H1 p = none → Q (.ref p) H2
theorem pe_tupA {x1} (h : PA X es ta) : PE X (.Tuple es x1 pos) (tTupA ta) := by
  intro pins s σ H Q I hq
  refine wpAny_Tuple_spliced (thn (h pos pins s σ H _ I hq) fun us s1 ⟨xs, H1, I1, r, z, q⟩ => ⟨by rw [← r.length]; exact z, ?_⟩)
  have hf : H1 s1.heap.objs.size = none := I1.hok.fresh (Nat.le_refl _)
  refine ⟨.ref s1.heap.objs.size, upd H1 s1.heap.objs.size (.tup xs), I1.laid (t' := s1.toks) (fun b u e => Heap.get?_push_of_some _ e) (Nat.le_refl _) ?_, rfl, q _ _ (Same.new hf) upd_same hf⟩
  exact ⟨z, us, r, ⟨_, Heap.get?_push_size _ rfl, rfl, _, rfl⟩⟩
theorem pe_lstA (h : PA X es ta) : PE X (.List es pos) (tLstA ta) := by
  intro pins s σ H Q I hq
  refine wpAny_List_spliced (thn (h pos pins s σ H _ I hq) fun us s1 ⟨xs, H1, I1, r, z, q⟩ => ⟨by rw [← r.length]; exact z, ?_⟩)
  have hf : H1 s1.heap.objs.size = none := I1.hok.fresh (Nat.le_refl _)
  refine ⟨.ref s1.heap.objs.size, upd H1 s1.heap.objs.size (.lst xs), I1.laid (t' := s1.toks) (fun b u e => Heap.get?_push_of_some _ e) (Nat.le_refl _) ?_, rfl, q _ _ (Same.new hf) upd_same hf⟩
  exact ⟨z, us, 0, r, Heap.get?_push_size _ rfl⟩
def rSlLA (K : PySem.W.Frag) : V → Option Int → Option Int → Hp → VK → Prop := fun x lo hi H Q => ∃ a xs, x = .ref a ∧ SqL K H a xs ∧ ∀ p H2, Same H H2 → H2 p = some (.lst (cutV xs lo hi)) → H p = none → Q (.ref p) H2
theorem sl_listA : SlR X (rSlLA X.K) := fun pins s σ H x v vl vu lo hi sl Q I rx hs pl pu ⟨a, xs, e, hx, q⟩ =>
  sl_list pins s σ H x v vl vu lo hi sl Q I rx hs pl pu ⟨a, xs, e, hx, fun p hp => q p _ (Same.new hp) upd_same hp⟩
def rCatA : R2 := fun x y H Q => ∃ l b xs zs, x = .ref l ∧ y = .ref b ∧ H l = some (.lst xs) ∧ H b = some (.lst zs) ∧ xs.length + zs.length ≤ sizeLine ∧ ∀ p H2, Same H H2 → H2 p = some (.lst (xs ++ zs)) → H p = none → Q (.ref p) H2
theorem op_catA : OpR X (binaryOp .Add) rCatA := fun pins s σ H x y v u Q I rx ry ⟨l, b, xs, zs, e1, e2, h1, h2, hz, q⟩ =>
  op_cat pins s σ H x y v u Q I rx ry ⟨l, b, xs, zs, e1, e2, h1, h2, hz, fun p hp => q p _ (Same.new hp) upd_same hp⟩
end
end L2
namespace L2
open PySem PySem.Spec PyProof.Rows
theorem len3 {α : Type} {xs : List α} (h : xs.length = 3) : ∃ a b c, xs = [a, b, c] := match xs, h with | [a, b, c], _ => ⟨a, b, c, rfl⟩
theorem len2 {α : Type} {xs : List α} (h : xs.length = 2) : ∃ a b, xs = [a, b] := match xs, h with | [a, b], _ => ⟨a, b, rfl⟩
theorem len4 {α : Type} {xs : List α} (h : xs.length = 4) : ∃ a b c d, xs = [a, b, c, d] := match xs, h with | [a, b, c, d], _ => ⟨a, b, c, d, rfl⟩
theorem len5 {α : Type} {xs : List α} (h : xs.length = 5) : ∃ a b c d e, xs = [a, b, c, d, e] := match xs, h with | [a, b, c, d, e], _ => ⟨a, b, c, d, e, rfl⟩
theorem len6 {α : Type} {xs : List α} (h : xs.length = 6) : ∃ a b c d e f, xs = [a, b, c, d, e, f] := match xs, h with | [a, b, c, d, e, f], _ => ⟨a, b, c, d, e, f, rfl⟩
end L2
/-! ZIP and ENUMERATE, walked with a target of names -/
namespace L2
open PySem PySem.Spec PyProof.Rows
section
variable {X : Cx} {pins : List (Addr × Obj)} {σ : St} {H : Hp} {s : Shared}
end
section
variable {X : Cx} {elts : List Expr} {kt : Nat} {tpos : Pos}
end
end L2
/-! DATA: what a value stands for, whole; == and != of such -/
namespace L2
open PySem PySem.Spec PyProof.Rows
inductive D where
  | non | bl (b : Bool) | int (i : Int) | str (x : Str) | tup (ds : List D) | lst (ds : List D)
/-- the value v stands for d; n: no deeper -/
inductive Rp (H : Hp) : Nat → V → D → Prop where
  | non {n : Nat} : Rp H n .non .non
  | bl {n : Nat} {b : Bool} : Rp H n (.bl b) (.bl b)
  | int {n : Nat} {i : Int} : Rp H n (.int i) (.int i)
  | str {n : Nat} {x : Str} : Rp H n (.str x) (.str x)
  | tup {n : Nat} {p : Addr} {xs : List V} {ds : List D} (e : H p = some (.tup xs)) (hl : xs.length = ds.length) (h : ∀ (j : Nat) x d, xs[j]? = some x → ds[j]? = some d → Rp H n x d) : Rp H (n + 1) (.ref p) (.tup ds)
  | lst {n : Nat} {p : Addr} {xs : List V} {ds : List D} (e : H p = some (.lst xs)) (hl : xs.length = ds.length) (h : ∀ (j : Nat) x d, xs[j]? = some x → ds[j]? = some d → Rp H n x d) : Rp H (n + 1) (.ref p) (.lst ds)
mutual
def deq : D → D → Bool
  | .non, .non => true
  | .bl a, .bl b => a == b
  | .bl a, .int b => (if a then 1 else 0) == b
  | .int a, .bl b => a == (if b then 1 else 0)
  | .int a, .int b => a == b
  | .str a, .str b => a == b
  | .tup xs, .tup ys => deqs xs ys
  | .lst xs, .lst ys => deqs xs ys
  | _, _ => false
def deqs : List D → List D → Bool
  | [], [] => true
  | x :: xs, y :: ys => deq x y && deqs xs ys
  | _, _ => false
end
theorem deqs_all : ∀ (ds es : List D), ((List.range (min ds.length es.length)).all (fun j => deq (ds.getD j .non) (es.getD j .non)) && ds.length == es.length) = deqs ds es
  | [], [] => by simp [deqs]
  | [], e :: es => by simp [deqs]
  | d :: ds, [] => by simp [deqs]
  | d :: ds, e :: es => by
    have ih := deqs_all ds es
    have hm : min (d :: ds).length (e :: es).length = min ds.length es.length + 1 := by simp only [List.length_cons]; omega
    rw [hm, List.range_succ_eq_map, List.all_cons, List.all_map]
    simp only [deqs, List.getD_cons_zero, List.length_cons]
    rw [← ih, Bool.and_assoc]
    congr 1
    simp [Function.comp_def]
theorem deqs_len {ds es : List D} (h : ds.length ≠ es.length) : deqs ds es = false := by
  rw [← deqs_all]
  simp [h]
theorem deqs_all' {ds es : List D} (h : ds.length = es.length) : (List.range ds.length).all (fun j => deq (ds.getD j .non) (es.getD j .non)) = deqs ds es := by
  rw [← deqs_all, h]
  simp
theorem deqs_of {ds es : List D} (hl : ds.length = es.length) (h : ∀ (j : Nat) d e, ds[j]? = some d → es[j]? = some e → deq d e = true) : deqs ds es = true := by
  rw [← deqs_all' hl, List.all_eq_true]
  intro j hj
  have hj' : j < ds.length := List.mem_range.mp hj
  have hj2 : j < es.length := by omega
  have e1 : ds[j]? = some ds[j] := List.getElem?_eq_getElem hj'
  have e2 : es[j]? = some es[j] := List.getElem?_eq_getElem hj2
  rw [List.getD_eq_getElem?_getD, List.getD_eq_getElem?_getD, e1, e2]
  exact h j _ _ e1 e2
theorem get_of_len {α β : Type} {xs : List α} {ds : List β} {j : Nat} {d : β} (hl : xs.length = ds.length) (h : ds[j]? = some d) : ∃ x, xs[j]? = some x := by
  have := (List.getElem?_eq_some_iff.mp h).1
  exact ⟨xs[j], List.getElem?_eq_getElem (by omega)⟩
/-- one value, read twice -/
theorem Rp.self {H : Hp} {n m : Nat} {v : V} {d e : D} (r : Rp H n v d) (q : Rp H m v e) : deq d e = true := by
  induction r generalizing m e with
  | non => cases q; rfl
  | bl => cases q; simp [deq]
  | int => cases q; simp [deq]
  | str => cases q; simp [deq]
  | tup e1 hl h ih =>
    cases q with
    | tup e2 hl2 h2 =>
      rw [e1] at e2
      cases e2
      refine deqs_of (by omega) fun j a b ea eb => ?_
      obtain ⟨x, hx⟩ := get_of_len hl ea
      exact ih j x a hx ea (h2 j x b hx eb)
    | lst e2 hl2 h2 => rw [e1] at e2; cases e2
  | lst e1 hl h ih =>
    cases q with
    | tup e2 hl2 h2 => rw [e1] at e2; cases e2
    | lst e2 hl2 h2 =>
      rw [e1] at e2
      cases e2
      refine deqs_of (by omega) fun j a b ea eb => ?_
      obtain ⟨x, hx⟩ := get_of_len hl ea
      exact ih j x a hx ea (h2 j x b hx eb)
section
variable {X : Cx} {pins : List (Addr × Obj)} {σ : St} {H : Hp} {s : Shared}
theorem elts_at {A : Around} {xs ys : List V} {us ws : List Value} {ds es : List D} (r : Vals xs us) (r' : Vals ys ws) (hl : xs.length = ds.length) (hl' : ys.length = es.length)
    (h : ∀ (j : Nat) x y d e u w, xs[j]? = some x → ys[j]? = some y → ds[j]? = some d → es[j]? = some e → RelV x u → RelV y w → SeqAt.EqAt A s u w (deq d e))
    (j : Nat) (h1 : j < us.toArray.size) (h2 : j < ws.toArray.size) : SeqAt.EqAt A s us.toArray[j] ws.toArray[j] (deq (ds.getD j .non) (es.getD j .non)) := by
  rw [List.size_toArray] at h1 h2
  obtain ⟨a, ea, ra⟩ := val_get r h1
  obtain ⟨c, ec, rc⟩ := val_get r' h2
  have g1 := (List.getElem?_eq_some_iff.mp ea).1
  have g2 := (List.getElem?_eq_some_iff.mp ec).1
  have e1 : ds[j]? = some ds[j] := List.getElem?_eq_getElem (by omega)
  have e2 : es[j]? = some es[j] := List.getElem?_eq_getElem (by omega)
  rw [List.getD_eq_getElem?_getD, List.getD_eq_getElem?_getD, e1, e2]
  exact h j a c _ _ _ _ ea ec e1 e2 ra rc
/-- == of two values, as the room has it -/
theorem Rp.eqAt {n : Nat} {x : V} {d : D} (r : Rp H n x d) : ∀ {m : Nat} {y : V} {e : D} {A : Around} {u v : Value}, Rp H m y e → Inv X pins σ H s → RelV x u → RelV y v → A.units + n < cLine → SeqAt.EqAt A s u v (deq d e) := by
  induction r with
  | non =>
    intro m y e A u v q I ru rv hu
    cases ru
    cases q with
    | non => cases rv; exact SeqAt.EqAt.same _
    | bl => cases rv; exact SeqAt.EqAt.none_bool _
    | int => obtain ⟨_, rfl⟩ := rv; exact SeqAt.EqAt.none_int _ _
    | str => obtain ⟨_, rfl⟩ := rv; exact SeqAt.EqAt.none_str _ _
    | tup e1 hl h => cases rv; obtain ⟨its, _, pl, _⟩ := I.tuple (SqT.of e1); exact SeqAt.EqAt.none_tuple pl (by omega)
    | lst e1 hl h => cases rv; obtain ⟨its, _, pl, _⟩ := I.list (SqL.of e1); exact SeqAt.EqAt.none_list pl.isList (by omega)
  | bl =>
    intro m y e A u v q I ru rv hu
    cases ru
    cases q with
    | non => cases rv; exact SeqAt.EqAt.bool_none _
    | bl => cases rv; exact SeqAt.EqAt.bool_bool _ _
    | int => obtain ⟨_, rfl⟩ := rv; exact SeqAt.EqAt.bool_int _ _ _
    | str => obtain ⟨_, rfl⟩ := rv; exact SeqAt.EqAt.bool_str _ _ _
    | tup e1 hl h => cases rv; obtain ⟨its, _, pl, _⟩ := I.tuple (SqT.of e1); exact SeqAt.EqAt.bool_tuple _ pl (by omega)
    | lst e1 hl h => cases rv; obtain ⟨its, _, pl, _⟩ := I.list (SqL.of e1); exact SeqAt.EqAt.bool_list _ pl.isList (by omega)
  | int =>
    intro m y e A u v q I ru rv hu
    obtain ⟨_, rfl⟩ := ru
    cases q with
    | non => cases rv; exact SeqAt.EqAt.int_none _ _
    | bl => cases rv; exact SeqAt.EqAt.int_bool _ _ _
    | int => obtain ⟨_, rfl⟩ := rv; exact SeqAt.EqAt.int_int _ _ _ _
    | str => obtain ⟨_, rfl⟩ := rv; exact SeqAt.EqAt.int_str _ _ _ _
    | tup e1 hl h => cases rv; obtain ⟨its, _, pl, _⟩ := I.tuple (SqT.of e1); exact SeqAt.EqAt.int_tuple _ _ pl (by omega)
    | lst e1 hl h => cases rv; obtain ⟨its, _, pl, _⟩ := I.list (SqL.of e1); exact SeqAt.EqAt.int_list _ _ pl.isList (by omega)
  | str =>
    intro m y e A u v q I ru rv hu
    obtain ⟨_, rfl⟩ := ru
    cases q with
    | non => cases rv; exact SeqAt.EqAt.str_none _ _
    | bl => cases rv; exact SeqAt.EqAt.str_bool _ _ _
    | int => obtain ⟨_, rfl⟩ := rv; exact SeqAt.EqAt.str_int _ _ _ _
    | str => obtain ⟨_, rfl⟩ := rv; exact SeqAt.EqAt.str_str _ _ _ _
    | tup e1 hl h => cases rv; obtain ⟨its, _, pl, _⟩ := I.tuple (SqT.of e1); exact SeqAt.EqAt.str_tuple _ _ pl (by omega)
    | lst e1 hl h => cases rv; obtain ⟨its, _, pl, _⟩ := I.list (SqL.of e1); exact SeqAt.EqAt.str_list _ _ pl.isList (by omega)
  | @tup n p xs ds e0 hl h ih =>
    intro m y e A u v q I ru rv hu
    cases ru
    obtain ⟨its, r1, pl, _⟩ := I.tuple (SqT.of e0)
    cases q with
    | non => cases rv; exact SeqAt.EqAt.tuple_none pl (by omega)
    | bl => cases rv; exact SeqAt.EqAt.tuple_bool _ pl (by omega)
    | int => obtain ⟨_, rfl⟩ := rv; exact SeqAt.EqAt.tuple_int _ _ pl (by omega)
    | str => obtain ⟨_, rfl⟩ := rv; exact SeqAt.EqAt.tuple_str _ _ pl (by omega)
    | lst e1 hl1 h1 => cases rv; obtain ⟨jts, _, pl', _⟩ := I.list (SqL.of e1); exact SeqAt.EqAt.tuple_list pl pl'.isList (by omega)
    | @tup m p' ys es e1 hl1 h1 =>
      cases rv
      by_cases hne : p = p'
      · subst hne
        have z : deq (.tup ds) (.tup es) = true := Rp.self (Rp.tup e0 hl h) (Rp.tup e1 hl1 h1)
        rw [z]
        exact SeqAt.EqAt.same _
      · obtain ⟨jts, r2, pl', _⟩ := I.tuple (SqT.of e1)
        have y := SeqAt.RcAt.tuples (A := A) (e := fun j => deq (ds.getD j .non) (es.getD j .non)) pl pl' (by omega) (elts_at r1 r2 hl hl1 fun j x y d e u w a b c k ra rb => ih j x d a c (h1 j y e b k) I ra rb (by show A.units + 1 + n < cLine; omega))
        rw [List.size_toArray, List.size_toArray, ← r1.length, ← r2.length, hl, hl1, deqs_all] at y
        exact SeqAt.EqAt.of_refs hne y
  | @lst n p xs ds e0 hl h ih =>
    intro m y e A u v q I ru rv hu
    cases ru
    obtain ⟨its, r1, pl, _⟩ := I.list (SqL.of e0)
    cases q with
    | non => cases rv; exact SeqAt.EqAt.list_none pl.isList (by omega)
    | bl => cases rv; exact SeqAt.EqAt.list_bool _ pl.isList (by omega)
    | int => obtain ⟨_, rfl⟩ := rv; exact SeqAt.EqAt.list_int _ _ pl.isList (by omega)
    | str => obtain ⟨_, rfl⟩ := rv; exact SeqAt.EqAt.list_str _ _ pl.isList (by omega)
    | tup e1 hl1 h1 => cases rv; obtain ⟨jts, _, pl', _⟩ := I.tuple (SqT.of e1); exact SeqAt.EqAt.list_tuple pl.isList pl' (by omega)
    | @lst m p' ys es e1 hl1 h1 =>
      cases rv
      by_cases hne : p = p'
      · subst hne
        have z : deq (.lst ds) (.lst es) = true := Rp.self (Rp.lst e0 hl h) (Rp.lst e1 hl1 h1)
        rw [z]
        exact SeqAt.EqAt.same _
      · obtain ⟨jts, r2, pl', _⟩ := I.list (SqL.of e1)
        have g1 := r1.length
        have g2 := r2.length
        by_cases hz : ds.length = es.length
        · have y := SeqAt.RcAt.lists (A := A) (e := fun j => deq (ds.getD j .non) (es.getD j .non)) pl.isList pl'.isList (by rw [List.size_toArray, List.size_toArray]; omega) (by omega) (elts_at r1 r2 hl hl1 fun j x y d e u w a b c k ra rb => ih j x d a c (h1 j y e b k) I ra rb (by show A.units + 1 + n < cLine; omega))
          rw [List.size_toArray, ← r1.length, hl, deqs_all' hz] at y
          exact SeqAt.EqAt.of_refs hne y
        · rw [show deq (.lst ds) (.lst es) = false from deqs_len hz]
          exact SeqAt.EqAt.of_refs hne (SeqAt.RcAt.lists_lengths pl.isList pl'.isList (by rw [List.size_toArray, List.size_toArray]; simp; omega) (by omega))
end
end L2
/-! GENERATED -/
namespace L2
open PySem PySem.Spec PyProof.Rows
section
variable {X : Cx} {pins : List (Addr × Obj)} {σ : St} {H : Hp} {s : Shared}
theorem Rp.rcAt {A : Around} {n m : Nat} {x y : V} {d e : D} {u v : Value} (r : Rp H n x d) (q : Rp H m y e) (I : Inv X pins σ H s) (ru : RelV x u) (rv : RelV y v) (hu : A.units + n + 1 < cLine) : SeqAt.RcAt A s u v (deq d e) := by
  cases r with
  | non =>
    cases q with
    | non =>
      cases ru
      cases rv
      exact SeqAt.RcAt.none_none
    | bl =>
      cases ru
      cases rv
      exact SeqAt.RcAt.none_bool _
    | int =>
      cases ru
      obtain ⟨_, rfl⟩ := rv
      exact SeqAt.RcAt.none_int _ _
    | str =>
      cases ru
      obtain ⟨_, rfl⟩ := rv
      exact SeqAt.RcAt.none_str _ _
    | @tup m p' ys es e1 hl1 h1 =>
      cases ru
      cases rv
      obtain ⟨jts, r2, pl', _⟩ := I.tuple (SqT.of e1)
      exact SeqAt.RcAt.none_tuple pl' (by omega)
    | @lst m p' ys es e1 hl1 h1 =>
      cases ru
      cases rv
      obtain ⟨jts, r2, pl', _⟩ := I.list (SqL.of e1)
      exact SeqAt.RcAt.none_list pl'.isList (by omega)
  | bl =>
    cases q with
    | non =>
      cases ru
      cases rv
      exact SeqAt.RcAt.bool_none _
    | bl =>
      cases ru
      cases rv
      exact SeqAt.RcAt.bool_bool _ _
    | int =>
      cases ru
      obtain ⟨_, rfl⟩ := rv
      exact SeqAt.RcAt.bool_int _ _ _
    | str =>
      cases ru
      obtain ⟨_, rfl⟩ := rv
      exact SeqAt.RcAt.bool_str _ _ _
    | @tup m p' ys es e1 hl1 h1 =>
      cases ru
      cases rv
      obtain ⟨jts, r2, pl', _⟩ := I.tuple (SqT.of e1)
      exact SeqAt.RcAt.bool_tuple _ pl' (by omega)
    | @lst m p' ys es e1 hl1 h1 =>
      cases ru
      cases rv
      obtain ⟨jts, r2, pl', _⟩ := I.list (SqL.of e1)
      exact SeqAt.RcAt.bool_list _ pl'.isList (by omega)
  | int =>
    cases q with
    | non =>
      obtain ⟨_, rfl⟩ := ru
      cases rv
      exact SeqAt.RcAt.int_none _ _
    | bl =>
      obtain ⟨_, rfl⟩ := ru
      cases rv
      exact SeqAt.RcAt.int_bool _ _ _
    | int =>
      obtain ⟨_, rfl⟩ := ru
      obtain ⟨_, rfl⟩ := rv
      exact SeqAt.RcAt.int_int _ _ _ _
    | str =>
      obtain ⟨_, rfl⟩ := ru
      obtain ⟨_, rfl⟩ := rv
      exact SeqAt.RcAt.int_str _ _ _ _
    | @tup m p' ys es e1 hl1 h1 =>
      obtain ⟨_, rfl⟩ := ru
      cases rv
      obtain ⟨jts, r2, pl', _⟩ := I.tuple (SqT.of e1)
      exact SeqAt.RcAt.int_tuple _ _ pl' (by omega)
    | @lst m p' ys es e1 hl1 h1 =>
      obtain ⟨_, rfl⟩ := ru
      cases rv
      obtain ⟨jts, r2, pl', _⟩ := I.list (SqL.of e1)
      exact SeqAt.RcAt.int_list _ _ pl'.isList (by omega)
  | str =>
    cases q with
    | non =>
      obtain ⟨_, rfl⟩ := ru
      cases rv
      exact SeqAt.RcAt.str_none _ _
    | bl =>
      obtain ⟨_, rfl⟩ := ru
      cases rv
      exact SeqAt.RcAt.str_bool _ _ _
    | int =>
      obtain ⟨_, rfl⟩ := ru
      obtain ⟨_, rfl⟩ := rv
      exact SeqAt.RcAt.str_int _ _ _ _
    | str =>
      obtain ⟨_, rfl⟩ := ru
      obtain ⟨_, rfl⟩ := rv
      exact SeqAt.RcAt.str_str _ _ _ _
    | @tup m p' ys es e1 hl1 h1 =>
      obtain ⟨_, rfl⟩ := ru
      cases rv
      obtain ⟨jts, r2, pl', _⟩ := I.tuple (SqT.of e1)
      exact SeqAt.RcAt.str_tuple _ _ pl' (by omega)
    | @lst m p' ys es e1 hl1 h1 =>
      obtain ⟨_, rfl⟩ := ru
      cases rv
      obtain ⟨jts, r2, pl', _⟩ := I.list (SqL.of e1)
      exact SeqAt.RcAt.str_list _ _ pl'.isList (by omega)
  | @tup n p xs ds e0 hl h =>
    cases q with
    | non =>
      cases ru
      cases rv
      obtain ⟨its, r1, pl, _⟩ := I.tuple (SqT.of e0)
      exact SeqAt.RcAt.tuple_none pl (by omega)
    | bl =>
      cases ru
      cases rv
      obtain ⟨its, r1, pl, _⟩ := I.tuple (SqT.of e0)
      exact SeqAt.RcAt.tuple_bool _ pl (by omega)
    | int =>
      cases ru
      obtain ⟨_, rfl⟩ := rv
      obtain ⟨its, r1, pl, _⟩ := I.tuple (SqT.of e0)
      exact SeqAt.RcAt.tuple_int _ _ pl (by omega)
    | str =>
      cases ru
      obtain ⟨_, rfl⟩ := rv
      obtain ⟨its, r1, pl, _⟩ := I.tuple (SqT.of e0)
      exact SeqAt.RcAt.tuple_str _ _ pl (by omega)
    | @tup m p' ys es e1 hl1 h1 =>
      cases ru
      cases rv
      obtain ⟨its, r1, pl, _⟩ := I.tuple (SqT.of e0)
      obtain ⟨jts, r2, pl', _⟩ := I.tuple (SqT.of e1)
      have y := SeqAt.RcAt.tuples (A := A) (e := fun j => deq (ds.getD j .non) (es.getD j .non)) pl pl' (by omega) (elts_at r1 r2 hl hl1 fun j x y d e u w a b c k ra rb => (h j x d a c).eqAt (h1 j y e b k) I ra rb (by show A.units + 1 + _ < cLine; omega))
      rw [List.size_toArray, List.size_toArray, ← r1.length, ← r2.length, hl, hl1, deqs_all] at y
      exact y
    | @lst m p' ys es e1 hl1 h1 =>
      cases ru
      cases rv
      obtain ⟨its, r1, pl, _⟩ := I.tuple (SqT.of e0)
      obtain ⟨jts, r2, pl', _⟩ := I.list (SqL.of e1)
      exact SeqAt.RcAt.tuple_list pl pl'.isList (by omega)
  | @lst n p xs ds e0 hl h =>
    cases q with
    | non =>
      cases ru
      cases rv
      obtain ⟨its, r1, pl, _⟩ := I.list (SqL.of e0)
      exact SeqAt.RcAt.list_none pl.isList (by omega)
    | bl =>
      cases ru
      cases rv
      obtain ⟨its, r1, pl, _⟩ := I.list (SqL.of e0)
      exact SeqAt.RcAt.list_bool _ pl.isList (by omega)
    | int =>
      cases ru
      obtain ⟨_, rfl⟩ := rv
      obtain ⟨its, r1, pl, _⟩ := I.list (SqL.of e0)
      exact SeqAt.RcAt.list_int _ _ pl.isList (by omega)
    | str =>
      cases ru
      obtain ⟨_, rfl⟩ := rv
      obtain ⟨its, r1, pl, _⟩ := I.list (SqL.of e0)
      exact SeqAt.RcAt.list_str _ _ pl.isList (by omega)
    | @tup m p' ys es e1 hl1 h1 =>
      cases ru
      cases rv
      obtain ⟨its, r1, pl, _⟩ := I.list (SqL.of e0)
      obtain ⟨jts, r2, pl', _⟩ := I.tuple (SqT.of e1)
      exact SeqAt.RcAt.list_tuple pl.isList pl' (by omega)
    | @lst m p' ys es e1 hl1 h1 =>
      cases ru
      cases rv
      obtain ⟨its, r1, pl, _⟩ := I.list (SqL.of e0)
      obtain ⟨jts, r2, pl', _⟩ := I.list (SqL.of e1)
      have g1 := r1.length
      have g2 := r2.length
      by_cases hz : ds.length = es.length
      · have y := SeqAt.RcAt.lists (A := A) (e := fun j => deq (ds.getD j .non) (es.getD j .non)) pl.isList pl'.isList (by rw [List.size_toArray, List.size_toArray]; omega) (by omega) (elts_at r1 r2 hl hl1 fun j x y d e u w a b c k ra rb => (h j x d a c).eqAt (h1 j y e b k) I ra rb (by show A.units + 1 + _ < cLine; omega))
        rw [List.size_toArray, ← r1.length, hl, deqs_all' hz] at y
        exact y
      · rw [show deq (.lst ds) (.lst es) = false from deqs_len hz]
        exact SeqAt.RcAt.lists_lengths pl.isList pl'.isList (by rw [List.size_toArray, List.size_toArray]; simp; omega) (by omega)
end
section
variable {X : Cx}
def rEqD (neg : Bool) : R2 := fun x y H Q => ∃ d e, Rp H 9 x d ∧ Rp H 9 y e ∧ Q (.bl (if neg then !(deq d e) else deq d e)) H
theorem op_eqD (hu : X.A.units + 10 < cLine) : OpR X (compareOp .Eq) (rEqD false) := by
  intro pins s σ H x y v u Q I rx ry h
  obtain ⟨d, e, rd, re, k⟩ := h
  exact rd.rcAt re I rx ry (by omega) _ _ _ _ ⟨.bl _, H, I, rfl, k⟩
end
/-! ### how one shows what a value stands for -/
section
variable {H : Hp} {n : Nat} {p : Addr} {x y z w : V} {a b c d : D}
theorem Rp.t2 (e : H p = some (.tup [x, y])) (ha : Rp H n x a) (hb : Rp H n y b) : Rp H (n + 1) (.ref p) (.tup [a, b]) := .tup e rfl fun j x d h k => by
  match j with
  | 0 => cases h; cases k; exact ha
  | 1 => cases h; cases k; exact hb
  | j + 2 => simp at h
end
end L2
/-! COMPREHENSIONS of one clause, any target, a test or none -/
namespace L2
open PySem PySem.Spec PyProof.Rows
/-- what is asked of the names: x the clause's own name; fv the free ones with their slots -/
structure CompM (X : Cx) (scope : Scope) (cl : List (Str × Addr)) (xs : List Str) (fv : List (Str × Nat)) : Prop where
  clos : closureFor scope X.env = pure cl
  kind : scope.kind = .function
  cell : ∀ y ∈ scope.names, y.2 ≠ .cell
  names : ∀ y ∈ scope.names, y.2 = .local → scope.names.lookup y.1 = some .local
  own : ∀ x ∈ xs, scope.names.lookup x = some .local
  cells : ∀ p ∈ cl, X.env.cells.lookup p.1 = some p.2
  has : ((relabel scope X.env).names.all fun q => !(q.2 == .cell || q.2 == .free) || (cl.lookup q.1).isSome) = true
  nd : (xs ++ fv.map (·.1)).Nodup
  slot : ∀ p ∈ fv, X.N[p.2]? = some p.1 ∧ X.env.kindOf p.1 = some .cell ∧ Vis X.env.scope p.1 ∧ (cl.lookup p.1).isSome = true ∧ ((relabel scope X.env).names.lookup p.1 = some .cell)
  stk : X.stack = X.env :: X.outer ∧ X.env.frame = some X.env.locals
  noex : X.ex = []
/-- the tests of a clause: none, or one -/
def PTs (X : Cx) (ifs : List Expr) (tc : TT) : Prop :=
  ∀ (pins : List (Addr × Obj)) (s : Shared) (σ : St) (H : Hp) (Q : Bool → Hp → Prop), Inv X pins σ H s → tc σ H Q →
    wpAny (model X.prog X.w) X.A (forIn ifs true fun c r => if r = true then do let ok ← isTrue c X.env (eval c X.env); pure (ForInStep.yield ok) else pure (ForInStep.yield r)) (fun b s' => ∃ H', Inv X pins σ H' s' ∧ Q b H') X.xe s
def tYes : TT := fun _ H Q => Q true H
theorem pts_nil {X : Cx} : PTs X [] tYes := fun pins s σ H Q I h => wpAny_tests_nil ⟨H, I, h⟩
/-- a turn of the loop, whatever its target is -/
theorem compLoop_go {prog : Program} {w : World} {A : Around} {R : Result → Shared → Prop} {s : Shared} {elt target iter : Expr} {ifs : List Expr} {scope : Scope} {pos : Pos} {it acc : Value} {env : Env} (I : Nat → Shared → Prop)
    (turn : ∀ n s, I n s → wpAny (model prog w) A (pyNext it) (fun r s₁ => match r with
      | none => R (.ok .next) s₁
      | some v => wpAny (model prog w) A (letOwnedTupleGo target it v) (fun _ s₀ => wpAny (model prog w) A (assign target env v) (fun _ s₂ =>
          wpAny (model prog w) A (forIn ifs true fun c r => if r = true then do let ok ← isTrue c env (eval c env); pure (ForInStep.yield ok) else pure (ForInStep.yield r)) (fun ok s₃ =>
            if ok = true then wpAny (model prog w) A (eval elt env) (fun x s₄ =>
              wpAny (model prog w) A (call (.builtin "list.append") [acc, x]) (fun _ s₅ => ∃ m, m < n ∧ I m s₅) (notedBy (model prog w) A env fun e s' => R (.error e) s') s₄) (notedBy (model prog w) A env fun e s' => R (.error e) s') s₃
            else ∃ m, m < n ∧ I m s₃) (notedBy (model prog w) A env fun e s' => R (.error e) s') s₂) (notedBy (model prog w) A env fun e s' => R (.error e) s') s₀) (notedBy (model prog w) A env fun e s' => R (.error e) s') s₁) (notedBy (model prog w) A env fun e s' => R (.error e) s') s)
    (n : Nat) (h : I n s) : codeAny (model prog w) A (.compLoop (.ListComp elt [⟨target, iter, ifs, 0⟩] scope pos) 0 it acc env) R s := by
  refine codeAny_loop rfl I (fun n s hI => ?_) n h
  show wpAny _ A ((compTurn (.ListComp elt [⟨target, iter, ifs, 0⟩] scope pos) 0 it acc env).onRaise (fun x => do noteFrame x env; theTreesLotGoes x)) _ _ s
  refine wpAny_noted ?_
  rw [compTurn_list]
  refine wpAny_bind (wpAny_standAt (wpAny_bind (wpAny_mono (turn n s hI) (fun r s₁ h₁ => ?_) fun _ _ h' => h')))
  cases r with
  | none => exact wpAny_pure h₁
  | some v =>
    refine wpAny_bind (wpAny_mono h₁ (fun _ s₀ h₀ => ?_) fun _ _ h' => h')
    refine wpAny_bind (wpAny_mono h₀ (fun _ s₂ h₂ => wpAny_bind (wpAny_mono h₂ (fun ok s₃ h₃ => ?_) fun _ _ h' => h')) fun _ _ h' => h')
    cases ok with
    | false => exact wpAny_pure ⟨rfl, h₃⟩
    | true => exact wpAny_bind (wpAny_bind (wpAny_mono h₃ (fun x s₄ h₄ => wpAny_bind (wpAny_mono h₄ (fun _ s₅ h₅ => wpAny_pure (wpAny_pure ⟨rfl, h₅⟩)) fun _ _ h' => h')) fun _ _ h' => h'))
def CompAtG (J : It) (n : Nat) (fv : List (Str × Nat)) (g : TG) (tc : TT) (te : TE) (σ : St) (H1 : Hp) (Q : VK) : Prop := ∀ p, H1 p = none → ∃ W : Nat → Nat → List V → Hp → Prop, (∃ m, W 0 m [] (upd H1 p (.lst []))) ∧ ∀ i m acc H2, W i m acc H2 →
  H2 p = some (.lst acc) ∧ acc.length < sizeLine ∧ ((J.stop i H2 ∧ Q (.ref p) H2) ∨ (J.go i H2 ∧ ∀ x H3, J.yld i H2 x H3 → ∀ τ : St, τ.length = n → g x (τ ++ fvs fv σ) H3 fun σ2 H4 => (∃ τ' : St, τ'.length = n ∧ σ2 = τ' ++ fvs fv σ) ∧
    tc σ2 H4 fun b H5 => if b = true then te σ2 H5 (fun y H6 => H6 p = some (.lst acc) ∧ ∃ m', m' < m ∧ W (i + 1) m' (acc ++ [y]) (upd H6 p (.lst (acc ++ [y])))) else ∃ m', m' < m ∧ W (i + 1) m' acc H5))
def tCompG (wi : TI) (n : Nat) (fv : List (Str × Nat)) (g : TG) (tc : TT) (te : TE) : TE := fun σ H Q => wi σ H fun J H1 => CompAtG J n fv g tc te σ H1 Q
section
variable {X : Cx} {scope : Scope} {cl : List (Str × Addr)} {xs : List Str} {fv : List (Str × Nat)} {elt iter tg : Expr} {ifs : List Expr} {pos : Pos} {te : TE} {tc : TT} {g : TG}
theorem blk_okG {pins : List (Addr × Obj)} {σ : St} {H : Hp} {s : Shared} {fp : List Addr} (C : CompM X scope cl xs fv) (I : Inv X pins σ H s) (hf : ∀ b ∈ fp, FpOk X pins H b) (ho : ∀ b ∈ fp, b < s.heap.objs.size) : (X.blk (xs ++ fv.map (·.1)) scope cl fp s H).Ok := by
  have hcl : ∀ y c, cl.lookup y = some c → X.env.cells.lookup y = some c := fun y c h => C.cells _ (lookup_mem h)
  have old : ∀ b ∈ fp, X.s₀.heap.objs.size ≤ b := fun b hb => by
    rcases (hf b hb).2.2.2.1 with z | z
    · rw [C.noex] at z
      cases z
    · exact z
  refine ⟨I.ok.mod, by show (relabel scope X.env).kind = _; exact C.kind, I.ok.glob, I.ok.blt, Nat.le_refl _, fun y z c h1 h2 => I.ok.inj y z c (hcl y c h1) (hcl z c h2), fun y hy => ?_, (fun y c h => by cases h), I.ok.hd, I.ok.frames, .inl rfl, fun b hb => ?_, fun b o e => I.bs b o e, Nat.le_trans I.ok.bsz I.sz, fun b o e hb => ?_, fun b hb hm => ?_, I.stack, I.stkFree⟩
  · have q := C.has
    rw [List.all_eq_true] at q
    have hm : ∃ k, (y, k) ∈ (relabel scope X.env).names ∧ (k = .cell ∨ k = .free) := by
      rcases hy with hy | hy
      · exact ⟨_, lookup_mem hy, .inl rfl⟩
      · exact ⟨_, lookup_mem hy, .inr rfl⟩
    obtain ⟨k, hk, hk2⟩ := hm
    have q2 := q _ hk
    have q3 : (cl.lookup y).isSome = true := by
      rcases hk2 with rfl | rfl
      · simpa using q2
      · simpa using q2
    exact Option.isSome_iff_exists.mp q3
  · obtain ⟨f0, f1, f2, f3, f4, f5⟩ := hf b hb
    refine ⟨?_, fun y c h => f4 y c (hcl y c h)⟩
    exact Nat.ne_of_lt (ho b hb)
  · have z := Heap.lt_size e
    have z2 := old b hb
    exact absurd (Nat.lt_of_lt_of_le z (Nat.le_trans I.ok.bsz z2)) (Nat.lt_irrefl _)
  · obtain ⟨f0, f1, f2, f3, f4, f5⟩ := hf b hb
    rcases List.mem_cons.mp (I.stkSub b hm) with z | z
    · exact f1 z
    · exact f2 z
/-- the block begins -/
theorem blk_invG {pins : List (Addr × Obj)} {σ : St} {H : Hp} {s s4 : Shared} {fp : List Addr} (C : CompM X scope cl xs fv) (I : Inv X pins σ H s) (hf : ∀ b ∈ fp, FpOk X pins H b) (ho : ∀ b ∈ fp, b < s.heap.objs.size)
    (hs : s4.os = s.os ∧ s4.gens = s.gens) (ns : s4.heap.Ns s.heap.objs.size fun _ => none) (kp : ∀ b o, s.heap.get? b = some o → s4.heap.get? b = some o) :
    Inv (X.blk (xs ++ fv.map (·.1)) scope cl fp s H) [] (List.replicate xs.length none ++ fvs fv σ) H s4 := by
  have hcl : ∀ y c, cl.lookup y = some c → X.env.cells.lookup y = some c := fun y c h => C.cells _ (lookup_mem h)
  refine ⟨blk_okG C I hf ho, hs.1, by rw [hs.2]; exact I.bare, Un.kept kp, ⟨_, ns, fun i y v e1 e2 e3 => ?_⟩, fun y c h => ?_, I.hok.fresh (Nat.le_refl _), fun y c h => I.freeC y c (hcl y c h), fun p hp => by simp at hp, I.hok.kept kp, by simp [fvs]⟩
  · by_cases hi : i < xs.length
    · rw [List.getElem?_append_left (by rw [List.length_replicate]; exact hi), List.getElem?_replicate] at e2
      simp [hi] at e2
    · obtain ⟨j, rfl⟩ : ∃ j, i = xs.length + j := ⟨i - xs.length, by omega⟩
      have e1' : (fv.map (·.1))[j]? = some y := by
        have z : (xs ++ fv.map (·.1))[xs.length + j]? = some y := e1
        rw [List.getElem?_append_right (by omega)] at z
        simpa using z
      have e2' : (fvs fv σ)[j]? = some (some v) := by
        rw [List.getElem?_append_right (by rw [List.length_replicate]; omega), List.length_replicate] at e2
        simpa using e2
      rw [List.getElem?_map] at e1'
      unfold fvs at e2'
      rw [List.getElem?_map] at e2'
      cases hq : fv[j]? with
      | none =>
        rw [hq] at e1'
        cases e1'
      | some q =>
        rw [hq] at e1' e2'
        have ey : q.1 = y := Option.some.inj e1'
        have ev : (σ[q.2]?).join = some v := Option.some.inj e2'
        have hm : q ∈ fv := List.mem_of_getElem? hq
        obtain ⟨s1, s2, s3, s4', s5⟩ := C.slot q hm
        have ev2 : σ[q.2]? = some (some v) := by
          cases hz : σ[q.2]? with
          | none =>
            rw [hz] at ev
            cases ev
          | some z =>
            rw [hz] at ev
            have ev' : z = some v := ev
            rw [ev']
        obtain ⟨m, hn, hl⟩ := I.loc
        obtain ⟨u, r, lk⟩ := hl q.2 q.1 v s1 ev2 s3
        obtain ⟨c, hc⟩ := Option.isSome_iff_exists.mp s4'
        refine ⟨u, r, .inr ⟨.inl (by rw [← ey]; exact s5), c, by rw [← ey]; exact hc, ?_⟩⟩
        rcases lk with ⟨k, _⟩ | ⟨_, c', hc', z⟩
        · rw [s2] at k
          cases k
        · rw [hcl _ _ hc] at hc'
          cases hc'
          obtain ⟨o, ho', hd⟩ := z
          exact ⟨o, kp _ _ ho', hd⟩
  · obtain ⟨v, o, ho', hd⟩ := I.cell y c (hcl y c h)
    exact ⟨v, o, kp _ _ ho', hd⟩
/-- the block, to its end -/
theorem blk_runG {pins : List (Addr × Obj)} {σ : St} {H2 : Hp} {s2 : Shared} {it : Addr} {fp : List Addr} {tn : Nat → Heap → Prop} {J : It} {RR : Value → Addr → Result → Shared → Prop} {E : Value → Shared → Prop} {Qf : V → Hp → Prop}
    (hcalm : X.calm = true) (C : CompM X scope cl xs fv) (I2 : Inv X pins σ H2 s2) (T : Turn X.prog X.w X.K tg J fp it tn) (st : tn 0 s2.heap) (f2 : ∀ b ∈ fp, FpOk X pins H2 b)
    (rd : CompAtG J xs.length fv g tc te σ H2 Qf)
    (hg : ∀ (s₀ : Shared) (H₀ : Hp), PG (X.blk (xs ++ fv.map (·.1)) scope cl fp s₀ H₀) tg g) (ht : ∀ (s₀ : Shared) (H₀ : Hp), PTs (X.blk (xs ++ fv.map (·.1)) scope cl fp s₀ H₀) ifs tc)
    (he : ∀ (s₀ : Shared) (H₀ : Hp), PE (X.blk (xs ++ fv.map (·.1)) scope cl fp s₀ H₀) elt te)
    (hRR : ∀ (p C : Addr) (H' : Hp) (s' : Shared), (∃ m, s'.heap.Ns C m) → C ≠ X.env.locals → H' C = none → X.s₀.heap.objs.size ≤ C → (∀ y c, X.env.cells.lookup y = some c → c ≠ C) → (∀ q ∈ X.pn ++ pins, q.1 ≠ C) → Inv X pins σ H' s' → Qf (.ref p) H' → RR (.ref p) C (.ok .next) s') :
    wpAny (model X.prog X.w) X.A (newList []) (fun acc s₃ => wpAny (model X.prog X.w) X.A (newFunctionEnv scope X.env.globals cl [] X.env.qual none .none (some X.env)) (fun cenv s₄ =>
      codeAny (model X.prog X.w) X.A (.compStart (.ListComp elt [⟨tg, iter, ifs, 0⟩] scope pos) 0 (.ref it) acc { cenv with scope := relabel scope X.env }) (RR acc cenv.locals) s₄) E s₃) E s2 := by
  refine wpAny_newObj_type ?_
  -- the new list
  have hfresh := I2.fresh
  have I3 : Inv X pins σ (upd H2 s2.heap.objs.size (.lst [])) { s2 with heap := s2.heap.push { cls := .type "list", data := .seq ([] : List Value).toArray } } :=
    I2.laid (t' := s2.toks) (fun b u q => Heap.get?_push_of_some _ q) (Nat.le_refl _) ⟨Nat.zero_le _, [], 0, .nil, Heap.get?_push_size _ rfl⟩
  generalize hs3 : ({ s2 with heap := s2.heap.push { cls := .type "list", data := .seq ([] : List Value).toArray } } : Shared) = s3 at I3 ⊢
  have hp3 : s2.heap.objs.size < s3.heap.objs.size := by rw [← hs3]; exact Nat.lt_of_lt_of_le (Nat.lt_succ_self _) (Nat.le_of_eq (Heap.size_push _ _).symm)
  have k23 : ∀ b o, s2.heap.get? b = some o → s3.heap.get? b = some o := fun b o e => by rw [← hs3]; exact Heap.get?_push_of_some _ e
  have fpo : ∀ b ∈ fp, b < s2.heap.objs.size := fun b hb => by
    obtain ⟨o, e, _⟩ := T.obj 0 _ st b hb
    exact Heap.lt_size e
  have f3 : ∀ b ∈ fp, FpOk X pins (upd H2 s2.heap.objs.size (.lst [])) b := fun b hb => ⟨by rw [upd_ne (Nat.ne_of_lt (fpo b hb))]; exact (f2 b hb).1, (f2 b hb).2⟩
  refine wpAny_newFunctionEnv C.cell (by intro y hy; simp at hy) (fun h1 hns1 hsb1 => ?_) C.kind
  have kp : ∀ b o, s3.heap.get? b = some o → h1.get? b = some o := fun b o e => (hsb1.2 b (Nat.ne_of_lt (Heap.lt_size e))).trans (Heap.get?_push_of_some _ e)
  have I4 := blk_invG (s4 := { s3 with heap := h1, toks := s3.toks + ([] : List (Str × Value)).length }) C I3 f3 (fun b hb => Nat.lt_trans (fpo b hb) hp3) ⟨rfl, rfl⟩ hns1 kp
  have st4 : tn 0 h1 := T.keep 0 _ _ st fun b _ o e => kp b o (k23 b o e)
  obtain ⟨W, ⟨m0, w0⟩, step⟩ := rd _ hfresh
  have loop : codeAny (model X.prog X.w) X.A (.compLoop (.ListComp elt [⟨tg, iter, ifs, 0⟩] scope pos) 0 (.ref it) (.ref s2.heap.objs.size) (compEnvC scope cl s3.heap.objs.size X.env)) (RR (.ref s2.heap.objs.size) s3.heap.objs.size)
      { s3 with heap := h1, toks := s3.toks + ([] : List (Str × Value)).length } := by
    refine compLoop_go (fun n s => ∃ i acc τ H', τ.length = xs.length ∧ Inv (X.blk (xs ++ fv.map (·.1)) scope cl fp s3 (upd H2 s2.heap.objs.size (.lst []))) [] (τ ++ fvs fv σ) H' s ∧ tn i s.heap ∧ (∀ b ∈ fp, H' b = none) ∧ W i n acc H') ?_ m0 ⟨0, [], List.replicate xs.length none, _, List.length_replicate, I4, st4, fun b hb => (f3 b hb).1, w0⟩
    rintro n s ⟨i, acc, τ, H', hτ, I', st', fr', w'⟩
    obtain ⟨hp, hlen, alt⟩ := step i n acc H' w'
    have fpk : ∀ {H5 : Hp}, (∀ b ∈ fp, H5 b = none) → ∀ b ∈ fp, FpOk (X.blk (xs ++ fv.map (·.1)) scope cl fp s3 (upd H2 s2.heap.objs.size (.lst []))) [] H5 b := fun h5 b hb =>
      ⟨h5 b hb, (I'.ok.exf b hb).1, I'.ok.exfs b hb, .inl hb, fun y c e => (I'.ok.exf b hb).2 y c e, fun q hq => by simp at hq⟩
    rcases alt with ⟨stop, qf⟩ | ⟨go, turn⟩
    · refine wpAny_mono (T.done (X.blk (xs ++ fv.map (·.1)) scope cl fp s3 (upd H2 s2.heap.objs.size (.lst []))) rfl rfl rfl hcalm i [] s _ H' (fun _ _ => False) I' (fpk fr') st' stop) (fun r s5 ⟨hr, I5⟩ => ?_) fun _ _ z => False.elim z
      subst hr
      refine hRR _ _ H' s5 (let ⟨m, hn, _⟩ := I5.loc; ⟨m, hn⟩) (Nat.ne_of_gt I3.lt) I5.free I3.sz (fun y c e => ?_) (fun q hq => ?_) ?_ qf
      · obtain ⟨v, z⟩ := I3.cell y c e
        exact Nat.ne_of_lt z.lt
      · exact Nat.ne_of_lt (Heap.lt_size (I3.pin q hq).1)
      · exact I3.call' (s' := s5) (ch := fp) I5.os I5.base I5.hok I5.bare fun b hb => ⟨(f2 b hb).2.2.2.1, (f2 b hb).2.1, (f2 b hb).2.2.2.2.1, (f2 b hb).2.2.2.2.2⟩
    · refine wpAny_mono (T.item (X.blk (xs ++ fv.map (·.1)) scope cl fp s3 (upd H2 s2.heap.objs.size (.lst []))) rfl rfl rfl hcalm i [] s _ H' (fun _ _ => False) I' (fpk fr') st' go) (fun r s5 ⟨u, hr, h5⟩ => ?_) fun _ _ z => False.elim z
      subst hr
      refine wpAny_mono h5 (fun _ s6 ⟨y, H6, I6, r6, y6, st6, fr6⟩ => ?_) fun _ _ z => False.elim z
      have I6' := I6.pinned (fpk fr6) (T.obj _ _ st6)
      have rt := turn y _ y6 τ hτ
      refine wpAny_mono (hg s3 _ _ s6 _ H6 y u _ I6' r6 rt) (fun _ s7 ⟨σ7, H7, I7, ⟨τ', hτ', e7⟩, q7⟩ => ?_) fun _ _ z => False.elim z
      subst e7
      refine wpAny_mono (ht s3 _ _ s7 _ _ _ I7 q7) (fun b s7b ⟨H7b, I7b, q7b⟩ => ?_) fun _ _ z => False.elim z
      have kp6 : ∀ {σ9 : St} {H9 : Hp} {s9 : Shared}, Inv (X.blk (xs ++ fv.map (·.1)) scope cl fp s3 (upd H2 s2.heap.objs.size (.lst []))) ([] ++ pinsAt fp s6.heap) σ9 H9 s9 → tn (i + 1) s9.heap ∧ ∀ b ∈ fp, H9 b = none := fun {σ9 H9 s9} I9 => by
        refine ⟨T.keep _ _ _ st6 fun b hb o e => (I9.pin (b, o) (List.mem_append_right _ (List.mem_append_right _ (mem_pinsAt hb e)))).1, fun b hb => ?_⟩
        obtain ⟨o, e, d⟩ := T.obj _ _ st6 b hb
        exact (I9.pin (b, o) (List.mem_append_right _ (List.mem_append_right _ (mem_pinsAt hb e)))).2.1
      cases b with
      | false =>
        obtain ⟨m', hm', w8⟩ := q7b
        exact ⟨m', hm', i + 1, acc, τ', _, hτ', I7b.unpinned, (kp6 I7b).1, (kp6 I7b).2, w8⟩
      | true =>
        refine wpAny_mono (he s3 _ _ s7b _ _ _ I7b q7b) (fun v8 s8 ⟨y8, H8, I8, r8, q8, m', hm', w8⟩ => ?_) fun _ _ z => False.elim z
        refine wpAny_mono (mt_append (X := X.blk (xs ++ fv.map (·.1)) scope cl fp s3 (upd H2 s2.heap.objs.size (.lst []))) _ s8 _ H8 (.ref s2.heap.objs.size) [y8] (.ref s2.heap.objs.size) [v8] (fun _ H9 => H9 = upd H8 s2.heap.objs.size (.lst (acc ++ [y8]))) I8 rfl (.cons r8 .nil) ⟨_, acc, y8, rfl, rfl, q8, hlen, rfl⟩) (fun _ s9 ⟨_, H9, I9, _, e9⟩ => ?_) fun _ _ z => False.elim z
        subst e9
        exact ⟨m', hm', i + 1, acc ++ [y8], τ', _, hτ', I9.unpinned, (kp6 I9).1, (kp6 I9).2, w8⟩
  exact codeAny_compStart_list loop (T.self _ 0 _ _ _ st4 loop)
/-- [elt for x in iter] -/
theorem pe_compG {wi : TI} (hcalm : X.calm = true) (C : CompM X scope cl xs fv) (hi : PI X tg iter wi) (hg : ∀ (fp : List Addr) (s₀ : Shared) (H₀ : Hp), PG (X.blk (xs ++ fv.map (·.1)) scope cl fp s₀ H₀) tg g) (ht : ∀ (fp : List Addr) (s₀ : Shared) (H₀ : Hp), PTs (X.blk (xs ++ fv.map (·.1)) scope cl fp s₀ H₀) ifs tc) (he : ∀ (fp : List Addr) (s₀ : Shared) (H₀ : Hp), PE (X.blk (xs ++ fv.map (·.1)) scope cl fp s₀ H₀) elt te)
    (hs : ∀ v, foldedSetIterable iter X.env v = pure v := by intro _; rfl) : PE X (.ListComp elt [⟨tg, iter, ifs, 0⟩] scope pos) (tCompG wi xs.length fv g tc te) := by
  intro pins s σ H Q I h
  rw [eval_ListComp]
  refine wpAny_comprehension_free (use := none) rfl hs C.clos C.kind C.names (wpAny_mono (hi pins s σ H _ I h) (fun v s1 h1 => wpAny_mono h1 (fun itv s2 h2 => ?_) fun _ _ z => z) fun _ _ z => z)
  obtain ⟨it, fp, tn, J, H2, rfl, I2, T, st2, f2, rd⟩ := h2
  refine blk_runG (Qf := Q) hcalm C I2 T st2 f2 rd (hg fp) (ht fp) (he fp) fun p D H' s' ns nL nH n0 nC nP I8 q => ?_
  obtain ⟨m, hn⟩ := ns
  exact ⟨m, hn, fun h'' sb => ⟨.ref p, H', I8.turned (t' := s'.toks) (fun b o hb e => (sb.2 b hb).trans e) nH nL (.inr n0) nC nP, rfl, q⟩⟩
end
/-- what a turn may do to a list of results: R of the turn's number and the result -/
theorem compG_R {J : It} {n k : Nat} {fv : List (Str × Nat)} {g : TG} {te : TE} {σ : St} {H1 : Hp} {Q : VK} (hlen : n < 1000) (R : Nat → V → Hp → Prop) (hR : ∀ i v H H', SameT H H' → R i v H → R i v H')
    (hst : ∀ H2, Same H1 H2 → J.stop n H2) (hgo : ∀ i H2, i < n → Same H1 H2 → J.go i H2)
    (hs : ∀ i x H2 H3 (τ : St) (Kc : VK), i < n → Same H1 H2 → J.yld i H2 x H3 → τ.length = k → (∀ y H4, Same H2 H4 → R i y H4 → Kc y H4) → g x (τ ++ fvs fv σ) H3 fun σ2 H4 => (∃ τ' : St, τ'.length = k ∧ σ2 = τ' ++ fvs fv σ) ∧ te σ2 H4 Kc)
    (hd : ∀ l ys H', H1 l = none → Same H1 H' → H' l = some (.lst ys) → ys.length = n → (∀ i y, ys[i]? = some y → R i y H') → Q (.ref l) H') :
    CompAtG J k fv g tYes te σ H1 Q := by
  intro l hl
  refine ⟨fun i m acc H2 => m = n - i ∧ i ≤ n ∧ acc.length = i ∧ Same H1 H2 ∧ H2 l = some (.lst acc) ∧ ∀ j y, acc[j]? = some y → R j y H2, ⟨n, rfl, Nat.zero_le _, rfl, Same.new hl, upd_same, fun j y h => by simp at h⟩, ?_⟩
  rintro i m acc H2 ⟨rfl, hi, e1, sm, e3, hr⟩
  refine ⟨e3, small1000 (by omega), ?_⟩
  by_cases hlt : i < n
  · refine .inr ⟨hgo i H2 hlt sm, fun x H3 y τ hτ => ?_⟩
    refine hs i x H2 H3 τ _ hlt sm y hτ fun y H4 s4 ry => ⟨s4 _ _ e3, n - (i + 1), by omega, rfl, hlt, by simp [e1], (sm.trans s4).upd hl, upd_same, fun j z hz => ?_⟩
    have t4 := SameT.upd (ys := acc ++ [y]) (s4 _ _ e3)
    rcases Nat.lt_trichotomy j acc.length with h | h | h
    · rw [List.getElem?_append_left h] at hz
      exact hR _ _ _ _ (s4.t.trans t4) (hr j z hz)
    · subst h
      rw [List.getElem?_append_right (Nat.le_refl _), Nat.sub_self] at hz
      cases hz
      rw [e1]
      exact hR _ _ _ _ t4 ry
    · rw [List.getElem?_eq_none (by simp; omega)] at hz
      cases hz
  · have e : i = n := by omega
    subst e
    exact .inl ⟨hst H2 sm, hd l acc H2 hl sm e3 e1 hr⟩
/-- [.. for a, b in xs]: a list of pairs -/
theorem comp_listG {K : PySem.W.Frag} {a : Addr} {xs : List V} {fv : List (Str × Nat)} {te : TE} {σ : St} {H1 : Hp} {Q : VK} {g : TG} {k : Nat} (q1 : SqL K H1 a xs) (hlen : xs.length < 1000) (R : Nat → V → Hp → Prop) (hR : ∀ i v H H', SameT H H' → R i v H → R i v H')
    (hs : ∀ i x H2 (τ : St) (Kc : VK), xs[i]? = some x → Same H1 H2 → τ.length = k → (∀ y H4, Same H2 H4 → R i y H4 → Kc y H4) → g x (τ ++ fvs fv σ) H2 fun σ2 H4 => (∃ τ' : St, τ'.length = k ∧ σ2 = τ' ++ fvs fv σ) ∧ te σ2 H4 Kc)
    (hd : ∀ l zs H', H1 l = none → Same H1 H' → H' l = some (.lst zs) → zs.length = xs.length → (∀ i y, zs[i]? = some y → R i y H') → Q (.ref l) H') :
    CompAtG (Itl K a) k fv g tYes te σ H1 Q := by
  refine compG_R (n := xs.length) hlen R hR (fun H2 s2 => ⟨xs, s2.seq q1, Nat.le_refl _⟩) (fun i H2 hi s2 => ⟨xs, xs[i], s2.seq q1, by simp [hi]⟩) ?_ hd
  intro i x H2 H3 τ Kc hi s2 y hτ kk
  obtain ⟨rfl, e⟩ := y
  exact hs i x _ τ Kc (e xs (s2.seq q1)) s2 hτ kk
end L2
/-! WHAT THE LAWS DRAW: pots, lines -/
namespace Dr
open PySem PySem.Spec L2 Mth Sp1 Sp2 Sp3 Sp7
end Dr
namespace Dr
open PySem PySem.Spec L2 Mth Sp1 Sp2 Sp3 Sp7
theorem at_crn {qs : Crn} {k : Int} (h0 : 0 ≤ k) (h1 : k < (qs.length : Int)) : ∃ q, qs[k.toNat]? = some q ∧ atI (qs.map fun (q : Addr × Int × Int) => V.ref q.1) k = some (.ref q.1) := by
  have hk : k.toNat < qs.length := by omega
  refine ⟨qs[k.toNat], List.getElem?_eq_getElem hk, ?_⟩
  have := atI_nat (xs := qs.map fun (q : Addr × Int × Int) => V.ref q.1) (j := k.toNat) (v := .ref qs[k.toNat].1) (by rw [List.getElem?_map, List.getElem?_eq_getElem hk]; rfl)
  rw [show ((k.toNat : Nat) : Int) = k by omega] at this
  exact this
end Dr
namespace Dr
open PySem
end Dr
/-! POINTS AND SQUARES AT FINER PLACES, AND THE NEAREST PLACE -/
namespace Sp11
open PySem PySem.Spec L2 Mth Sp1 Sp2
def spRatioN (C : Addr) : Sp := fun vs H Q E => ∃ (a b : Int) (n : Nat), vs = [.int a, .int b] ∧ (bits a ≤ n ∧ bits b ≤ n ∧ n ≤ 4500) ∧ (b = 0 → E (.ref C) none H) ∧
  (b ≠ 0 → ∀ (p : Addr) (t u : Int), Frac a b t u → bits t ≤ n → bits u ≤ n → H p = none → Q (.ref p) (upd H p (.tup [.int t, .int u])))
structure Fr2 (H : Hp) (p : Addr) (a b : Int) (n : Nat) : Prop where
  at_ : H p = some (.tup [.int a, .int b])
  low : Low a b
  ba : bits a ≤ n
  bb : bits b ≤ n
theorem Fr2.mono {H H' : Hp} {p : Addr} {a b : Int} {n : Nat} (f : Fr2 H p a b n) (s : Same H H') : Fr2 H' p a b n := ⟨s _ _ f.at_, f.low, f.ba, f.bb⟩
theorem Fr2.wide {H : Hp} {p : Addr} {a b : Int} {m n : Nat} (f : Fr2 H p a b m) (h : m ≤ n) : Fr2 H p a b n := ⟨f.at_, f.low, bits_le f.ba h, bits_le f.bb h⟩
theorem Fr2.th {H : Hp} {p : Addr} {a b : Int} {n : Nat} (f : Fr2 H p a b n) : Thing H (.ref p) := th_tup f.at_ fun v hv => by
  simp only [List.mem_cons, List.not_mem_nil, or_false] at hv
  rcases hv with rfl | rfl <;> exact ⟨_, .int _⟩
def spBin (num den : Int → Int → Int → Int → Int) : Sp := fun vs H Q _ => ∃ (p q : Addr) (a b c d : Int) (n : Nat), vs = [.ref p, .ref q] ∧ Fr2 H p a b n ∧ Fr2 H q c d n ∧ n ≤ 2200 ∧ den a b c d ≠ 0 ∧
  ∀ (r : Addr) (t u : Int) (H' : Hp), Frac (num a b c d) (den a b c d) t u → Fr2 H' r t u (2 * n + 1) → Same H H' → Q (.ref r) H'
/-- the number that number_at reckons, over the place's bottom -/
def numAt (x y t b : Int) : Int := x * b + (y - x) * (t % b)
def spNumAt : Sp := fun vs H Q _ => ∃ (x y : Int) (p : Addr) (t b : Int), vs = [.int x, .int y, .ref p] ∧ Fr2 H p t b 200 ∧ bits x ≤ 60 ∧ bits y ≤ 60 ∧
  ∀ (r : Addr) (u v : Int) (H' : Hp), Frac (numAt x y t b) b u v → Fr2 H' r u v 262 → Same H H' → Q (.ref r) H'
/-- the corners on both sides of the place t / b -/
def side0 (qs : List (Addr × Int × Int)) (t b : Int) : Int × Int := (qs.getD (t / b).toNat (0, 0, 0)).2
def side1 (qs : List (Addr × Int × Int)) (t b : Int) : Int × Int := (qs.getD (min ((t / b).toNat + 1) (qs.length - 1)) (0, 0, 0)).2
def ptX (qs : List (Addr × Int × Int)) (t b : Int) : Int := numAt (side0 qs t b).1 (side1 qs t b).1 t b
def ptY (qs : List (Addr × Int × Int)) (t b : Int) : Int := numAt (side0 qs t b).2 (side1 qs t b).2 t b
structure PtAt (H : Hp) (r : Addr) (X Y b : Int) (n : Nat) : Prop where
  ex : ∃ (rx ry : Addr) (u v c d : Int), H r = some (.tup [.ref rx, .ref ry]) ∧ Fr2 H rx u v n ∧ Fr2 H ry c d n ∧ Frac X b u v ∧ Frac Y b c d
theorem PtAt.mono {H H' : Hp} {r : Addr} {X Y b : Int} {n : Nat} (p : PtAt H r X Y b n) (s : Same H H') : PtAt H' r X Y b n := by
  obtain ⟨rx, ry, u, v, c, d, e, f, g, h, k⟩ := p.ex
  exact ⟨⟨rx, ry, u, v, c, d, s _ _ e, f.mono s, g.mono s, h, k⟩⟩
def spPoint (C : Addr) : Sp := fun vs H Q E => ∃ (l : Addr) (qs : List (Addr × Int × Int)) (x : V), vs = [.ref l, x] ∧ LineAt H l qs ∧ 1 ≤ qs.length ∧ qs.length ≤ 20 ∧ Thing H x ∧ (placeV ((qs.length : Int) - 1) H x = false → E (.ref C) none H) ∧
  (∀ (p : Addr) (t b : Int), x = .ref p → H p = some (.tup [.int t, .int b]) → Low t b → 0 ≤ t → t ≤ ((qs.length : Int) - 1) * b → bits t ≤ 200 ∧ bits b ≤ 200 ∧
    ∀ (r : Addr) (H' : Hp), PtAt H' r (ptX qs t b) (ptY qs t b) b 262 → Same H H' → Q (.ref r) H')
end Sp11
namespace Sp11
open PySem PySem.Spec L2 Mth Sp1 Sp2
/-- a point by its two fractions -/
structure PtF (H : Hp) (r : Addr) (u v c d : Int) (n : Nat) : Prop where
  ex : ∃ rx ry : Addr, H r = some (.tup [.ref rx, .ref ry]) ∧ Fr2 H rx u v n ∧ Fr2 H ry c d n
theorem PtF.mono {H H' : Hp} {r : Addr} {u v c d : Int} {n : Nat} (p : PtF H r u v c d n) (s : Same H H') : PtF H' r u v c d n := by
  obtain ⟨rx, ry, e, f, g⟩ := p.ex
  exact ⟨⟨rx, ry, s _ _ e, f.mono s, g.mono s⟩⟩
def spStep : Sp := fun vs H Q _ => ∃ (p q : Addr) (u v c d u' v' c' d' : Int), vs = [.ref p, .ref q] ∧ PtF H p u v c d 262 ∧ PtF H q u' v' c' d' 262 ∧
  ∀ (r : Addr) (a b e f : Int) (H' : Hp), Frac (u' * v - u * v') (v' * v) a b → Frac (c' * d - c * d') (d' * d) e f → PtF H' r a b e f 525 → Same H H' → Q (.ref r) H'
def spInner : Sp := fun vs H Q _ => ∃ (p q : Addr) (a b e f a' b' e' f' : Int), vs = [.ref p, .ref q] ∧ PtF H p a b e f 525 ∧ PtF H q a' b' e' f' 525 ∧
  ∀ (r : Addr) (m n m' n' s w : Int) (H' : Hp), Frac (a * a') (b * b') m n → Frac (e * e') (f * f') m' n' → Frac (m * n' + m' * n) (n * n') s w → Fr2 H' r s w 2103 → Same H H' → Q (.ref r) H'
def sqN (X Y b X' Y' b' : Int) : Int := (X' * b - X * b') * (X' * b - X * b') + (Y' * b - Y * b') * (Y' * b - Y * b')
def sqD (b b' : Int) : Int := (b * b') * (b * b')
def spSqB : Sp := fun vs H Q _ => ∃ (p q : Addr) (X Y b X' Y' b' : Int), vs = [.ref p, .ref q] ∧ PtAt H p X Y b 262 ∧ PtAt H q X' Y' b' 262 ∧ 0 < b ∧ 0 < b' ∧
  ∀ (r : Addr) (s w : Int) (H' : Hp), Frac (sqN X Y b X' Y' b') (sqD b b') s w → Fr2 H' r s w 2103 → Same H H' → Q (.ref r) H'
theorem diff_eq {X b X' b' u v u' v' a e : Int} (hv : v ≠ 0) (hv' : v' ≠ 0) (h1 : X * v = u * b) (h2 : X' * v' = u' * b') (h3 : (u' * v - u * v') * e = a * (v' * v)) : (X' * b - X * b') * e = a * (b * b') := by
  have z : (v * v') * ((X' * b - X * b') * e) = (v * v') * (a * (b * b')) := by
    have z1 : (v * v') * ((X' * b - X * b') * e) = (X' * v' * (b * v) - X * v * (b' * v')) * e := by grind
    rw [z1, h1, h2]
    have z2 : (u' * b' * (b * v) - u * b * (b' * v')) * e = b * b' * ((u' * v - u * v') * e) := by grind
    rw [z2, h3]
    grind
  exact Int.eq_of_mul_eq_mul_left (Int.mul_ne_zero hv hv') z
theorem sq_eq {D B a e m n : Int} (he : e ≠ 0) (h1 : D * e = a * B) (h2 : a * a * n = m * (e * e)) : D * D * n = m * (B * B) := by
  have z : (e * e) * (D * D * n) = (e * e) * (m * (B * B)) := by
    have z1 : (e * e) * (D * D * n) = (D * e) * (D * e) * n := by grind
    rw [z1, h1]
    have z2 : a * B * (a * B) * n = B * B * (a * a * n) := by grind
    rw [z2, h2]
    grind
  exact Int.eq_of_mul_eq_mul_left (Int.mul_ne_zero he he) z
theorem sum_eq {S T G m n m' n' s w : Int} (hn : n ≠ 0) (hn' : n' ≠ 0) (h1 : S * n = m * G) (h2 : T * n' = m' * G) (h3 : (m * n' + m' * n) * w = s * (n * n')) : (S + T) * w = s * G := by
  have z : (n * n') * ((S + T) * w) = (n * n') * (s * G) := by
    have z1 : (n * n') * ((S + T) * w) = (S * n * n' + T * n' * n) * w := by grind
    rw [z1, h1, h2]
    have z2 : (m * G * n' + m' * G * n) * w = G * ((m * n' + m' * n) * w) := by grind
    rw [z2, h3]
    grind
  exact Int.eq_of_mul_eq_mul_left (Int.mul_ne_zero hn hn') z
theorem sq_frac {X Y b X' Y' b' u v c d u' v' c' d' a e a' e' m n m' n' s w : Int} (f1 : Frac X b u v) (f2 : Frac Y b c d) (f3 : Frac X' b' u' v') (f4 : Frac Y' b' c' d') (g1 : Frac (u' * v - u * v') (v' * v) a e) (g2 : Frac (c' * d - c * d') (d' * d) a' e')
    (k1 : Frac (a * a) (e * e) m n) (k2 : Frac (a' * a') (e' * e') m' n') (k3 : Frac (m * n' + m' * n) (n * n') s w) : Frac (sqN X Y b X' Y' b') (sqD b b') s w := by
  refine ⟨k3.low, ?_⟩
  have p1 := f1.low.pos
  have p2 := f2.low.pos
  have p3 := f3.low.pos
  have p4 := f4.low.pos
  have p5 := g1.low.pos
  have p6 := g2.low.pos
  have p7 := k1.low.pos
  have p8 := k2.low.pos
  have q1 := diff_eq (by omega) (by omega) f1.eq f3.eq g1.eq
  have q2 := diff_eq (by omega) (by omega) f2.eq f4.eq g2.eq
  have q3 := sq_eq (by omega) q1 k1.eq
  have q4 := sq_eq (by omega) q2 k2.eq
  exact sum_eq (by omega) (by omega) q3 q4 k3.eq
/-- a place on a line whose last corner has the number n -/
structure Plc (H : Hp) (p : Addr) (t b n : Int) : Prop where
  at_ : H p = some (.tup [.int t, .int b])
  low : Low t b
  lo : 0 ≤ t
  hi : t ≤ n * b
  bt : bits t ≤ 200
  bb : bits b ≤ 200
theorem Plc.mono {H H' : Hp} {p : Addr} {t b n : Int} (f : Plc H p t b n) (s : Same H H') : Plc H' p t b n := ⟨s _ _ f.at_, f.low, f.lo, f.hi, f.bt, f.bb⟩
theorem Plc.th {H : Hp} {p : Addr} {t b n : Int} (f : Plc H p t b n) : Thing H (.ref p) := th_tup f.at_ fun v hv => by
  simp only [List.mem_cons, List.not_mem_nil, or_false] at hv
  rcases hv with rfl | rfl <;> exact ⟨_, .int _⟩
theorem Plc.place {H : Hp} {p : Addr} {t b n : Int} (f : Plc H p t b n) : placeV n H (.ref p) = true := placeV_of f.at_ f.low f.lo f.hi
theorem placeV_same {n : Int} {H H' : Hp} {x : V} {k : String} (kn : Kn H x k) (s : Same H H') : placeV n H' x = placeV n H x := by
  cases kn with
  | non => rfl
  | bl b => rfl
  | int i => rfl
  | str x => rfl
  | lst e => simp only [placeV, e, s _ _ e]
  | tup e => simp only [placeV, e, s _ _ e]
  | dict e => simp only [placeV, e, s _ _ e]
theorem Thing.mono {H H' : Hp} {x : V} (h : Thing H x) (s : Same H H') : Thing H' x := by
  obtain ⟨⟨t, k⟩, pt⟩ := h
  refine ⟨⟨t, k.mono s⟩, fun p xs e1 e2 y hy => ?_⟩
  subst e1
  have e3 : H p = some (.tup xs) := by
    cases k with
    | lst e => rw [s _ _ e] at e2; cases e2
    | tup e => rw [s _ _ e] at e2; cases e2; exact e
    | dict e => rw [s _ _ e] at e2; cases e2
  obtain ⟨t', k'⟩ := pt p xs rfl e3 y hy
  exact ⟨t', k'.mono s⟩
abbrev Crn := List (Addr × Int × Int)
def sqF (qs : Crn) (t b : Int) (qs' : Crn) (t' b' : Int) : Int := sqN (ptX qs t b) (ptY qs t b) b (ptX qs' t' b') (ptY qs' t' b') b'
def lst_ (qs : Crn) : Int := (qs.length : Int) - 1
/-- the law's own point -/
def spLPt : Sp := fun vs H Q _ => ∃ (l p : Addr) (qs : Crn) (t b : Int), vs = [.ref l, .ref p] ∧ LineAt H l qs ∧ (1 ≤ qs.length ∧ qs.length ≤ 20) ∧ Plc H p t b (lst_ qs) ∧
  ∀ (r : Addr) (H' : Hp), H' r = some (.tup [.int (ptX qs t b), .int (ptY qs t b), .int b]) → Same H H' → Q (.ref r) H'
def spLSq : Sp := fun vs H Q _ => ∃ (l p l' p' : Addr) (qs qs' : Crn) (t b t' b' : Int), vs = [.ref l, .ref p, .ref l', .ref p'] ∧ LineAt H l qs ∧ LineAt H l' qs' ∧ (1 ≤ qs.length ∧ qs.length ≤ 20) ∧ (1 ≤ qs'.length ∧ qs'.length ≤ 20) ∧ Plc H p t b (lst_ qs) ∧ Plc H p' t' b' (lst_ qs') ∧
  ∀ (r : Addr) (H' : Hp), H' r = some (.tup [.int (sqF qs t b qs' t' b'), .int (sqD b b')]) → Same H H' → Q (.ref r) H'
def spLSame : Sp := fun vs H Q _ => ∃ (p q : Addr) (s w m n : Int), vs = [.ref p, .ref q] ∧ H p = some (.tup [.int s, .int w]) ∧ H q = some (.tup [.int m, .int n]) ∧ (bits s ≤ 5000 ∧ bits w ≤ 5000 ∧ bits m ≤ 5000 ∧ bits n ≤ 5000) ∧ Q (.bl (decide (s * n = m * w))) H
/-! sizes and equal points -/
theorem crn_bits {H : Hp} {l : Addr} {qs : Crn} (L : LineAt H l qs) (j : Nat) : bits (qs.getD j (0, 0, 0)).2.1 ≤ 50 ∧ bits (qs.getD j (0, 0, 0)).2.2 ≤ 50 := by
  rw [List.getD_eq_getElem?_getD]
  by_cases h : j < qs.length
  · rw [List.getElem?_eq_getElem h]
    exact (L.crn _ (List.getElem_mem h)).2
  · rw [List.getElem?_eq_none (by omega)]
    exact ⟨by decide, by decide⟩
theorem num_bits {x y t b : Int} (hb : 0 < b) (bx : bits x ≤ 50) (by' : bits y ≤ 50) (bb : bits b ≤ 200) : bits (numAt x y t b) ≤ 262 := by
  have br : bits (t % b) ≤ 200 := bits_range (Int.emod_nonneg _ (by omega)) (Int.le_of_lt (Int.emod_lt_of_pos _ hb)) bb
  exact bits_le (bits_add (n := 251) (bits_le (bits_mul bx bb) (by decide)) (bits_mul (bits_sub by' bx) br)) (by decide)
theorem pt_bits {H : Hp} {l : Addr} {qs : Crn} {t b : Int} (L : LineAt H l qs) (hb : 0 < b) (bb : bits b ≤ 200) : bits (ptX qs t b) ≤ 262 ∧ bits (ptY qs t b) ≤ 262 :=
  ⟨num_bits hb (crn_bits L _).1 (crn_bits L _).1 bb, num_bits hb (crn_bits L _).2 (crn_bits L _).2 bb⟩
/-- the law's number: the last stretch where the place is the last corner -/
theorem lnum {t b : Int} {n : Nat} (hb : 0 < b) (h0 : 0 ≤ t) (hn : 1 ≤ n) (h1 : t ≤ ((n : Int) - 1) * b) :
    ∃ k : Nat, k < n ∧ (if (if (n : Int) - 2 > 0 then (n : Int) - 2 else 0) < t / b then (if (n : Int) - 2 > 0 then (n : Int) - 2 else 0) else t / b) = (k : Int) ∧
      ((k = (t / b).toNat ∧ t - (k : Int) * b = t % b) ∨ (k + 1 = (t / b).toNat ∧ k + 1 = n - 1 ∧ t - (k : Int) * b = b ∧ t % b = 0)) := by
  have q0 : 0 ≤ t / b := Int.ediv_nonneg h0 (by omega)
  have q1 : t / b ≤ (n : Int) - 1 := Int.ediv_le_of_le_mul hb h1
  have e := Int.emod_add_mul_ediv t b
  have e' : t = t % b + t / b * b := by rw [Int.mul_comm (t / b) b]; omega
  by_cases hk : t / b ≤ (if (n : Int) - 2 > 0 then (n : Int) - 2 else 0)
  · refine ⟨(t / b).toNat, by omega, ?_, .inl ⟨rfl, ?_⟩⟩
    · rw [if_neg (by omega)]
      omega
    · have z : (((t / b).toNat : Nat) : Int) = t / b := by omega
      rw [z]
      omega
  · have hn2 : (n : Int) - 2 > 0 ∨ n = 1 ∨ n = 2 := by omega
    have hz : t / b = (n : Int) - 1 ∧ 2 ≤ n ∧ (if (n : Int) - 2 > 0 then (n : Int) - 2 else 0) = (n : Int) - 2 := by
      by_cases hh : (n : Int) - 2 > 0
      · rw [if_pos hh] at hk ⊢
        omega
      · rw [if_neg hh] at hk ⊢
        omega
    refine ⟨n - 2, by omega, ?_, .inr ⟨by omega, by omega, ?_, ?_⟩⟩
    · rw [hz.2.2, if_pos (by omega)]
      omega
    · have z : ((n - 2 : Nat) : Int) = t / b - 1 := by omega
      have z2 : t % b = 0 := by
        have p0 := Int.emod_nonneg t (show b ≠ 0 by omega)
        rw [hz.1] at e'
        omega
      rw [z, Int.sub_mul, Int.one_mul]
      omega
    · have p0 := Int.emod_nonneg t (show b ≠ 0 by omega)
      rw [hz.1] at e'
      omega
/-- the law's point is the program's -/
theorem lpt {f : Addr × Int × Int → Int} {qs : Crn} {t b : Int} {k : Nat} (hk : (k = (t / b).toNat ∧ t - (k : Int) * b = t % b) ∨ (k + 1 = (t / b).toNat ∧ k + 1 = qs.length - 1 ∧ t - (k : Int) * b = b ∧ t % b = 0)) :
    f (qs.getD k (0, 0, 0)) * (b - (t - (k : Int) * b)) + f (qs.getD (min (k + 1) (qs.length - 1)) (0, 0, 0)) * (t - (k : Int) * b) =
      numAt (f (qs.getD (t / b).toNat (0, 0, 0))) (f (qs.getD (min ((t / b).toNat + 1) (qs.length - 1)) (0, 0, 0))) t b := by
  unfold numAt
  rcases hk with ⟨rfl, e⟩ | ⟨e1, e2, e3, e4⟩
  · rw [e]
    generalize f (qs.getD (t / b).toNat (0, 0, 0)) = u
    generalize f (qs.getD (min ((t / b).toNat + 1) (qs.length - 1)) (0, 0, 0)) = v
    generalize t % b = r
    rw [Int.mul_sub, Int.sub_mul]
    omega
  · have m : min (k + 1) (qs.length - 1) = (t / b).toNat := by omega
    rw [e3, e4, m]
    simp
end Sp11
namespace Sp11
open PySem PySem.Spec L2 Mth Sp1 Sp2
/-- the number c of the corner j -/
def cr (c : Int × Int → Int) (qs : Crn) (j : Nat) : Int := c (qs.getD j (0, 0, 0)).2
def ptC (c : Int × Int → Int) (qs : Crn) (t b : Int) : Int := numAt (c (side0 qs t b)) (c (side1 qs t b)) t b
theorem pt_on {c : Int × Int → Int} {qs : Crn} {t b : Int} {k : Nat} (hb : 0 < b) (hk : k + 1 < qs.length) (h1 : (k : Int) * b ≤ t) (h2 : t ≤ ((k : Int) + 1) * b) :
    ptC c qs t b = cr c qs k * b + (cr c qs (k + 1) - cr c qs k) * (t - (k : Int) * b) := by
  have e0 := Int.emod_add_mul_ediv t b
  rw [Int.mul_comm] at e0
  have r0 := Int.emod_nonneg t (show b ≠ 0 by omega)
  have r1 := Int.emod_lt_of_pos t hb
  unfold ptC Sp11.numAt side0 side1
  by_cases hlt : t < ((k : Int) + 1) * b
  · have ek : t / b = (k : Int) := by
      refine Int.le_antisymm ?_ (fl_ge hb h1)
      have h3 : t / b < (k : Int) + 1 := Int.ediv_lt_of_lt_mul hb hlt
      omega
    have er : t % b = t - (k : Int) * b := by rw [ek] at e0; omega
    rw [ek, er, Int.toNat_natCast, Nat.min_eq_left (by omega)]
    rfl
  · have et : t = ((k : Int) + 1) * b := by omega
    have ek : t / b = (k : Int) + 1 := by rw [et]; exact Int.mul_ediv_cancel _ (by omega)
    have er : t % b = 0 := by rw [et]; exact Int.mul_emod_left _ _
    rw [ek, er, show ((k : Int) + 1).toNat = k + 1 by omega, Int.mul_zero, Int.add_zero]
    have e2 : t - (k : Int) * b = b := by rw [et, Int.add_mul, Int.one_mul]; omega
    rw [e2]
    show cr c qs (k + 1) * b = _
    generalize cr c qs (k + 1) = x
    generalize cr c qs k = y
    rw [Int.sub_mul]
    omega
/-! ### fractions as rational numbers -/
def rq (a b : Int) : Rat := (a : Rat) / (b : Rat)
theorem cz {a : Int} (h : a ≠ 0) : (a : Rat) ≠ 0 := fun z => h (Rat.intCast_eq_zero_iff.mp z)
theorem rq_of {m n u v : Int} (f : Frac m n u v) (hn : n ≠ 0) : rq u v = rq m n := by
  have h1 : (m : Rat) * (v : Rat) = (u : Rat) * (n : Rat) := by rw [← Rat.intCast_mul, ← Rat.intCast_mul, f.eq]
  have h2 := cz hn
  have h3 := cz (show v ≠ 0 by have := f.low.pos; omega)
  unfold rq
  grind
theorem rq_eq {u v m n : Int} (hv : v ≠ 0) (hn : n ≠ 0) (h : rq u v = rq m n) : u * n = m * v := by
  have h2 := cz hn
  have h3 := cz hv
  unfold rq at h
  have h1 : (u : Rat) * (n : Rat) = (m : Rat) * (v : Rat) := by grind
  rw [← Rat.intCast_mul, ← Rat.intCast_mul] at h1
  exact Rat.intCast_inj.mp h1
theorem rq_sub {a b c d : Int} (hb : b ≠ 0) (hd : d ≠ 0) : rq (a * d - c * b) (b * d) = rq a b - rq c d := by
  have := cz hb
  have := cz hd
  unfold rq
  rw [Rat.intCast_sub, Rat.intCast_mul, Rat.intCast_mul, Rat.intCast_mul]
  grind
theorem rq_add {a b c d : Int} (hb : b ≠ 0) (hd : d ≠ 0) : rq (a * d + c * b) (b * d) = rq a b + rq c d := by
  have := cz hb
  have := cz hd
  unfold rq
  rw [Rat.intCast_add, Rat.intCast_mul, Rat.intCast_mul, Rat.intCast_mul]
  grind
theorem rq_mul {a b c d : Int} : rq (a * c) (b * d) = rq a b * rq c d := by
  unfold rq
  rw [Rat.intCast_mul, Rat.intCast_mul]
  grind
theorem rq_div {a b c d : Int} : rq (a * d) (b * c) = rq a b / rq c d := by
  unfold rq
  rw [Rat.intCast_mul, Rat.intCast_mul]
  grind
theorem f_sub {a b c d s w : Int} (hb : b ≠ 0) (hd : d ≠ 0) (f : Frac (a * d - c * b) (b * d) s w) : rq s w = rq a b - rq c d := by
  rw [rq_of f (Int.mul_ne_zero hb hd), rq_sub hb hd]
theorem f_add {a b c d s w : Int} (hb : b ≠ 0) (hd : d ≠ 0) (f : Frac (a * d + c * b) (b * d) s w) : rq s w = rq a b + rq c d := by
  rw [rq_of f (Int.mul_ne_zero hb hd), rq_add hb hd]
theorem f_mul {a b c d s w : Int} (hb : b ≠ 0) (hd : d ≠ 0) (f : Frac (a * c) (b * d) s w) : rq s w = rq a b * rq c d := by
  rw [rq_of f (Int.mul_ne_zero hb hd), rq_mul]
theorem f_div {a b c d s w : Int} (hb : b ≠ 0) (hc : c ≠ 0) (f : Frac (a * d) (b * c) s w) : rq s w = rq a b / rq c d := by
  rw [rq_of f (Int.mul_ne_zero hb hc), rq_div]
theorem nzl {a b : Int} (h : Low a b) : b ≠ 0 := by have := h.pos; omega
theorem frac_bits {m n u v : Int} {i j : Nat} (hn : 0 < n) (f : Frac m n u v) (hm : bits m ≤ i) (hj : bits n ≤ j) : bits u ≤ i ∧ bits v ≤ j := by
  have hg := gcd_pos (a := m) (b := n) (by omega)
  obtain ⟨e1, e2⟩ := frac_unique (by omega) f (frac_pos hn)
  subst e1 e2
  exact ⟨bits_ediv hg hm, bits_ediv hg hj⟩
/-- the part at which the way from (X1, Y1) / b1 to (X2, Y2) / b2 is nearest to (X, Y) / b -/
def nM (X Y b X1 Y1 b1 X2 Y2 b2 : Int) : Int := ((X2 * b1 - X1 * b2) * (X * b1 - X1 * b) + (Y2 * b1 - Y1 * b2) * (Y * b1 - Y1 * b)) * b2
def nN (b X1 Y1 b1 X2 Y2 b2 : Int) : Int := b * ((X2 * b1 - X1 * b2) * (X2 * b1 - X1 * b2) + (Y2 * b1 - Y1 * b2) * (Y2 * b1 - Y1 * b2))
theorem rat_near {x y z X1 Y1 z1 X2 Y2 z2 : Rat} (hz : z ≠ 0) (h1 : z1 ≠ 0) (h2 : z2 ≠ 0) (hN : z * ((X2 * z1 - X1 * z2) * (X2 * z1 - X1 * z2) + (Y2 * z1 - Y1 * z2) * (Y2 * z1 - Y1 * z2)) ≠ 0) :
    ((x / z - X1 / z1) * (X2 / z2 - X1 / z1) + (y / z - Y1 / z1) * (Y2 / z2 - Y1 / z1)) / ((X2 / z2 - X1 / z1) * (X2 / z2 - X1 / z1) + (Y2 / z2 - Y1 / z1) * (Y2 / z2 - Y1 / z1)) =
      (((X2 * z1 - X1 * z2) * (x * z1 - X1 * z) + (Y2 * z1 - Y1 * z2) * (y * z1 - Y1 * z)) * z2) / (z * ((X2 * z1 - X1 * z2) * (X2 * z1 - X1 * z2) + (Y2 * z1 - Y1 * z2) * (Y2 * z1 - Y1 * z2))) := by
  have k1 : x = x / z * z := by grind
  have k2 : y = y / z * z := by grind
  have k3 : X1 = X1 / z1 * z1 := by grind
  have k4 : Y1 = Y1 / z1 * z1 := by grind
  have k5 : X2 = X2 / z2 * z2 := by grind
  have k6 : Y2 = Y2 / z2 * z2 := by grind
  generalize x / z = p at *
  generalize y / z = q at *
  generalize X1 / z1 = a at *
  generalize Y1 / z1 = a' at *
  generalize X2 / z2 = c at *
  generalize Y2 / z2 = c' at *
  subst k1 k2 k3 k4 k5 k6
  have m0 : ∀ {u v : Rat}, u ≠ 0 → v ≠ 0 → u * v ≠ 0 := fun hu hv z => by
    rcases Rat.mul_eq_zero.mp z with z | z
    · exact hu z
    · exact hv z
  have hK : z * (z1 * z1) * (z2 * z2) ≠ 0 := m0 (m0 hz (m0 h1 h1)) (m0 h2 h2)
  have e1 : ((c * z2 * z1 - a * z1 * z2) * (p * z * z1 - a * z1 * z) + (c' * z2 * z1 - a' * z1 * z2) * (q * z * z1 - a' * z1 * z)) * z2 = (z * (z1 * z1) * (z2 * z2)) * ((p - a) * (c - a) + (q - a') * (c' - a')) := by grind
  have e2 : z * ((c * z2 * z1 - a * z1 * z2) * (c * z2 * z1 - a * z1 * z2) + (c' * z2 * z1 - a' * z1 * z2) * (c' * z2 * z1 - a' * z1 * z2)) = (z * (z1 * z1) * (z2 * z2)) * ((c - a) * (c - a) + (c' - a') * (c' - a')) := by grind
  rw [e2] at hN
  rw [e1, e2]
  generalize (p - a) * (c - a) + (q - a') * (c' - a') = T at *
  generalize (c - a) * (c - a) + (c' - a') * (c' - a') = S at *
  generalize z * (z1 * z1) * (z2 * z2) = k at *
  have hS : S ≠ 0 := fun z => hN (by rw [z, Rat.mul_zero])
  grind
theorem near_eq {X Y b X1 Y1 b1 X2 Y2 b2 u v c d u1 v1 c1 d1 u2 v2 c2 d2 a e a' e' g h g' h' m n m' n' i j m2 n2 m2' n2' i2 j2 s w : Int} (hb : b ≠ 0) (hb1 : b1 ≠ 0) (hb2 : b2 ≠ 0)
    (f1 : Frac X b u v) (f2 : Frac Y b c d) (f3 : Frac X1 b1 u1 v1) (f4 : Frac Y1 b1 c1 d1) (f5 : Frac X2 b2 u2 v2) (f6 : Frac Y2 b2 c2 d2)
    (g1 : Frac (u2 * v1 - u1 * v2) (v2 * v1) a e) (g2 : Frac (c2 * d1 - c1 * d2) (d2 * d1) a' e') (g3 : Frac (u * v1 - u1 * v) (v * v1) g h) (g4 : Frac (c * d1 - c1 * d) (d * d1) g' h')
    (k1 : Frac (g * a) (h * e) m n) (k2 : Frac (g' * a') (h' * e') m' n') (k3 : Frac (m * n' + m' * n) (n * n') i j) (l1 : Frac (a * a) (e * e) m2 n2) (l2 : Frac (a' * a') (e' * e') m2' n2') (l3 : Frac (m2 * n2' + m2' * n2) (n2 * n2') i2 j2)
    (hi : i2 ≠ 0) (fin : Frac (i * j2) (j * i2) s w) (hN : nN b X1 Y1 b1 X2 Y2 b2 ≠ 0) : s * nN b X1 Y1 b1 X2 Y2 b2 = nM X Y b X1 Y1 b1 X2 Y2 b2 * w := by
  refine rq_eq (nzl fin.low) hN ?_
  have q1 := rq_of f1 hb
  have q2 := rq_of f2 hb
  have q3 := rq_of f3 hb1
  have q4 := rq_of f4 hb1
  have q5 := rq_of f5 hb2
  have q6 := rq_of f6 hb2
  have r1 := f_sub (nzl f5.low) (nzl f3.low) g1
  have r2 := f_sub (nzl f6.low) (nzl f4.low) g2
  have r3 := f_sub (nzl f1.low) (nzl f3.low) g3
  have r4 := f_sub (nzl f2.low) (nzl f4.low) g4
  have s1 := f_mul (nzl g3.low) (nzl g1.low) k1
  have s2 := f_mul (nzl g4.low) (nzl g2.low) k2
  have s3 := f_add (nzl k1.low) (nzl k2.low) k3
  have t1 := f_mul (nzl g1.low) (nzl g1.low) l1
  have t2 := f_mul (nzl g2.low) (nzl g2.low) l2
  have t3 := f_add (nzl l1.low) (nzl l2.low) l3
  have w1 := f_div (nzl k3.low) hi fin
  rw [w1, s3, t3, s1, s2, t1, t2, r1, r2, r3, r4, q1, q2, q3, q4, q5, q6]
  have hN' := cz hN
  unfold nN at hN'
  unfold rq nM nN
  simp only [Rat.intCast_mul, Rat.intCast_add, Rat.intCast_sub] at hN' ⊢
  exact rat_near (cz hb) (cz hb1) (cz hb2) hN'
/-- the square of a way that is no point is above 0 -/
theorem near_pos {X1 Y1 b1 X2 Y2 b2 u1 v1 c1 d1 u2 v2 c2 d2 a e a' e' m2 n2 m2' n2' i2 j2 : Int} (hb1 : 0 < b1) (hb2 : 0 < b2) (f3 : Frac X1 b1 u1 v1) (f4 : Frac Y1 b1 c1 d1) (f5 : Frac X2 b2 u2 v2) (f6 : Frac Y2 b2 c2 d2)
    (g1 : Frac (u2 * v1 - u1 * v2) (v2 * v1) a e) (g2 : Frac (c2 * d1 - c1 * d2) (d2 * d1) a' e') (l1 : Frac (a * a) (e * e) m2 n2) (l2 : Frac (a' * a') (e' * e') m2' n2') (l3 : Frac (m2 * n2' + m2' * n2) (n2 * n2') i2 j2)
    (hS : 0 < (X2 * b1 - X1 * b2) * (X2 * b1 - X1 * b2) + (Y2 * b1 - Y1 * b2) * (Y2 * b1 - Y1 * b2)) : 0 < i2 := by
  have f := sq_frac f3 f4 f5 f6 g1 g2 l1 l2 l3
  have e := f.eq
  unfold sqN at e
  have hj := f.low.pos
  have hd : 0 < sqD b1 b2 := Int.mul_pos (Int.mul_pos hb1 hb2) (Int.mul_pos hb1 hb2)
  have h : 0 < i2 * sqD b1 b2 := by rw [← e]; exact Int.mul_pos hS (by omega)
  exact Int.pos_of_mul_pos_left h hd
/-! ### the nearest place of a part of a stretch -/
def cX (qs : Crn) (k : Nat) : Int := (qs.getD k (0, 0, 0)).2.1
def cY (qs : Crn) (k : Nat) : Int := (qs.getD k (0, 0, 0)).2.2
def dL (dx dy : Int) : Int := dx * dx + dy * dy
def dA (X Y b bx by_ dx dy : Int) : Int := (X - bx * b) * dx + (Y - by_ * b) * dy
structure Str_ (n k : Nat) (l1 l2 h1 h2 : Int) : Prop where
  kn : k + 1 < n
  lo : (k : Int) * l2 ≤ l1
  lt : l1 * h2 < h1 * l2
  hi : h1 ≤ ((k : Int) + 1) * h2
def Cl (L al b lu l2 hu h2 Tu B : Int) : Prop := (Tu = lu ∧ B = l2 ∧ (L = 0 ∨ al * l2 < lu * (L * b))) ∨ (Tu = hu ∧ B = h2 ∧ L ≠ 0 ∧ ¬ al * l2 < lu * (L * b) ∧ hu * (L * b) < al * h2) ∨
  (L ≠ 0 ∧ ¬ al * l2 < lu * (L * b) ∧ ¬ hu * (L * b) < al * h2 ∧ Tu * (L * b) = al * B)
def kL (qs : Crn) (k : Nat) : Int := dL (cX qs (k + 1) - cX qs k) (cY qs (k + 1) - cY qs k)
def kA (X Y b : Int) (qs : Crn) (k : Nat) : Int := dA X Y b (cX qs k) (cY qs k) (cX qs (k + 1) - cX qs k) (cY qs (k + 1) - cY qs k)
def LPc (X Y b : Int) (qs : Crn) (l1 l2 h1 h2 T B : Int) : Prop := (l1 = h1 ∧ l2 = h2 ∧ T = l1 ∧ B = l2) ∨
  ∃ k : Nat, Str_ qs.length k l1 l2 h1 h2 ∧ Cl (kL qs k) (kA X Y b qs k) b (l1 - (k : Int) * l2) l2 (h1 - (k : Int) * h2) h2 (T - (k : Int) * B) B
def InS (n : Nat) (l1 l2 h1 h2 : Int) : Prop := (l1 = h1 ∧ l2 = h2) ∨ ∃ k : Nat, Str_ n k l1 l2 h1 h2
theorem Str_.fl {n k : Nat} {l1 l2 h1 h2 : Int} (h : Str_ n k l1 l2 h1 h2) (hl : 0 < l2) (hh : 0 < h2) : l1 / l2 = (k : Int) := by
  refine Int.le_antisymm ?_ (fl_ge hl h.lo)
  have h1 : l1 < ((k : Int) + 1) * l2 := by
    have a : l1 * h2 < ((k : Int) + 1) * l2 * h2 := by
      have := Int.mul_le_mul_of_nonneg_right h.hi (show 0 ≤ l2 by omega)
      have := h.lt
      grind
    exact Int.lt_of_mul_lt_mul_right a (by omega)
  have h3 := Int.ediv_lt_of_lt_mul hl h1
  omega
theorem ptX_on {qs : Crn} {t b : Int} {k : Nat} (hb : 0 < b) (hk : k + 1 < qs.length) (h1 : (k : Int) * b ≤ t) (h2 : t ≤ ((k : Int) + 1) * b) : ptX qs t b = cX qs k * b + (cX qs (k + 1) - cX qs k) * (t - (k : Int) * b) := pt_on (c := fun z => z.1) hb hk h1 h2
theorem ptY_on {qs : Crn} {t b : Int} {k : Nat} (hb : 0 < b) (hk : k + 1 < qs.length) (h1 : (k : Int) * b ≤ t) (h2 : t ≤ ((k : Int) + 1) * b) : ptY qs t b = cY qs k * b + (cY qs (k + 1) - cY qs k) * (t - (k : Int) * b) := pt_on (c := fun z => z.2) hb hk h1 h2
theorem nM_on {X Y b bx by_ dx dy lu l2 hu h2 : Int} : nM X Y b (bx * l2 + dx * lu) (by_ * l2 + dy * lu) l2 (bx * h2 + dx * hu) (by_ * h2 + dy * hu) h2 = (hu * l2 - lu * h2) * h2 * (l2 * dA X Y b bx by_ dx dy - lu * (dL dx dy * b)) := by
  unfold nM dA dL
  grind
theorem nN_on {b bx by_ dx dy lu l2 hu h2 : Int} : nN b (bx * l2 + dx * lu) (by_ * l2 + dy * lu) l2 (bx * h2 + dx * hu) (by_ * h2 + dy * hu) h2 = b * ((hu * l2 - lu * h2) * (hu * l2 - lu * h2) * dL dx dy) := by
  unfold nN dL
  grind
theorem pl_eq {l1 l2 h1 h2 s w a e m n T B : Int} (hl : l2 ≠ 0) (hh : h2 ≠ 0) (hw : w ≠ 0) (f1 : Frac (h1 * l2 - l1 * h2) (h2 * l2) a e) (f2 : Frac (s * a) (w * e) m n) (f3 : Frac (l1 * n + m * l2) (l2 * n) T B) : rq T B = rq l1 l2 + rq s w * (rq h1 h2 - rq l1 l2) := by
  rw [f_add hl (nzl f2.low) f3, f_mul hw (nzl f1.low) f2, f_sub hh hl f1]
theorem rq01 : rq 0 1 = 0 := by decide +kernel
theorem rq11 : rq 1 1 = 1 := by decide +kernel
theorem pl_lo {l1 l2 h1 h2 a e m n T B : Int} (Ll : Low l1 l2) (hh : h2 ≠ 0) (f1 : Frac (h1 * l2 - l1 * h2) (h2 * l2) a e) (f2 : Frac (0 * a) (1 * e) m n) (f3 : Frac (l1 * n + m * l2) (l2 * n) T B) : T = l1 ∧ B = l2 := by
  have e := pl_eq (nzl Ll) hh (by decide) f1 f2 f3
  rw [rq01, Rat.zero_mul, Rat.add_zero] at e
  exact low_unique f3.low Ll (rq_eq (nzl f3.low) (nzl Ll) e)
theorem pl_hi {l1 l2 h1 h2 a e m n T B : Int} (hl : l2 ≠ 0) (Lh : Low h1 h2) (f1 : Frac (h1 * l2 - l1 * h2) (h2 * l2) a e) (f2 : Frac (1 * a) (1 * e) m n) (f3 : Frac (l1 * n + m * l2) (l2 * n) T B) : T = h1 ∧ B = h2 := by
  have e := pl_eq hl (nzl Lh) (by decide) f1 f2 f3
  rw [rq11, Rat.one_mul, show rq l1 l2 + (rq h1 h2 - rq l1 l2) = rq h1 h2 by grind] at e
  exact low_unique f3.low Lh (rq_eq (nzl f3.low) (nzl Lh) e)
theorem pl_mid {l1 l2 h1 h2 s w a e m n T B k L al b : Int} (hl : 0 < l2) (hh : 0 < h2) (hw : w ≠ 0) (hL : 0 < L) (hb : 0 < b) (hd : 0 < h1 * l2 - l1 * h2) (f1 : Frac (h1 * l2 - l1 * h2) (h2 * l2) a e) (f2 : Frac (s * a) (w * e) m n) (f3 : Frac (l1 * n + m * l2) (l2 * n) T B)
    (hs : s * (b * ((h1 * l2 - l1 * h2) * (h1 * l2 - l1 * h2) * L)) = (h1 * l2 - l1 * h2) * h2 * (l2 * al - (l1 - k * l2) * (L * b)) * w) : (T - k * B) * (L * b) = al * B := by
  have e := pl_eq (by omega) (by omega) hw f1 f2 f3
  have hB := nzl f3.low
  have hBq := cz hB
  have q1 := cz (show l2 ≠ 0 by omega)
  have q2 := cz (show h2 ≠ 0 by omega)
  have q3 := cz hw
  have q4 := cz (show L ≠ 0 by omega)
  have q5 := cz (show b ≠ 0 by omega)
  have q6 := cz (show h1 * l2 - l1 * h2 ≠ 0 by omega)
  have e2 : rq h1 h2 - rq l1 l2 = ((h1 * l2 - l1 * h2 : Int) : Rat) * ((h2 : Rat)⁻¹ * (l2 : Rat)⁻¹) := by
    unfold rq
    rw [Rat.intCast_sub, Rat.intCast_mul, Rat.intCast_mul]
    grind
  rw [e2] at e
  generalize h1 * l2 - l1 * h2 = D at *
  have hs' : (s : Rat) * (b * (D * D * L)) = D * h2 * (l2 * al - (l1 - k * l2) * (L * b)) * w := by
    have := congrArg (fun z : Int => (z : Rat)) hs
    simpa only [Rat.intCast_mul, Rat.intCast_sub] using this
  have e3 : rq s w * D = h2 * (l2 * al - (l1 - k * l2) * (L * b)) * ((L : Rat)⁻¹ * (b : Rat)⁻¹) := by
    unfold rq
    grind
  have e4 : rq T B = k + al * ((L : Rat)⁻¹ * (b : Rat)⁻¹) := by
    rw [e, show rq s w * (D * ((h2 : Rat)⁻¹ * (l2 : Rat)⁻¹)) = (rq s w * D) * ((h2 : Rat)⁻¹ * (l2 : Rat)⁻¹) by grind, e3]
    unfold rq
    grind
  have e5 : (T - k * B) * ((L : Rat) * b) = al * (B : Rat) := by
    unfold rq at e4
    grind
  have e6 : (((T - k * B) * (L * b) : Int) : Rat) = ((al * B : Int) : Rat) := by
    simp only [Rat.intCast_mul, Rat.intCast_sub]
    exact e5
  exact Rat.intCast_inj.mp e6
theorem sqS (X Y b bx by_ dx dy u B : Int) : sqN X Y b (bx * B + dx * u) (by_ * B + dy * u) B = B * B * ((X - bx * b) * (X - bx * b) + (Y - by_ * b) * (Y - by_ * b)) - 2 * B * u * b * dA X Y b bx by_ dx dy + u * u * b * b * dL dx dy := by
  unfold sqN dA dL
  grind
theorem le_prod {D E : Int} (h : (0 ≤ D ∧ 0 ≤ E) ∨ (D ≤ 0 ∧ E ≤ 0)) : 0 ≤ D * E := by
  rcases h with ⟨h1, h2⟩ | ⟨h1, h2⟩
  · exact Int.mul_nonneg h1 h2
  · have := Int.mul_nonneg (show 0 ≤ -D by omega) (show 0 ≤ -E by omega)
    rwa [Int.neg_mul_neg] at this
/-- no place of the part has a lesser square -/
theorem cl_min {L al b lu l2 hu h2 u B um Bm : Int} (hb : 0 < b) (hl : 0 < l2) (hh : 0 < h2) (hB : 0 < B) (hm : 0 < Bm) (hL : 0 ≤ L) (zL : L = 0 → al = 0) (h : Cl L al b lu l2 hu h2 u B) (m1 : lu * Bm ≤ um * l2) (m2 : um * h2 ≤ hu * Bm) :
    0 ≤ (B * um - Bm * u) * (b * L * (B * um + Bm * u) - 2 * B * Bm * al) := by
  have zero : L = 0 → 0 ≤ (B * um - Bm * u) * (b * L * (B * um + Bm * u) - 2 * B * Bm * al) := fun z => by
    rw [zL z, z]
    simp
  have bL : 0 ≤ b * L := Int.mul_nonneg (by omega) hL
  rcases h with ⟨rfl, rfl, h | h⟩ | ⟨rfl, rfl, h0, _, h⟩ | ⟨h0, _, _, h⟩
  · exact zero h
  · refine le_prod (.inl ⟨by have := Int.mul_comm u Bm; have := Int.mul_comm um B; omega, ?_⟩)
    have a1 := Int.mul_le_mul_of_nonneg_left (Int.le_of_lt h) (show 0 ≤ Bm by omega)
    have a2 := Int.mul_le_mul_of_nonneg_left m1 bL
    grind
  · refine le_prod (.inr ⟨by have := Int.mul_comm u Bm; have := Int.mul_comm um B; omega, ?_⟩)
    have a1 := Int.mul_le_mul_of_nonneg_left (Int.le_of_lt h) (show 0 ≤ Bm by omega)
    have a2 := Int.mul_le_mul_of_nonneg_left m2 bL
    grind
  · have hLb : 0 < L * b := Int.mul_pos (by omega) hb
    have e : (L * b) * ((B * um - Bm * u) * (b * L * (B * um + Bm * u) - 2 * B * Bm * al)) = (B * (um * (L * b) - Bm * al)) * (B * (um * (L * b) - Bm * al)) := by
      have e1 : (B * um - Bm * u) * (L * b) = B * um * (L * b) - Bm * (u * (L * b)) := by grind
      have e2 : b * L * (B * um + Bm * u) - 2 * B * Bm * al = B * um * (L * b) + Bm * (u * (L * b)) - 2 * B * Bm * al := by grind
      rw [e2, show (L * b) * ((B * um - Bm * u) * (B * um * (L * b) + Bm * (u * (L * b)) - 2 * B * Bm * al)) = ((B * um - Bm * u) * (L * b)) * (B * um * (L * b) + Bm * (u * (L * b)) - 2 * B * Bm * al) by grind, e1, h]
      grind
    have : 0 ≤ (L * b) * ((B * um - Bm * u) * (b * L * (B * um + Bm * u) - 2 * B * Bm * al)) := by rw [e]; exact le_prod (by omega)
    exact Int.nonneg_of_mul_nonneg_right this hLb
theorem kL_nn (qs : Crn) (k : Nat) : 0 ≤ kL qs k := by
  unfold kL dL
  have h1 : ∀ x : Int, 0 ≤ x * x := fun x => le_prod (by omega)
  have := h1 (cX qs (k + 1) - cX qs k)
  have := h1 (cY qs (k + 1) - cY qs k)
  omega
theorem sq_zero {x y : Int} (h : x * x + y * y = 0) : x = 0 ∧ y = 0 := by
  have h1 : ∀ x : Int, 0 ≤ x * x := fun x => le_prod (by omega)
  have a := h1 x
  have b := h1 y
  constructor
  · have : x * x = 0 := by omega
    rcases Int.mul_eq_zero.mp this with z | z <;> exact z
  · have : y * y = 0 := by omega
    rcases Int.mul_eq_zero.mp this with z | z <;> exact z
theorem kA_zero {X Y b : Int} {qs : Crn} {k : Nat} (h : kL qs k = 0) : kA X Y b qs k = 0 := by
  obtain ⟨h1, h2⟩ := sq_zero (h : (cX qs (k + 1) - cX qs k) * (cX qs (k + 1) - cX qs k) + (cY qs (k + 1) - cY qs k) * (cY qs (k + 1) - cY qs k) = 0)
  unfold kA dA
  rw [h1, h2]
  simp
theorem eq_min {N D s w : Int} (e : N * w = s * D) : ¬ N * w < s * D := by omega
theorem min_ok {qs qs' : Crn} {t b l1 l2 h1 h2 T B m1 m2 s w : Int} (hb : 0 < b) (Ll : Low l1 l2) (Lh : Low h1 h2) (hB : Low T B) (hm : Low m1 m2) (h : LPc (ptX qs t b) (ptY qs t b) b qs' l1 l2 h1 h2 T B) (a1 : l1 * m2 ≤ m1 * l2) (a2 : m1 * h2 ≤ h1 * m2) (f : Frac (sqF qs t b qs' T B) (sqD b B) s w)
    (t0 : l1 * B ≤ T * l2) (t1 : T * h2 ≤ h1 * B) : ¬ sqF qs t b qs' m1 m2 * w < s * sqD b m2 := by
  have hB := hB.pos
  have hl := Ll.pos
  have hh := Lh.pos
  rcases h with ⟨rfl, rfl, rfl, rfl⟩ | ⟨k, st, cl⟩
  · obtain ⟨rfl, rfl⟩ := low_unique hm Ll (by omega)
    exact eq_min f.eq
  · have hm := hm.pos
    have i1 : ∀ {u v : Int}, 0 < v → l1 * v ≤ u * l2 → (k : Int) * v ≤ u := fun {u v} hv z => by
      have z1 := Int.mul_le_mul_of_nonneg_right st.lo (show 0 ≤ v by omega)
      have : (k : Int) * v * l2 ≤ u * l2 := by grind
      exact Int.le_of_mul_le_mul_right this (by omega)
    have i2 : ∀ {u v : Int}, 0 < v → u * h2 ≤ h1 * v → u ≤ ((k : Int) + 1) * v := fun {u v} hv z => by
      have z1 := Int.mul_le_mul_of_nonneg_right st.hi (show 0 ≤ v by omega)
      have : u * h2 ≤ ((k : Int) + 1) * v * h2 := by grind
      exact Int.le_of_mul_le_mul_right this (by omega)
    have e := f.eq
    have hw := f.low.pos
    unfold sqF at e ⊢
    rw [ptX_on (by omega) st.kn (i1 (by omega) t0) (i2 (by omega) t1), ptY_on (by omega) st.kn (i1 (by omega) t0) (i2 (by omega) t1), sqS] at e
    rw [ptX_on (by omega) st.kn (i1 (by omega) a1) (i2 (by omega) a2), ptY_on (by omega) st.kn (i1 (by omega) a1) (i2 (by omega) a2), sqS]
    have z := cl_min (um := m1 - (k : Int) * m2) (Bm := m2) hb (by omega) (by omega) (by omega) (by omega) (kL_nn qs' k) kA_zero cl (by grind) (by grind)
    change _ * w = _ at e
    unfold kA kL at z
    generalize dA (ptX qs t b) (ptY qs t b) b (cX qs' k) (cY qs' k) (cX qs' (k + 1) - cX qs' k) (cY qs' (k + 1) - cY qs' k) = al at *
    generalize dL (cX qs' (k + 1) - cX qs' k) (cY qs' (k + 1) - cY qs' k) = L at *
    generalize (ptX qs t b - cX qs' k * b) * (ptX qs t b - cX qs' k * b) + (ptY qs t b - cY qs' k * b) * (ptY qs t b - cY qs' k * b) = G at *
    generalize T - (k : Int) * B = u at *
    generalize m1 - (k : Int) * m2 = um at *
    unfold sqD at e ⊢
    intro c
    have z2 : 0 ≤ b * ((B * um - m2 * u) * (b * L * (B * um + m2 * u) - 2 * B * m2 * al)) := Int.mul_nonneg (by omega) z
    have z3 : (B * B * G - 2 * B * u * b * al + u * u * b * b * L) * (m2 * m2) ≤ (m2 * m2 * G - 2 * m2 * um * b * al + um * um * b * b * L) * (B * B) := by grind
    generalize B * B * G - 2 * B * u * b * al + u * u * b * b * L = NT at *
    generalize m2 * m2 * G - 2 * m2 * um * b * al + um * um * b * b * L = Nm at *
    have hp : 0 < b * b := Int.mul_pos hb hb
    have c2 := Int.mul_lt_mul_of_pos_right c (Int.mul_pos hp (Int.mul_pos (show 0 < B by omega) (show 0 < B by omega)))
    have z4 := Int.mul_le_mul_of_nonneg_right z3 (show 0 ≤ b * b * w from Int.mul_nonneg (by omega) (by omega))
    have e2 : s * (b * m2 * (b * m2)) * (b * b * (B * B)) = NT * w * (m2 * m2) * (b * b) := by rw [e]; grind
    have e3 : Nm * w * (b * b * (B * B)) = Nm * (B * B) * (b * b * w) := by grind
    have e4 : NT * (m2 * m2) * (b * b * w) = NT * w * (m2 * m2) * (b * b) := by grind
    omega
def NP (X Y b X1 Y1 b1 X2 Y2 b2 s w : Int) : Prop := ((X1 * b2 = X2 * b1 ∧ Y1 * b2 = Y2 * b1) ∧ s = 0 ∧ w = 1) ∨
  (0 < nN b X1 Y1 b1 X2 Y2 b2 ∧ ((nM X Y b X1 Y1 b1 X2 Y2 b2 < 0 ∧ s = 0 ∧ w = 1) ∨ (nN b X1 Y1 b1 X2 Y2 b2 < nM X Y b X1 Y1 b1 X2 Y2 b2 ∧ s = 1 ∧ w = 1) ∨
    (0 ≤ nM X Y b X1 Y1 b1 X2 Y2 b2 ∧ nM X Y b X1 Y1 b1 X2 Y2 b2 ≤ nN b X1 Y1 b1 X2 Y2 b2 ∧ 0 < w ∧ s * nN b X1 Y1 b1 X2 Y2 b2 = nM X Y b X1 Y1 b1 X2 Y2 b2 * w)))
theorem np_lt {s w M N : Int} (hw : 0 < w) (hN : 0 < N) (e : s * N = M * w) : (s < 0 ↔ M < 0) ∧ (w < s ↔ N < M) := by
  have sg : ∀ {a c : Int}, 0 < c → (a < 0 ↔ a * c < 0) := fun {a c} hc => ⟨fun h => Int.mul_neg_of_neg_of_pos h hc, fun h => by
    by_cases z : a < 0
    · exact z
    · exact absurd h (by have := Int.mul_nonneg (show 0 ≤ a by omega) (show 0 ≤ c by omega); omega)⟩
  constructor
  · rw [sg hN, e, ← sg hw]
  · have h1 : w < s ↔ (w - s) * N < 0 := by rw [← sg hN]; omega
    have h2 : N < M ↔ (N - M) * w < 0 := by rw [← sg hw]; omega
    rw [h1, h2, Int.sub_mul, Int.sub_mul, e, Int.mul_comm w N]
theorem least_ok {X Y b : Int} {qs : Crn} {l1 l2 h1 h2 s w a e m n T B : Int} (hb : 0 < b) (Ll : Low l1 l2) (Lh : Low h1 h2) (ins : InS qs.length l1 l2 h1 h2) (np : NP X Y b (ptX qs l1 l2) (ptY qs l1 l2) l2 (ptX qs h1 h2) (ptY qs h1 h2) h2 s w)
    (f1 : Frac (h1 * l2 - l1 * h2) (h2 * l2) a e) (f2 : Frac (s * a) (w * e) m n) (f3 : Frac (l1 * n + m * l2) (l2 * n) T B) : LPc X Y b qs l1 l2 h1 h2 T B ∧ l1 * B ≤ T * l2 ∧ T * h2 ≤ h1 * B := by
  have hl := Ll.pos
  have hh := Lh.pos
  rcases ins with ⟨rfl, rfl⟩ | ⟨k, st⟩
  · rcases np with ⟨_, rfl, rfl⟩ | ⟨h, _⟩
    · obtain ⟨rfl, rfl⟩ := pl_lo Ll (nzl Ll) f1 f2 f3
      exact ⟨.inl ⟨rfl, rfl, rfl, rfl⟩, Int.le_refl _, Int.le_refl _⟩
    · unfold nN at h
      simp at h
  have hlt := st.lt
  have up : l1 ≤ ((k : Int) + 1) * l2 := by
    have a : l1 * h2 ≤ ((k : Int) + 1) * l2 * h2 := by
      have := Int.mul_le_mul_of_nonneg_right st.hi (show 0 ≤ l2 by omega)
      grind
    exact Int.le_of_mul_le_mul_right a (by omega)
  have lo : (k : Int) * h2 ≤ h1 := by
    have a : (k : Int) * h2 * l2 ≤ h1 * l2 := by
      have := Int.mul_le_mul_of_nonneg_right st.lo (show 0 ≤ h2 by omega)
      grind
    exact Int.le_of_mul_le_mul_right a (by omega)
  unfold NP at np
  rw [ptX_on (by omega) st.kn st.lo up, ptY_on (by omega) st.kn st.lo up, ptX_on (by omega) st.kn lo st.hi, ptY_on (by omega) st.kn lo st.hi, nN_on, nM_on] at np
  have eD : (h1 - (k : Int) * h2) * l2 - (l1 - (k : Int) * l2) * h2 = h1 * l2 - l1 * h2 := by grind
  rw [eD] at np
  have hD : 0 < h1 * l2 - l1 * h2 := by omega
  have lowC : (kL qs k = 0 ∨ kA X Y b qs k * l2 < (l1 - (k : Int) * l2) * (kL qs k * b)) → s = 0 → w = 1 → LPc X Y b qs l1 l2 h1 h2 T B ∧ l1 * B ≤ T * l2 ∧ T * h2 ≤ h1 * B := fun c es ew => by
    subst es ew
    obtain ⟨rfl, rfl⟩ := pl_lo Ll (nzl Lh) f1 f2 f3
    exact ⟨.inr ⟨k, st, .inl ⟨rfl, rfl, c⟩⟩, Int.le_refl _, by omega⟩
  rcases np with ⟨⟨e1, e2⟩, es, ew⟩ | ⟨hN, np⟩
  · refine lowC (.inl ?_) es ew
    have g : ∀ {x d : Int}, (x * l2 + d * (l1 - (k : Int) * l2)) * h2 = (x * h2 + d * (h1 - (k : Int) * h2)) * l2 → d = 0 := fun {x d} h => by
      have : d * (h1 * l2 - l1 * h2) = 0 := by grind
      rcases Int.mul_eq_zero.mp this with z | z
      · exact z
      · omega
    unfold kL dL
    rw [g e1, g e2]
    rfl
  have hL : 0 < kL qs k := by
    have h := kL_nn qs k
    by_cases z : kL qs k = 0
    · unfold kL at z
      rw [z] at hN
      simp at hN
    · omega
  have hal : kA X Y b qs k = dA X Y b (cX qs k) (cY qs k) (cX qs (k + 1) - cX qs k) (cY qs (k + 1) - cY qs k) := rfl
  have hkl : kL qs k = dL (cX qs (k + 1) - cX qs k) (cY qs (k + 1) - cY qs k) := rfl
  rw [← hal, ← hkl] at np
  have sgn : ∀ {D x : Int}, 0 < D → (D * x < 0 ↔ x < 0) := fun {D x} hd => ⟨fun h => by
    by_cases z : x < 0
    · exact z
    · exact absurd h (by have := Int.mul_nonneg (show 0 ≤ D by omega) (show 0 ≤ x by omega); omega), fun h => Int.mul_neg_of_pos_of_neg hd h⟩
  have hDh : 0 < (h1 * l2 - l1 * h2) * h2 := Int.mul_pos hD (by omega)
  have hDl : 0 < (h1 * l2 - l1 * h2) * l2 := Int.mul_pos hD (by omega)
  have cM : (h1 * l2 - l1 * h2) * h2 * (l2 * kA X Y b qs k - (l1 - (k : Int) * l2) * (kL qs k * b)) < 0 ↔ kA X Y b qs k * l2 < (l1 - (k : Int) * l2) * (kL qs k * b) := by
    rw [sgn hDh, Int.mul_comm l2]
    omega
  have cN : b * ((h1 * l2 - l1 * h2) * (h1 * l2 - l1 * h2) * kL qs k) < (h1 * l2 - l1 * h2) * h2 * (l2 * kA X Y b qs k - (l1 - (k : Int) * l2) * (kL qs k * b)) ↔ (h1 - (k : Int) * h2) * (kL qs k * b) < kA X Y b qs k * h2 := by
    have z : b * ((h1 * l2 - l1 * h2) * (h1 * l2 - l1 * h2) * kL qs k) - (h1 * l2 - l1 * h2) * h2 * (l2 * kA X Y b qs k - (l1 - (k : Int) * l2) * (kL qs k * b)) = (h1 * l2 - l1 * h2) * l2 * ((h1 - (k : Int) * h2) * (kL qs k * b) - kA X Y b qs k * h2) := by grind
    have y := sgn (x := (h1 - (k : Int) * h2) * (kL qs k * b) - kA X Y b qs k * h2) hDl
    rw [← z] at y
    omega
  have nneg : ∀ {x : Int}, 0 ≤ x → ¬ x < 0 := fun h => by omega
  rcases np with ⟨h, es, ew⟩ | ⟨h, es, ew⟩ | ⟨h, h', hw, es⟩
  · exact lowC (.inr (cM.mp h)) es ew
  · subst es ew
    obtain ⟨rfl, rfl⟩ := pl_hi (nzl Ll) Lh f1 f2 f3
    refine ⟨.inr ⟨k, st, .inr (.inl ⟨rfl, rfl, by omega, fun c => ?_, cN.mp h⟩)⟩, by omega, Int.le_refl _⟩
    have := cM.mpr c
    have hN' : 0 < b * ((T * l2 - l1 * B) * (T * l2 - l1 * B) * kL qs k) := hN
    omega
  · have c1 : ¬ kA X Y b qs k * l2 < (l1 - (k : Int) * l2) * (kL qs k * b) := fun c => nneg h (cM.mpr c)
    have c2 : ¬ (h1 - (k : Int) * h2) * (kL qs k * b) < kA X Y b qs k * h2 := fun c => by have := cN.mpr c; omega
    have e := pl_mid (k := (k : Int)) (L := kL qs k) (al := kA X Y b qs k) (b := b) (by omega) (by omega) (by omega) hL hb hD f1 f2 f3 es
    have hB := f3.low.pos
    have hLb : 0 < kL qs k * b := Int.mul_pos hL hb
    refine ⟨.inr ⟨k, st, .inr (.inr ⟨by omega, c1, c2, e⟩)⟩, ?_, ?_⟩
    · have z := Int.mul_le_mul_of_nonneg_right (Int.not_lt.mp c1) (show 0 ≤ B by omega)
      have r1 : (T - (k : Int) * B) * l2 * (kL qs k * b) = kA X Y b qs k * l2 * B := by rw [Int.mul_right_comm, e, Int.mul_right_comm]
      have r2 : (l1 - (k : Int) * l2) * B * (kL qs k * b) = (l1 - (k : Int) * l2) * (kL qs k * b) * B := Int.mul_right_comm _ _ _
      have z2 : (l1 - (k : Int) * l2) * B * (kL qs k * b) ≤ (T - (k : Int) * B) * l2 * (kL qs k * b) := by omega
      have := Int.le_of_mul_le_mul_right z2 hLb
      grind
    · have z := Int.mul_le_mul_of_nonneg_right (Int.not_lt.mp c2) (show 0 ≤ B by omega)
      have r1 : (T - (k : Int) * B) * h2 * (kL qs k * b) = kA X Y b qs k * h2 * B := by rw [Int.mul_right_comm, e, Int.mul_right_comm]
      have r2 : (h1 - (k : Int) * h2) * B * (kL qs k * b) = (h1 - (k : Int) * h2) * (kL qs k * b) * B := Int.mul_right_comm _ _ _
      have z2 : (T - (k : Int) * B) * h2 * (kL qs k * b) ≤ (h1 - (k : Int) * h2) * B * (kL qs k * b) := by omega
      have := Int.le_of_mul_le_mul_right z2 hLb
      grind
theorem kL_bits {H : Hp} {l : Addr} {qs : Crn} (L : LineAt H l qs) (k : Nat) : bits (kL qs k) ≤ 103 := by
  have h1 := crn_bits L k
  have h2 := crn_bits L (k + 1)
  have a := bits_sub h2.1 h1.1
  have b := bits_sub h2.2 h1.2
  exact bits_le (bits_add (bits_mul a a) (bits_mul b b)) (by decide)
theorem lp_bits {H : Hp} {l : Addr} {qs : Crn} {X Y b l1 l2 h1 h2 T B : Int} (L : LineAt H l qs) (h20 : qs.length ≤ 20) (hb : 0 < b) (bb : bits b ≤ 60) (lw : Low T B) (h : LPc X Y b qs l1 l2 h1 h2 T B) (b2 : bits l2 ≤ 60) (b4 : bits h2 ≤ 60) (t0 : 0 ≤ T) (t1 : T ≤ lst_ qs * B) : bits T ≤ 200 ∧ bits B ≤ 163 := by
  have hB := lw.pos
  have b3 : bits B ≤ 163 := by
    rcases h with ⟨_, _, rfl, rfl⟩ | ⟨k, st, ⟨_, rfl, _⟩ | ⟨_, rfl, _⟩ | ⟨h0, _, _, e⟩⟩
    · exact bits_le b2 (by decide)
    · exact bits_le b2 (by decide)
    · exact bits_le b4 (by decide)
    · have hL := kL_nn qs k
      have hLb : 0 < kL qs k * b := Int.mul_pos (by omega) hb
      have f : Frac (kA X Y b qs k + (k : Int) * (kL qs k * b)) (kL qs k * b) T B := ⟨lw, by grind⟩
      exact (frac_bits hLb f (Nat.le_refl _) (bits_mul (kL_bits L k) bb)).2
  refine ⟨?_, b3⟩
  have : lst_ qs * B ≤ 20 * B := Int.mul_le_mul_of_nonneg_right (by unfold lst_; omega) (by omega)
  exact bits_le (bits_range t0 (Int.le_trans t1 this) (bits_mul (show bits 20 ≤ 5 by decide) b3)) (by decide)
theorem part_bits {H : Hp} {l : Addr} {qs : Crn} {X Y b l1 l2 h1 h2 s w : Int} {k : Nat} (L : LineAt H l qs) (hb : 0 < b) (hl : 0 < l2) (hh : 0 < h2) (bb : bits b ≤ 60) (b2 : bits l2 ≤ 60) (b4 : bits h2 ≤ 60) (st : Str_ qs.length k l1 l2 h1 h2) (bX : bits X ≤ 262 ∧ bits Y ≤ 262) (lw : Low s w)
    (hN : 0 < nN b (ptX qs l1 l2) (ptY qs l1 l2) l2 (ptX qs h1 h2) (ptY qs h1 h2) h2) (e : s * nN b (ptX qs l1 l2) (ptY qs l1 l2) l2 (ptX qs h1 h2) (ptY qs h1 h2) h2 = nM X Y b (ptX qs l1 l2) (ptY qs l1 l2) l2 (ptX qs h1 h2) (ptY qs h1 h2) h2 * w) : bits s ≤ 900 ∧ bits w ≤ 900 := by
  have hlt := st.lt
  have p1 := pt_bits (t := l1) L hl (bits_le b2 (by decide))
  have p2 := pt_bits (t := h1) L hh (bits_le b4 (by decide))
  have q : ∀ {x : Int} {z : Int}, 0 < z → bits z ≤ 60 → ∀ {x : Int}, bits x ≤ 262 → bits (x * z) ≤ 322 := fun _ hz _ hx => bits_mul hx hz
  have u1 := bits_sub (bits_mul p2.1 b2) (bits_mul p1.1 b4)
  have u2 := bits_sub (bits_mul p2.2 b2) (bits_mul p1.2 b4)
  have v1 := bits_sub (bits_mul bX.1 b2) (bits_mul p1.1 bb)
  have v2 := bits_sub (bits_mul bX.2 b2) (bits_mul p1.2 bb)
  have bM : bits (nM X Y b (ptX qs l1 l2) (ptY qs l1 l2) l2 (ptX qs h1 h2) (ptY qs h1 h2) h2) ≤ 900 := bits_le (bits_mul (bits_add (bits_mul u1 v1) (bits_mul u2 v2)) b4) (by decide)
  have bN : bits (nN b (ptX qs l1 l2) (ptY qs l1 l2) l2 (ptX qs h1 h2) (ptY qs h1 h2) h2) ≤ 900 := bits_le (bits_mul bb (bits_add (bits_mul u1 u1) (bits_mul u2 u2))) (by decide)
  exact frac_bits hN ⟨lw, e.symm⟩ bM bN
end Sp11
/-! ### the head: the top's run, looked at once by the kernel -/
namespace Hd
open PySem PySem.W PySem.Spec L2
def live (o : Obj) : Bool := match o.data with
  | .freed => false
  | _ => true
def nums : Nat → List Obj → Frag
  | _, [] => []
  | n, a :: r => bif live a then (n, a) :: nums (n + 1) r else nums (n + 1) r
theorem nums_at : ∀ (l : List Obj) (n a : Nat) (o : Obj), (nums n l).lookup a = some o → n ≤ a ∧ l[a - n]? = some o ∧ live o = true
  | [], _, _, _, e => by cases e
  | x :: r, n, a, o, e => by
    have up : (nums (n + 1) r).lookup a = some o → n ≤ a ∧ (x :: r)[a - n]? = some o ∧ live o = true := fun e => by
      obtain ⟨h1, h2, h3⟩ := nums_at r (n + 1) a o e
      refine ⟨by omega, ?_, h3⟩
      have : a - n = (a - (n + 1)) + 1 := by omega
      rw [this]
      exact h2
    unfold nums at e
    cases hl : live x with
    | false =>
      rw [hl] at e
      exact up e
    | true =>
      rw [hl, cond_true, List.lookup_cons] at e
      cases hb : a == n with
      | true =>
        rw [hb] at e
        have hb := beq_iff_eq.mp hb
        subst hb
        cases e
        exact ⟨Nat.le_refl _, by simp, hl⟩
      | false =>
        rw [hb] at e
        exact up e
/-- all of a heap as a part written out -/
def frag (h : Heap) : Frag := nums 0 h.objs.toList
theorem frag_in (h : Heap) : (frag h).In h := by
  intro a o e
  obtain ⟨_, q, hl⟩ := nums_at _ _ _ _ e
  have q : h.objs[a]? = some o := by simpa using q
  unfold Heap.get?
  rw [q]
  obtain ⟨c, d, dt, sl⟩ := o
  cases dt <;> first | rfl | cases hl
/-- a def as it stands under its name -/
def fnFact (K : Frag) (x : Str) : Option (Arguments × List Stmt × Scope × Value) := match nsIn K mainGlobals x with
  | some (some (.ref f)) => (match K.lookup f with
    | some ⟨_, _, .func fd, _⟩ => (match fd.body, fd.closure with
      | .stmts b, [] => bif (fd.name == x && (fd.qualname == x && (Nat.beq fd.globals mainGlobals && (Nat.beq fd.builtins builtinsNs && codeIn K fd.code x)))) then some (fd.params, b, fd.scope, fd.defaults) else none
      | _, _ => none)
    | _ => none)
  | _ => none
theorem fnFact_spec {K : Frag} {x : Str} {a : Arguments} {b : List Stmt} {sc : Scope} {dv : Value} (e : fnFact K x = some (a, b, sc, dv)) :
    ∃ (f : Addr) (oc : Value) (od : Option Addr) (kV doc pm : Value) (an : Option Addr) (cdv ct : Value) (osl : Array (Option Value)),
      nsIn K mainGlobals x = some (some (.ref f)) ∧ K.lookup f = some ⟨oc, od, .func (fnOf x x a b sc dv kV doc pm an cdv ct), osl⟩ ∧ codeIn K cdv x = true ∧ keepIn K (.ref f) = true := by
  unfold fnFact at e
  split at e
  · rename_i f hf
    split at e
    · rename_i oc od fd osl hl
      split at e
      · rename_i b' hb hc
        cases hq : (fd.name == x && (fd.qualname == x && (Nat.beq fd.globals mainGlobals && (Nat.beq fd.builtins builtinsNs && codeIn K fd.code x)))) with
        | false => rw [hq] at e; cases e
        | true =>
          rw [hq] at e
          simp only [Bool.and_eq_true] at hq
          obtain ⟨h1, h2, h3, h4, h5⟩ := hq
          replace h1 := eq_of_beq h1
          replace h2 := eq_of_beq h2
          replace h3 := Nat.eq_of_beq_eq_true h3
          replace h4 := Nat.eq_of_beq_eq_true h4
          simp only [cond_true, Option.some.injEq, Prod.mk.injEq] at e
          obtain ⟨e1, e2, e3, e4⟩ := e
          obtain ⟨n, qn, ps, bd, s, gl, cl, df, kw, dc, pm, an, cd, ct, bl⟩ := fd
          simp only at h1 h2 h3 h4 h5 e1 e2 e3 e4 hb hc
          subst h1 h2 h3 h4 e1 e2 e3 e4 hb hc
          refine ⟨f, oc, od, kw, dc, pm, an, cd, ct, osl, hf, hl, h5, ?_⟩
          unfold keepIn
          dsimp only
          rw [hl]
      · cases e
    · cases e
  · cases e
theorem df_of {K : Frag} {mg : Str → Option Value} {h : Heap} {x : Str} {st : Stmt} (X : K.In h) (G : h.Ns mainGlobals mg) (e : fnFact K x = some (defArgs st, defBody st, defScope st, .none)) : Df K mg x st := by
  obtain ⟨f, oc, od, kV, doc, pm, an, cdv, ct, osl, h1, h2, h3, h4⟩ := fnFact_spec e
  exact df_mk X G h1 h2 h3 h4
/-- values without their tokens -/
def bareV : Value → V
  | .none => .non
  | .bool b => .bl b
  | .int i _ => .int i
  | .str x _ => .str x
  | .bytes b _ => .byt b
  | .float b _ => .flt b
  | .ref a => .ref a
  | .type n => .ty n
  | _ => .ty "no plain value"
def plainV : Value → Bool
  | .ellipsis | .notImplemented | .builtin _ => false
  | _ => true
theorem bareV_rel : ∀ {v : Value}, plainV v = true → RelV (bareV v) v
  | .none, _ => rfl
  | .bool _, _ => rfl
  | .int _ t, _ => ⟨t, rfl⟩
  | .str _ t, _ => ⟨t, rfl⟩
  | .bytes _ t, _ => ⟨t, rfl⟩
  | .float _ t, _ => ⟨t, rfl⟩
  | .ref _, _ => rfl
  | .type _, _ => rfl
  | .ellipsis, h => by cases h
  | .notImplemented, h => by cases h
  | .builtin _, h => by cases h
theorem vals_bare : ∀ {l : List Value}, l.all plainV = true → Vals (l.map bareV) l
  | [], _ => .nil
  | _ :: _, h => by
    rw [List.all_cons, Bool.and_eq_true] at h
    exact .cons (bareV_rel h.1) (vals_bare h.2)
/-- the items of a tuple or list that stands written out -/
def seqAt (K : Frag) (v : Value) : Option (List V) := match v with
  | .ref a => (match K.lookup a with
    | some ⟨_, _, .seq its _, _⟩ => bif its.toList.all plainV then some (its.toList.map bareV) else none
    | _ => none)
  | _ => none
theorem seqAt_spec {K : Frag} {v : Value} {ds : List V} (e : seqAt K v = some ds) : ∃ (a : Addr) (o : Obj) (its : List Value) (n : Nat), v = .ref a ∧ K.lookup a = some o ∧ o.data = .seq its.toArray n ∧ Vals ds its := by
  unfold seqAt at e
  split at e
  · rename_i a
    split at e
    · rename_i oc od its n osl hl
      cases hq : its.toList.all plainV with
      | false => rw [hq] at e; cases e
      | true =>
        rw [hq] at e
        cases e
        exact ⟨a, _, its.toList, n, rfl, hl, rfl, vals_bare hq⟩
    · cases e
  · cases e
/-- a def with defaults -/
def fnFactD (K : Frag) (x : Str) : Option (Arguments × List Stmt × Scope × List V) := match fnFact K x with
  | some (a, b, s, dv) => (match seqAt K dv with
    | some ds => some (a, b, s, ds)
    | none => none)
  | none => none
theorem dfd_of {K : Frag} {mg : Str → Option Value} {h : Heap} {x : Str} {st : Stmt} {ds : List V} (X : K.In h) (G : h.Ns mainGlobals mg) (e : fnFactD K x = some (defArgs st, defBody st, defScope st, ds)) : DfD K mg x st ds := by
  unfold fnFactD at e
  split at e
  · rename_i a b s dv hf
    split at e
    · rename_i ds' hs
      simp only [Option.some.injEq, Prod.mk.injEq] at e
      obtain ⟨e1, e2, e3, e4⟩ := e
      subst e1 e2 e3 e4
      obtain ⟨f, oc, od, kV, doc, pm, an, cdv, ct, osl, h1, h2, h3, h4⟩ := fnFact_spec hf
      obtain ⟨T, oT, its, n, rfl, hl, hd, hv⟩ := seqAt_spec hs
      exact dfd_mk X G h1 h2 h3 h4 hl hd hv
    · cases e
  · cases e
/-- the class under a name -/
def cls (K : Frag) (x : Str) : Addr := match nsIn K mainGlobals x with
  | some (some (.ref C)) => C
  | _ => 0
def excFact (K : Frag) (x : Str) : Bool := match nsIn K mainGlobals x with
  | some (some (.ref C)) => excIn K C [.type "ValueError", .type "Exception", .type "BaseException", .type "object"] "ValueError.__new__"
  | _ => false
theorem exc_of {K : Frag} {mg : Str → Option Value} {h : Heap} {x : Str} (X : K.In h) (G : h.Ns mainGlobals mg) (e : excFact K x = true) : ExcC K mg x (cls K x) := by
  unfold excFact at e
  split at e
  · rename_i C hC
    have : cls K x = C := by unfold cls; rw [hC]
    rw [this]
    exact exc_mk X G hC e
  · cases e
/-- a tuple under a name -/
def tupFact (K : Frag) (x : Str) : Option (List V) := match nsIn K mainGlobals x with
  | some (some (.ref a)) => (match K.lookup a with
    | some ⟨.type "tuple", _, .seq its _, _⟩ => bif its.toList.all plainV then some (its.toList.map bareV) else none
    | _ => none)
  | _ => none
/-- no global of that name -/
def noFact (K : Frag) (x : Str) : Bool := match nsIn K mainGlobals x with
  | some none => true
  | _ => false
theorem no_of {K : Frag} {x : Str} (e : noFact K x = true) : nsIn K mainGlobals x = some none := by
  unfold noFact at e
  split at e
  · rename_i h
    exact h
  · cases e
theorem at_map {α β : Type} {f g : α → β} {l : List α} (e : l.map f = l.map g) (i : Nat) {a : α} (h : l[i]? = some a) : f a = g a := by
  have q := congrArg (fun l : List β => l[i]?) e
  simp only [List.getElem?_map, h, Option.map_some, Option.some.injEq] at q
  exact q
theorem at_all {α : Type} {f : α → Bool} {l : List α} (e : l.all f = true) (i : Nat) {a : α} (h : l[i]? = some a) : f a = true :=
  List.all_eq_true.mp e a (List.mem_of_getElem? h)
/-- what the head has seen of the heap, kept -/
def hook {α : Type} (facts : Frag → α) (val : α) : Hook :=
  ⟨α, fun s => facts (frag s.heap), fun _ => val, fun _ h => ∃ K : Frag, K.In h ∧ facts K = val, fun _ s e => ⟨_, frag_in s.heap, e⟩, fun _ _ _ ⟨K, hi, e⟩ k => ⟨K, Frag.In.keeps hi k, e⟩⟩
theorem law_walk {l : OpenLaw} {k : Nat} {q : Program} {loose : List Str} {XP : (Str → Option Value) → Heap → Prop} {d : DefRec} {α : Type} {facts : Frag → α} {val : α} (hk : Room k callerA) (hn : l.most = some 63) (hdf : d.params.defaults = [])
    (F : ∀ (K : Frag), facts K = val → ∀ (w : World) (mg : Str → Option Value) (fa : Addr) (h : Heap), K.In h → h.Ns mainGlobals mg → mg d.name = some (.ref fa) →
      ∃ fd : FuncData, (∀ (s : Shared) (u : Value), BindsTo s fd ⟨[u], []⟩ [("script", u)]) ∧ ∀ base : Heap, K.In base → base.Ns mainGlobals mg → FnOk l.prog w K mg base CX0 k fa fd ["script"] (spLaw K)) :
    WalkO q loose XP (Hook.says (hook facts val)) l.row.toRowW d [] (fun f vs => PySem.call f vs) := by
  intro w s₀ s₁ mg mb G Y
  obtain ⟨K, hin, hf⟩ := Y
  exact L2.law_walk (l := l) (k := k) (q := q) (loose := loose) (XP := XP) (YP := fun _ h => K.In h) (d := d) (K := fun _ => K) hk hn hdf (fun _ _ y => y) (fun w mg fa h => F K hf w mg fa h) w s₀ s₁ mg mb G hin
end Hd
namespace Hd
open PySem PySem.W PySem.Spec L2
end Hd
/- a bound of a number's size -/
local macro_rules | `(tactic| walk_at "bt") => `(tactic| first
  | assumption
  | (apply L2.bits_mul <;> walk_at "bt")
  | (apply L2.bits_add2 <;> walk_at "bt")
  | (apply L2.bits_sub2 <;> walk_at "bt")
  | (apply L2.bits_neg; walk_at "bt")
  | (apply L2.bits_abs; walk_at "bt")
  | exact L2.bits_lit)
/- .. at most a written one -/
local macro_rules | `(tactic| walk_at "bl") => `(tactic| (apply L2.bits_of_le; (walk_at "bt"); decide))
local macro_rules | `(tactic| walk_at "cm") => `(tactic| first
  | exact L2.CM.l ⟨by decide, by decide⟩
  | exact L2.CM.r ⟨by decide, by decide⟩
  | (apply L2.CM.of; (walk_at "bt"); (walk_at "bt"); decide))
/- what stands at an address -/
local macro_rules | `(tactic| walk_at "at") => `(tactic| first
  | assumption
  | exact L2.upd_same
  | (refine L2.Same.at (by assumption) ?_; walk_at "at")
  | (refine L2.SameT.at (by assumption) ?_; walk_at "at"))
local macro_rules | `(tactic| walk_at "sm") => `(tactic| first
  | assumption
  | exact L2.Same.rfl'
  | (refine L2.Same.trans ?_ (by assumption); walk_at "sm"))
local macro_rules | `(tactic| walk_at "kn") => `(tactic| first
  | assumption
  | exact ⟨_, .int _⟩ | exact ⟨_, .bl _⟩ | exact ⟨_, .str _⟩ | exact ⟨_, .non⟩
  | exact ⟨_, .tup (by walk_at "at")⟩ | exact ⟨_, .lst (by walk_at "at")⟩ | exact ⟨_, .dict (by walk_at "at")⟩)
local macro_rules | `(tactic| walk_at "nice") => `(tactic| first
  | exact L2.nice_int | exact L2.nice_bool | exact L2.nice_tuple | exact L2.nice_list | exact L2.nice_str)
local macro_rules | `(tactic| walk_at "th") => `(tactic| first
  | assumption
  | exact Sp1.th_flat .non (fun p e => nomatch e) | exact Sp1.th_flat (.int _) (fun p e => nomatch e) | exact Sp1.th_flat (.bl _) (fun p e => nomatch e) | exact Sp1.th_flat (.str _) (fun p e => nomatch e)
  | exact Sp1.th_lst (by walk_at "at")
  | (refine' Sp1.th_tup ?hat ?hkn; (case hat => walk_at "at"); (case hkn => (simp only [List.mem_cons, List.not_mem_nil, or_false, forall_eq_or_imp, forall_eq, false_imp_iff, implies_true]; (try (first | (walk_at "kn") | (repeat' apply And.intro) <;> walk_at "kn")))))
  )
/- a step of the reading -/
local macro_rules | `(tactic| walk_at "r1") => `(tactic| first
  | (refine ⟨_, rfl, ?_⟩)
  | (refine ⟨_, _, rfl, rfl, ?_⟩)
  | (refine' ⟨_, _, _, _, rfl, rfl, L2.SqT.of ?hat, ?hix, ?nxt⟩; (case hat => walk_at "at"); (case hix => exact rfl))
  | (refine' ⟨_, _, _, _, rfl, rfl, L2.SqL.of ?hat, ?hix, ?nxt⟩; (case hat => walk_at "at"); (case hix => exact rfl))
  | (refine ⟨by walk_at "cm", ?_⟩)
  | (refine ⟨(by show (0 : Int) < _; decide), ?_⟩)
  | (refine ⟨⟨by decide, by decide⟩, ?_⟩)
  | (refine ⟨⟨by decide, by decide, by decide⟩, ?_⟩)
  | (refine ⟨Sp1.sz (by simp), fun _ _ _ _ _ => ?_⟩)
  | (refine ⟨Sp1.sz (by simp), L2.alloc fun _ _ _ _ => ?_⟩)
  | (refine' ⟨_, _, _, _, rfl, rfl, ?hat, ?hbt, Sp1.sz ?hsz, fun _ _ _ _ _ => ?nxt⟩; (case hat => walk_at "at"); (case hbt => walk_at "at"); (case hsz => simp))
  | (refine' ⟨_, _, _, _, rfl, rfl, ?hat, ?hbt, Sp1.sz ?hsz, L2.alloc fun _ _ _ _ => ?nxt⟩; (case hat => walk_at "at"); (case hbt => walk_at "at"); (case hsz => simp))
  | (refine' ⟨_, _, rfl, .inl (L2.SqL.of ?hat), ?nxt⟩; (case hat => walk_at "at"))
  | (refine' ⟨_, _, rfl, .inr (L2.SqT.of ?hat), ?nxt⟩; (case hat => walk_at "at"))
  | (refine' L2.alloc fun _ _ _ _ => ?nxt))
local macro_rules | `(tactic| walk_at "rd") => `(tactic| repeat (walk_at "r1"))
namespace K11
open PySem PySem.Spec L2 Mth Sp1 Sp2 Sp11
def top (i : Nat) : Stmt := PySem.Challenge.pw_oneleash_k11_whole_least_along.main.body.getD i (.Pass ⟨0, 0, 0, 0⟩)
structure Txt (mg : Str → Option Value) : Prop where
  z_abs : mg "abs" = none
  z_bool : mg "bool" = none
  z_int : mg "int" = none
  z_isinstance : mg "isinstance" = none
  z_len : mg "len" = none
  z_max : mg "max" = none
  z_min : mg "min" = none
  z_range : mg "range" = none
  z_tuple : mg "tuple" = none
section
variable {P : Program} {w : World} {K : PySem.W.Frag} {mg : Str → Option Value} {base : Heap}

theorem pg_tupK {X : Cx} {K : PySem.W.Frag} {pos : Pos} {es : List Expr} {k : Nat} {t : TGs} {n : Nat} (hK : X.K = K) (hc : X.calm = true) (h : PGs X es t)
    (hn : (assignEach es X.env).length = n := by rfl) (hst : (assignEach es X.env).findIdx? (·.1) = none := by rfl) : PG X (.Tuple es k pos) (gTup K n t) := by
  subst hK
  exact pg_tup hc h hn hst

def spLs : Sp := fun vs H Q _ => ∃ (p q : Addr) (a b c d : Int), vs = [.ref p, .ref q] ∧ H p = some (.tup [.int a, .int b]) ∧ H q = some (.tup [.int c, .int d]) ∧ (bits a ≤ 5000 ∧ bits b ≤ 5000 ∧ bits c ≤ 5000 ∧ bits d ≤ 5000) ∧ Q (.bl (decide (a * d < c * b))) H
def spNear : Sp := fun vs H Q _ => ∃ (p p1 p2 : Addr) (X Y b X1 Y1 b1 X2 Y2 b2 : Int), vs = [.ref p, .ref p1, .ref p2] ∧ PtAt H p X Y b 262 ∧ PtAt H p1 X1 Y1 b1 262 ∧ PtAt H p2 X2 Y2 b2 262 ∧ 0 < b ∧ 0 < b1 ∧ 0 < b2 ∧
  ∀ (r : Addr) (t u : Int) (H' : Hp), Fr2 H' r t u 4207 → NP X Y b X1 Y1 b1 X2 Y2 b2 t u → Same H H' → Q (.ref r) H'
def LeastK (l l' : Addr) (qs qs' : Crn) (t b l1 l2 h1 h2 : Int) (H : Hp) (Q : VK) : Prop := bits b ≤ 60 ∧ bits l2 ≤ 60 ∧ bits h2 ≤ 60 ∧ InS qs'.length l1 l2 h1 h2 ∧
  ∀ (r rs rp : Addr) (s w T B : Int) (H' : Hp), H' r = some (.tup [.ref rs, .ref rp]) → Fr2 H' rs s w 2103 → Plc H' rp T B (lst_ qs') → LPc (ptX qs t b) (ptY qs t b) b qs' l1 l2 h1 h2 T B → l1 * B ≤ T * l2 → T * h2 ≤ h1 * B → Frac (sqF qs t b qs' T B) (sqD b B) s w → Same H H' → Q (.ref r) H'
def spLeast (C : Addr) : Sp := fun vs H Q E => ∃ (l l' : Addr) (qs qs' : Crn) (x y z : V), vs = [.ref l, x, .ref l', y, z] ∧ LineAt H l qs ∧ LineAt H l' qs' ∧ (1 ≤ qs.length ∧ qs.length ≤ 20) ∧ (1 ≤ qs'.length ∧ qs'.length ≤ 20) ∧ Thing H x ∧ Thing H y ∧ Thing H z ∧
  ((placeV (lst_ qs) H x = false ∧ E (.ref C) none H) ∨ ∃ (p : Addr) (t b : Int), x = .ref p ∧ Plc H p t b (lst_ qs) ∧
    ((placeV (lst_ qs') H y = false ∧ ∀ H', Same H H' → E (.ref C) none H') ∨ ∃ (q : Addr) (l1 l2 : Int), y = .ref q ∧ Plc H q l1 l2 (lst_ qs') ∧
      ((placeV (lst_ qs') H z = false ∧ ∀ H', Same H H' → E (.ref C) none H') ∨ ∃ (q' : Addr) (h1 h2 : Int), z = .ref q' ∧ Plc H q' h1 h2 (lst_ qs') ∧ LeastK l l' qs qs' t b l1 l2 h1 h2 H Q)))
def spLRf : Sp := fun vs H Q _ => ∃ (l l' : Addr) (qs qs' : Crn) (x y z : V), vs = [.ref l, x, .ref l', y, z] ∧ LineAt H l qs ∧ LineAt H l' qs' ∧ (1 ≤ qs.length ∧ qs.length ≤ 20) ∧ (1 ≤ qs'.length ∧ qs'.length ≤ 20) ∧ Thing H x ∧ Thing H y ∧ Thing H z ∧
  (placeV (lst_ qs) H x = false ∨ ∃ (p : Addr) (t b : Int), x = .ref p ∧ Plc H p t b (lst_ qs) ∧
    (placeV (lst_ qs') H y = false ∨ ∃ (q : Addr) (l1 l2 : Int), y = .ref q ∧ Plc H q l1 l2 (lst_ qs') ∧ placeV (lst_ qs') H z = false)) ∧ ∀ H', Same H H' → Q (.bl true) H'
def spPart (K : PySem.W.Frag) : Sp := fun vs H Q _ => ∃ (l pn : Addr) (qs : Crn) (ns : List Int), vs = [.ref l, .ref pn] ∧ LineAt H l qs ∧ (1 ≤ qs.length ∧ qs.length ≤ 10) ∧ H pn = some (.lst (ns.map V.int)) ∧ ns.length = 5 ∧ (∀ n ∈ ns, 0 ≤ n) ∧
  ∀ (r p1 p2 : Addr) (l1 l2 h1 h2 : Int) (H' : Hp), Same H H' → H' r = some (.lst [.ref p1, .ref p2]) → Plc H' p1 l1 l2 (lst_ qs) → bits l2 ≤ 60 → Plc H' p2 h1 h2 (lst_ qs) → bits h2 ≤ 60 → InS qs.length l1 l2 h1 h2 → l1 * h2 ≤ h1 * l2 → Q (.ref r) H'
def spAmid : Sp := fun vs H Q _ => ∃ (p q : Addr) (l1 l2 h1 h2 n N : Int), vs = [.ref p, .ref q, .int n] ∧ Plc H p l1 l2 N ∧ bits l2 ≤ 60 ∧ Plc H q h1 h2 N ∧ bits h2 ≤ 60 ∧ N ≤ 20 ∧ l1 * h2 ≤ h1 * l2 ∧
  ∀ (r : Addr) (m1 m2 : Int) (H' : Hp), Plc H' r m1 m2 N → l1 * m2 ≤ m1 * l2 → m1 * h2 ≤ h1 * m2 → Same H H' → Q (.ref r) H'
def spLP : Sp := fun vs H Q _ => ∃ (l p l' q q' : Addr) (qs qs' : Crn) (t b l1 l2 h1 h2 : Int), vs = [.ref l, .ref p, .ref l', .ref q, .ref q'] ∧ LineAt H l qs ∧ LineAt H l' qs' ∧ (1 ≤ qs.length ∧ qs.length ≤ 20) ∧ (1 ≤ qs'.length ∧ qs'.length ≤ 20) ∧ Plc H p t b (lst_ qs) ∧ bits b ≤ 60 ∧ Plc H q l1 l2 (lst_ qs') ∧ Plc H q' h1 h2 (lst_ qs') ∧ InS qs'.length l1 l2 h1 h2 ∧
  ∀ (r : Addr) (f0 f1 : Int) (H' : Hp), H' r = some (.tup [.int f0, .int f1]) → bits f0 ≤ 5000 → bits f1 ≤ 5000 → (∀ T B, LPc (ptX qs t b) (ptY qs t b) b qs' l1 l2 h1 h2 T B → T * f1 = f0 * B) → Same H H' → Q (.ref r) H'
def spRgt (K : PySem.W.Frag) : Sp := fun vs H Q _ => ∃ (l p l' q q' pn : Addr) (qs qs' : Crn) (t b l1 l2 h1 h2 : Int) (ns : List Int), vs = [.ref l, .ref p, .ref l', .ref q, .ref q', .ref pn] ∧ LineAt H l qs ∧ LineAt H l' qs' ∧ (1 ≤ qs.length ∧ qs.length ≤ 20) ∧ (1 ≤ qs'.length ∧ qs'.length ≤ 20) ∧ Plc H p t b (lst_ qs) ∧ bits b ≤ 60 ∧ Plc H q l1 l2 (lst_ qs') ∧ bits l2 ≤ 60 ∧ Plc H q' h1 h2 (lst_ qs') ∧ bits h2 ≤ 60 ∧ InS qs'.length l1 l2 h1 h2 ∧ l1 * h2 ≤ h1 * l2 ∧ H pn = some (.lst (ns.map V.int)) ∧ ns.length ≤ 100 ∧
  ∀ H', Same H H' → Q (.bl true) H'
theorem pt_f {p : Addr} {qs : Crn} {t b : Int} {H : Hp} {G : Prop} (pl : Plc H p t b (lst_ qs)) (z : placeV ((qs.length : Int) - 1) H (.ref p) = false) : G := by
  rw [show placeV ((qs.length : Int) - 1) H (.ref p) = true from pl.place] at z
  cases z
theorem pt_t {p : Addr} {qs : Crn} {t b : Int} {H : Hp} {G : Addr → Hp → Prop} (pl : Plc H p t b (lst_ qs)) (k : ∀ (r : Addr) (H' : Hp), PtAt H' r (ptX qs t b) (ptY qs t b) b 262 → Same H H' → G r H') (p0 : Addr) (t0 b0 : Int) (e0 : V.ref p = .ref p0) (eH : H p0 = some (.tup [.int t0, .int b0])) (_ : Low t0 b0) (_ : 0 ≤ t0) (_ : t0 ≤ ((qs.length : Int) - 1) * b0) :
    bits t0 ≤ 200 ∧ bits b0 ≤ 200 ∧ ∀ (r : Addr) (H' : Hp), PtAt H' r (ptX qs t0 b0) (ptY qs t0 b0) b0 262 → Same H H' → G r H' := by
  cases e0
  have e2 := pl.at_
  rw [eH] at e2
  cases e2
  exact ⟨pl.bt, pl.bb, k⟩
theorem pt_n {qs : Crn} {x : V} {H : Hp} (no : placeV (lst_ qs) H x = false) {p0 : Addr} {t0 b0 : Int} (e0 : x = .ref p0) (eH : H p0 = some (.tup [.int t0, .int b0])) (lw : Low t0 b0) (t00 : 0 ≤ t0) (t01 : t0 ≤ ((qs.length : Int) - 1) * b0) {G : Prop} : G := by
  subst e0
  rw [show placeV (lst_ qs) H (.ref p0) = true from placeV_of eH lw t00 t01] at no
  cases no
theorem pt_rp {H : Hp} {r : Addr} {u v c d : Int} {n : Nat} (p : PtF H r u v c d n) : Rp H 9 (.ref r) (.tup [.tup [.int u, .int v], .tup [.int c, .int d]]) := by
  obtain ⟨rx, ry, e, f, g⟩ := p.ex
  exact Rp.t2 e (Rp.t2 f.at_ .int .int) (Rp.t2 g.at_ .int .int)
theorem fr_same {X1 b1 X2 b2 u1 v1 u2 v2 : Int} (h1 : b1 ≠ 0) (h2 : b2 ≠ 0) (f : Frac X1 b1 u1 v1) (g : Frac X2 b2 u2 v2) : X1 * b2 = X2 * b1 ↔ (u1 = u2 ∧ v1 = v2) := by
  have e1 := rq_of f h1
  have e2 := rq_of g h2
  constructor
  · intro h
    refine low_unique f.low g.low (rq_eq (nzl f.low) (nzl g.low) ?_)
    rw [e1, e2]
    have q1 := cz h1
    have q2 := cz h2
    have h3 : (X1 : Rat) * (b2 : Rat) = (X2 : Rat) * (b1 : Rat) := by rw [← Rat.intCast_mul, ← Rat.intCast_mul, h]
    unfold rq
    grind
  · rintro ⟨rfl, rfl⟩
    exact rq_eq h1 h2 (by rw [← e1, ← e2])
theorem gcd_on (n b t : Int) : Int.gcd (n * b + t) b = Int.gcd t b := by simp
theorem cutm {ns : List Int} {i j : Nat} (h : j ≤ ns.length) (hij : i ≤ j) : cutV (ns.map V.int) (some (i : Int)) (some (j : Int)) = ((ns.drop i).take (j - i)).map V.int := by
  unfold cutV
  rw [HT.sIx_nat _ _ i, HT.sIx_nat _ _ j, List.length_map, Nat.min_eq_left (show i ≤ ns.length by omega), Nat.min_eq_left h, ← List.map_drop, ← List.map_take]
theorem cells_int {ss : List Int} {k : Int} {i : Nat} {n : Int} {o : V} (h : (cutV (ss.map V.int) none (some k) ++ [V.int n])[i]? = some o) : ∃ c, o = V.int c := by
  have hm := List.mem_of_getElem? h
  rcases List.mem_append.mp hm with hm | hm
  · obtain ⟨c, _, e⟩ := List.mem_map.mp (mem_cutV hm)
    exact ⟨c, e.symm⟩
  · exact ⟨_, List.mem_singleton.mp hm⟩
theorem S_is_whole : FnScope ["thing"] ["thing"] (defScope (top 5)) := ⟨rfl, rfl, rfl, by decide +kernel, rfl, by decide +kernel, by decide +kernel⟩
theorem fn_is_whole (D_is_whole : Df K mg "is_whole" (top 5)) (T : Txt mg) : Fn P w K mg base "is_whole" ["thing"] 1 spWhole := by
  refine D_is_whole.fn S_is_whole (fun _ _ _ _ _ _ us hl => match us, hl with | [_], _ => rfl) (fun vs H Q E h => ?_) (fun f cdv A outer s H vs Q E hr h => ?_)
  · obtain ⟨x, t, rfl, _⟩ := h
    rfl
  · obtain ⟨x, t, rfl, k, q⟩ := h
    refine ⟨_, (pss_one (ps_ret (pe_and (pe_callB call_isinst (by rfl) T.z_isinstance bt_isinstance (pa_cons (pv 0) (pa_cons (pe_ty T.z_int bt_int) pa_nil))) (pe_one (pe_not (pe_callB call_isinst (by rfl) T.z_isinstance bt_isinstance (pa_cons (pv 0) (pa_cons (pe_ty T.z_bool bt_bool) pa_nil)))))))), ?_⟩
    refine ⟨_, rfl, x, t, "int", rfl, k, .inl rfl, _, rfl, ?_⟩
    refine ite3 (fun hc => ?_) (fun hc => ?_)
    · refine ⟨_, rfl, x, t, "bool", rfl, k, .inr (.inl rfl), _, rfl, ?_⟩
      rw [(whole_sub k).1 hc]
      exact q
    · rw [(whole_sub k).2 hc] at q
      exact q
theorem S_common_divisor : FnScope ["one", "other", "rest"] ["one", "other"] (defScope (top 6)) := ⟨rfl, rfl, rfl, by decide +kernel, rfl, by decide +kernel, by decide +kernel⟩
theorem fn_common_divisor (D_common_divisor : Df K mg "common_divisor" (top 6)) (T : Txt mg) : Fn P w K mg base "common_divisor" ["one", "other"] 1 spGcd := by
  refine D_common_divisor.fn S_common_divisor (fun _ _ _ _ _ _ us hl => match us, hl with | [_, _], _ => rfl) (fun vs H Q E h => ?_) (fun f cdv A outer s H vs Q E hr h => ?_)
  · obtain ⟨a, b, rfl, _⟩ := h
    rfl
  · obtain ⟨a, b, rfl, q⟩ := h
    refine ⟨_, (pss_cons (ps_set (i := 0) S_common_divisor.nd rfl (Or.inl rfl) (pe_callB call_abs (by rfl) T.z_abs bt_abs (pa_cons (pv 0) pa_nil))) (pss_cons (ps_set (i := 1) S_common_divisor.nd rfl (Or.inl rfl) (pe_callB call_abs (by rfl) T.z_abs bt_abs (pa_cons (pv 1) pa_nil))) (pss_cons (ps_while PassesOwn.never (pt_cmpR op_ne (pv 1) pe_int (nomark _)) (pss_cons (ps_set (i := 2) S_common_divisor.nd rfl (Or.inl rfl) (pe_op op_mod (pv 0) (pv 1))) (pss_cons (ps_set (i := 0) S_common_divisor.nd rfl (Or.inl rfl) (pv 1)) (pss_one (ps_set (i := 1) S_common_divisor.nd rfl (Or.inl rfl) (pv 2)))))) (pss_one (ps_ret (pv 0)))))), ?_⟩
    refine ⟨_, rfl, a, rfl, _, rfl, b, rfl, ?_⟩
    refine while_by (fun σ H' => ∃ x y r, σ = [some (.int x), some (.int y), r] ∧ H' = H ∧ 0 ≤ x ∧ 0 ≤ y ∧ Int.gcd x y = Int.gcd a b)
      (fun σ _ => match σ with | [_, some (.int y), _] => y.toNat | _ => 0) ⟨_, _, _, rfl, rfl, abs_nonneg a, abs_nonneg b, by rw [gcd_abs, gcd_abs']⟩ ?_ ?_
    · rintro σ H' ⟨x, y, r, rfl, rfl, hx, hy, hg⟩
      refine ⟨_, rfl, rfl, _, rfl, ?_⟩
      refine ite3 (fun hc => ?_) (fun hc => ?_)
      · have hy0 : ¬ y = 0 := by simpa using hc
        have hy1 : 0 < y := by omega
        refine ⟨_, rfl, _, rfl, x, y, rfl, rfl, hy1, _, rfl, _, rfl, ⟨y, x % y, _, rfl, rfl, hy, Int.emod_nonneg _ hy0, ?_⟩, ?_⟩
        · rw [gcd_step hx hy1]
          exact hg
        · have h1 := Int.emod_lt_of_pos x hy1
          have h2 := Int.emod_nonneg x hy0
          show (x % y).toNat < y.toNat
          omega
      · have hy0 : y = 0 := by simpa using hc
        subst hy0
        refine ⟨_, rfl, ?_⟩
        have e : (Int.gcd a b : Int) = x := by rw [← hg]; exact gcd_zero hx
        rw [e] at q
        exact q
    · rintro σ H' Q1 Q2 hq ⟨v, e, hs, k, ek, r⟩
      exact ⟨v, e, hs, k, ek, hq _ _ r⟩
theorem S_ratio : FnScope ["top", "bottom", "divisor"] ["top", "bottom"] (defScope (top 7)) := ⟨rfl, rfl, rfl, by decide +kernel, rfl, by decide +kernel, by decide +kernel⟩
theorem fn_ratio {C : Addr} (D_ratio : DfD K mg "ratio" (top 7) [.int 1]) (O_NoRatio : ExcC K mg "NoRatio" C) (F_is_whole : Fn P w K mg base "is_whole" ["thing"] 1 spWhole) (F_common_divisor : Fn P w K mg base "common_divisor" ["one", "other"] 1 spGcd) : Fx P w K mg base "ratio" ["top", "bottom"] 2 [.int 1] (spRatioN C) := by
  refine D_ratio.fx S_ratio (fun T kV doc pm an cdv ct us its oT n s hv hl ho hs => ?_) (fun T kV doc pm an cdv ct us its oT n s hv hl ho hs => ?_) (fun vs H Q E h => ?_) (fun f cdv A outer s H vs Q E hr h => ?_)
  · obtain ⟨u, rfl, _⟩ := vals1 hv
    match us, hl with
    | [_, _], _ => exact BindsTo.of_defaults rfl ho hs rfl rfl
  · obtain ⟨u, rfl, _⟩ := vals1 hv
    have hl1 : us.length = 1 := by simpa using hl
    match us, hl1 with
    | [_], _ => exact BindsTo.of_defaults rfl ho hs rfl rfl
  · obtain ⟨a, b, nb, rfl, _⟩ := h
    rfl
  · obtain ⟨a, b, nb, rfl, ⟨ba, bb, hnb⟩, k0, k1⟩ := h
    refine ⟨_, (pss_cons (ps_if (pw_or (pt_not (pt_val (pe_fn F_is_whole (hr.mono (by decide)) (by rfl) (pa_cons (pv 0) pa_nil)))) (pw_or (pt_not (pt_val (pe_fn F_is_whole (hr.mono (by decide)) (by rfl) (pa_cons (pv 1) pa_nil)))) (pw_or1 (pt_cmpR op_eq (pv 1) pe_int (nomark _))))).pt (pss_one (ps_raise O_NoRatio (by rfl))) pss_nil) (pss_cons (ps_set (i := 2) S_ratio.nd rfl (Or.inl rfl) (pe_fn F_common_divisor (hr.mono (by decide)) (by rfl) (pa_cons (pv 0) (pa_cons (pv 1) pa_nil)))) (pss_cons (ps_if (pt_cmpR op_lt (pv 1) pe_int (nomark _)) (pss_one (ps_set (i := 2) S_ratio.nd rfl (Or.inl rfl) (pe_un un_neg (pv 2)))) pss_nil) (pss_one (ps_ret (pe_tup (pa_cons (pe_op op_fdivZ (pv 0) (pv 2)) (pa_cons (pe_op op_fdivZ (pv 1) (pv 2)) pa_nil)))))))), ?_⟩
    refine ⟨_, rfl, _, _, rfl, .int a, _, rfl, iteF ?_⟩
    refine ⟨_, rfl, _, _, rfl, .int b, _, rfl, iteF ?_⟩
    refine ⟨_, rfl, rfl, _, rfl, ?_⟩
    refine ite3 (fun hc => ?_) (fun hc => ?_)
    · exact k0 (by simpa using hc)
    · have hb : b ≠ 0 := by simpa using hc
      have hg := gcd_pos (a := a) (b := b) hb
      have bg : bits (Int.gcd a b : Int) ≤ 8000 := bits_le (gcd_bits2 hb bb) (by omega)
      refine ⟨_, rfl, _, rfl, a, b, rfl, ?_⟩
      refine ⟨_, rfl, _, _, rfl, rfl, _, rfl, ?_⟩
      refine ite3 (fun hd => ?_) (fun hd => ?_)
      · have hlt : b < 0 := by simpa using hd
        refine ⟨_, rfl, _, rfl, ?_⟩
        refine ⟨_, rfl, _, rfl, _, _, rfl, rfl, ⟨by omega, bits_neg bg⟩, _, rfl, _, rfl, _, _, rfl, rfl, ⟨by omega, bits_neg bg⟩, sz (by simp), fun p hp => ?_⟩
        exact k1 hb p _ _ (frac_fdiv hb _ (by rw [if_pos hlt])) (bits_fdiv ba) (bits_fdiv bb) hp
      · have hlt : ¬ b < 0 := by simpa using hd
        refine ⟨_, rfl, _, rfl, _, _, rfl, rfl, ⟨by omega, bg⟩, _, rfl, _, rfl, _, _, rfl, rfl, ⟨by omega, bg⟩, sz (by simp), fun p hp => ?_⟩
        exact k1 hb p _ _ (frac_fdiv hb _ (by rw [if_neg hlt])) (bits_fdiv ba) (bits_fdiv bb) hp

theorem S_floor_of : FnScope ["a"] ["a"] (defScope (top 13)) := ⟨rfl, rfl, rfl, by decide +kernel, rfl, by decide +kernel, by decide +kernel⟩
theorem fn_floor_of (D_floor_of : Df K mg "floor_of" (top 13)) : Fn P w K mg base "floor_of" ["a"] 1 spFloor := by
  refine D_floor_of.fn S_floor_of (fun _ _ _ _ _ _ us hl => match us, hl with | [_], _ => rfl) (fun vs H Q E h => ?_) (fun f cdv A outer s H vs Q E hr h => ?_)
  · obtain ⟨p, a, b, rfl, _⟩ := h
    rfl
  · obtain ⟨p, a, b, rfl, hp, ⟨hb, bb⟩, k⟩ := h
    refine ⟨_, (pss_one (ps_ret (pe_op op_fdivP (pe_ix ix_tup (pv 0) pe_int (fun _ _ => rfl)) (pe_ix ix_tup (pv 0) pe_int (fun _ _ => rfl))))), ?_⟩
    exact ⟨_, rfl, p, _, _, _, rfl, rfl, SqT.of hp, rfl, _, rfl, p, _, _, _, rfl, rfl, SqT.of hp, rfl, a, b, rfl, rfl, ⟨hb, bits_le bb (by decide)⟩, k⟩
theorem S_is_ratio : FnScope ["thing"] ["thing"] (defScope (top 14)) := ⟨rfl, rfl, rfl, by decide +kernel, rfl, by decide +kernel, by decide +kernel⟩
theorem fn_is_ratio (D_is_ratio : Df K mg "is_ratio" (top 14)) (F_is_whole : Fn P w K mg base "is_whole" ["thing"] 1 spWhole) (F_common_divisor : Fn P w K mg base "common_divisor" ["one", "other"] 1 spGcd) (T : Txt mg) : Fn P w K mg base "is_ratio" ["thing"] 2 spLow := by
  refine D_is_ratio.fn S_is_ratio (fun _ _ _ _ _ _ us hl => match us, hl with | [_], _ => rfl) (fun vs H Q E h => ?_) (fun f cdv A outer s H vs Q E hr h => ?_)
  · obtain ⟨x, rfl, _⟩ := h
    rfl
  · obtain ⟨x, rfl, th, q⟩ := h
    obtain ⟨t, k⟩ := th.kn
    refine ⟨_, (pss_cons (ps_if (pw_or (pt_not (pt_val (pe_callB call_isinst (by rfl) T.z_isinstance bt_isinstance (pa_cons (pv 0) (pa_cons (pe_ty T.z_tuple bt_tuple) pa_nil))))) (pw_or1 (pt_cmpR op_ne (pe_callB call_len_seq (by rfl) T.z_len bt_len (pa_cons (pv 0) pa_nil)) pe_int (nomark _)))).pt (pss_one (ps_ret pe_bl)) pss_nil) (pss_cons (ps_if (pw_or (pt_not (pt_val (pe_fn F_is_whole (hr.mono (by decide)) (by rfl) (pa_cons (pe_ix ix_tup (pv 0) pe_int (fun _ _ => rfl)) pa_nil)))) (pw_or1 (pt_not (pt_val (pe_fn F_is_whole (hr.mono (by decide)) (by rfl) (pa_cons (pe_ix ix_tup (pv 0) pe_int (fun _ _ => rfl)) pa_nil)))))).pt (pss_one (ps_ret pe_bl)) pss_nil) (pss_one (ps_ret (pe_and (pe_cmpR op_ge (pe_ix ix_tup (pv 0) pe_int (fun _ _ => rfl)) pe_int (nomark _)) (pe_one (pe_cmpR op_eq (pe_fn F_common_divisor (hr.mono (by decide)) (by rfl) (pa_cons (pe_ix ix_tup (pv 0) pe_int (fun _ _ => rfl)) (pa_cons (pe_ix ix_tup (pv 0) pe_int (fun _ _ => rfl)) pa_nil))) pe_int (nomark _)))))))), ?_⟩
    refine ⟨_, rfl, x, t, "tuple", rfl, k, .inr (.inr (.inl rfl)), _, rfl, ?_⟩
    rcases Kn.cases_tup k with ⟨p, xs, rfl, e, rfl⟩ | ⟨hl, hs⟩
    · -- a tuple
      rw [lowV_tup e] at q
      refine iteF ?_
      refine ⟨_, rfl, p, xs, rfl, .inr (SqT.of e), rfl, _, rfl, ?_⟩
      refine ite3 (fun hc => ?_) (fun hc => ?_)
      · have hn : xs.length ≠ 2 := by
          intro z
          rw [z] at hc
          exact absurd hc (by decide)
        rw [lowL_len hn] at q
        exact q
      · have hn : xs.length = 2 := by
          have z : (xs.length : Int) = 2 := by simpa using hc
          omega
        match xs, hn, e, q with
        | [y, z], _, e, q =>
          obtain ⟨ty, ky⟩ := th.parts p _ rfl e y (by simp)
          obtain ⟨tz, kz⟩ := th.parts p _ rfl e z (by simp)
          refine ⟨_, rfl, p, _, _, _, rfl, rfl, SqT.of e, rfl, y, ty, rfl, ky, _, rfl, ?_⟩
          rcases Kn.cases_int ky with ⟨a, rfl, rfl⟩ | ⟨ny, ey⟩
          · refine iteF ?_
            refine ⟨_, rfl, p, _, _, _, rfl, rfl, SqT.of e, rfl, z, tz, rfl, kz, _, rfl, ?_⟩
            rcases Kn.cases_int kz with ⟨b, rfl, rfl⟩ | ⟨nz, ez⟩
            · refine iteF ?_
              refine ⟨_, rfl, p, _, _, _, rfl, rfl, SqT.of e, rfl, b, 1, rfl, rfl, _, rfl, ?_⟩
              have q' : Q (.bl (lowB a b)) H := q
              unfold lowB at q'
              refine ite3 (fun hc => ?_) (fun hc => ?_)
              · refine ⟨_, rfl, p, _, _, _, rfl, rfl, SqT.of e, rfl, _, rfl, p, _, _, _, rfl, rfl, SqT.of e, rfl, a, b, rfl, rfl, ?_⟩
                rw [hc, Bool.true_and] at q'
                have e1 : decide (V.int (Int.gcd a b : Int) = V.int 1) = decide (Int.gcd a b = 1) := by
                  rw [Bool.eq_iff_iff]
                  simp
                  omega
                rw [← e1] at q'
                exact q'
              · rw [hc, Bool.false_and] at q'
                exact q'
            · rw [ez, lowL_snd nz] at *
              exact q
          · rw [ey, lowL_fst ny] at *
            exact q
    · rw [hs]
      rw [hl] at q
      exact q
theorem S_last_of : FnScope ["line"] ["line"] (defScope (top 16)) := ⟨rfl, rfl, rfl, by decide +kernel, rfl, by decide +kernel, by decide +kernel⟩
theorem fn_last_of (D_last_of : Df K mg "last_of" (top 16)) (T : Txt mg) : Fn P w K mg base "last_of" ["line"] 1 spLast := by
  refine D_last_of.fn S_last_of (fun _ _ _ _ _ _ us hl => match us, hl with | [_], _ => rfl) (fun vs H Q E h => ?_) (fun f cdv A outer s H vs Q E hr h => ?_)
  · obtain ⟨p, xs, rfl, _⟩ := h
    rfl
  · obtain ⟨p, xs, rfl, e, q⟩ := h
    exact ⟨_, (pss_one (ps_ret (pe_op op_sub (pe_callB call_len_seq (by rfl) T.z_len bt_len (pa_cons (pv 0) pa_nil)) pe_int))), _, rfl, p, xs, rfl, .inl (SqL.of e), _, _, rfl, rfl, q⟩
theorem S_is_place : FnScope ["line", "thing"] ["line", "thing"] (defScope (top 18)) := ⟨rfl, rfl, rfl, by decide +kernel, rfl, by decide +kernel, by decide +kernel⟩
theorem fn_is_place (D_is_place : Df K mg "is_place" (top 18)) (F_is_ratio : Fn P w K mg base "is_ratio" ["thing"] 2 spLow) (F_last_of : Fn P w K mg base "last_of" ["line"] 1 spLast) : Fn P w K mg base "is_place" ["line", "thing"] 3 spIsPlace := by
  refine D_is_place.fn S_is_place (fun _ _ _ _ _ _ us hl => match us, hl with | [_, _], _ => rfl) (fun vs H Q E h => ?_) (fun f cdv A outer s H vs Q E hr h => ?_)
  · obtain ⟨p, xs, x, rfl, _⟩ := h
    rfl
  · obtain ⟨p, xs, x, rfl, e, hl, th, q⟩ := h
    refine ⟨_, (pss_one (ps_ret (pe_and (pe_fn F_is_ratio (hr.mono (by decide)) (by rfl) (pa_cons (pv 1) pa_nil)) (pe_one (pe_chain op_le op_le pe_int (pe_ix ix_tup (pv 1) pe_int (fun _ _ => rfl)) (pe_op op_mulX (pe_fn F_last_of (hr.mono (by decide)) (by rfl) (pa_cons (pv 0) pa_nil)) (pe_ix ix_tup (pv 1) pe_int (fun _ _ => rfl)))))))), ?_⟩
    refine ⟨_, rfl, x, rfl, th, _, rfl, ite3 (fun hc => ?_) (fun hc => ?_)⟩
    · obtain ⟨u, a, b, rfl, eu, lw⟩ := lowV_inv hc
      rw [placeV_tup eu, low_B lw, Bool.true_and] at q
      refine ⟨_, rfl, u, _, _, _, rfl, rfl, SqT.of eu, rfl, _, _, rfl, rfl, _, rfl, ite3 (fun hd => ?_) (fun hd => ?_)⟩
      · rw [hd, Bool.true_and] at q
        exact ⟨_, rfl, p, xs, rfl, e, _, rfl, u, _, _, _, rfl, rfl, SqT.of eu, rfl, _, _, rfl, rfl, CM.l (lt64s (by omega) (by omega)), _, _, rfl, rfl, q⟩
      · rw [hd, Bool.false_and] at q
        exact q
    · rw [placeV_low hc] at q
      exact q
theorem S_look_at_place : FnScope ["line", "thing"] ["line", "thing"] (defScope (top 19)) := ⟨rfl, rfl, rfl, by decide +kernel, rfl, by decide +kernel, by decide +kernel⟩
theorem fn_look_at_place {C : Addr} (D_look_at_place : Df K mg "look_at_place" (top 19)) (O_NoPlace : ExcC K mg "NoPlace" C) (F_is_place : Fn P w K mg base "is_place" ["line", "thing"] 3 spIsPlace) : Fx P w K mg base "look_at_place" ["line", "thing"] 4 [] (spLook C) := by
  refine D_look_at_place.fx S_look_at_place (fun _ _ _ _ _ _ us hl => match us, hl with | [_, _], _ => rfl) (fun vs H Q E h => ?_) (fun f cdv A outer s H vs Q E hr h => ?_)
  · obtain ⟨p, xs, x, rfl, _⟩ := h
    rfl
  · obtain ⟨p, xs, x, rfl, e, hl, th, k0, k1⟩ := h
    refine ⟨_, (pss_one (ps_if (pt_not (pt_val (pe_fn F_is_place (hr.mono (by decide)) (by rfl) (pa_cons (pv 0) (pa_cons (pv 1) pa_nil))))) (pss_one (ps_raise O_NoPlace (by rfl))) pss_nil)), ?_⟩
    refine ⟨_, rfl, _, rfl, p, xs, x, rfl, e, hl, th, _, rfl, ite3 (fun hc => ?_) (fun hc => ?_)⟩
    · exact k0 (by simpa using hc)
    · exact k1 (by simpa using hc)
theorem S_plus : FnScope ["a", "b"] ["a", "b"] (defScope (top 8)) := ⟨rfl, rfl, rfl, by decide +kernel, rfl, by decide +kernel, by decide +kernel⟩
theorem fn_plus {C : Addr} (D_plus : Df K mg "plus" (top 8)) (F_ratio : Fx P w K mg base "ratio" ["top", "bottom"] 2 [.int 1] (spRatioN C)) : Fn P w K mg base "plus" ["a", "b"] 3 (spBin (fun a b c d => a * d + c * b) (fun a b c d => b * d)) := by
  refine D_plus.fn S_plus (fun _ _ _ _ _ _ us hl => match us, hl with | [_, _], _ => rfl) (fun vs H Q E h => ?_) (fun f cdv A outer s H vs Q E hr h => ?_)
  · obtain ⟨p, q, a, b, c, d, n, rfl, _⟩ := h
    rfl
  · obtain ⟨p, q, a, b, c, d, n, rfl, fp, fq, hn, hden, k⟩ := h
    have ep := fp.at_
    have eq := fq.at_
    have cm : ∀ {i j : Int}, bits i ≤ n → bits j ≤ n → CM i j := fun hi hj => CM.b hi hj (Nat.le_trans hn (by decide)) (Nat.le_trans hn (by decide))
    have fin : ∀ (r : Addr) (t u : Int), Frac (a * d + c * b) (b * d) t u → bits t ≤ 2 * n + 1 → bits u ≤ 2 * n + 1 → H r = none → Q (.ref r) (upd H r (.tup [.int t, .int u])) := fun r t u fr bt bu hr' => by
      obtain ⟨H1, e1, s1, f1⟩ := grow (o := .tup [.int t, .int u]) hr'
      rw [e1]
      exact k r t u H1 fr ⟨f1, fr.low, bt, bu⟩ s1
    refine ⟨_, (pss_one (ps_ret (pe_fx0 F_ratio (hr.mono (by decide)) (by rfl) (pa_cons (pe_op op_add (pe_op op_mulX (pe_ix ix_tup (pv 0) pe_int (fun _ _ => rfl)) (pe_ix ix_tup (pv 1) pe_int (fun _ _ => rfl))) (pe_op op_mulX (pe_ix ix_tup (pv 1) pe_int (fun _ _ => rfl)) (pe_ix ix_tup (pv 0) pe_int (fun _ _ => rfl)))) (pa_cons (pe_op op_mulX (pe_ix ix_tup (pv 0) pe_int (fun _ _ => rfl)) (pe_ix ix_tup (pv 1) pe_int (fun _ _ => rfl))) pa_nil))))), ?_⟩
    refine ⟨_, rfl, p, _, _, _, rfl, rfl, SqT.of ep, rfl, _, rfl, q, _, _, _, rfl, rfl, SqT.of eq, rfl, _, _, rfl, rfl, cm fp.ba fq.bb, _, rfl, q, _, _, _, rfl, rfl, SqT.of eq, rfl, _, rfl, p, _, _, _, rfl, rfl, SqT.of ep, rfl, _, _, rfl, rfl, cm fq.ba fp.bb, _, _, rfl, rfl, ?_⟩
    refine ⟨_, rfl, p, _, _, _, rfl, rfl, SqT.of ep, rfl, _, rfl, q, _, _, _, rfl, rfl, SqT.of eq, rfl, _, _, rfl, rfl, cm fp.bb fq.bb, _, _, 2 * n + 1, rfl, ⟨bits_le (bits_add (n := 2 * n) (bits_le (bits_mul fp.ba fq.bb) (by omega)) (bits_le (bits_mul fq.ba fp.bb) (by omega))) (by omega), bits_le (bits_mul fp.bb fq.bb) (by omega), by omega⟩, fun z => absurd z hden, fun _ r t u fr bt bu hr' => fin r t u fr bt bu hr'⟩

theorem S_minus : FnScope ["a", "b"] ["a", "b"] (defScope (top 9)) := ⟨rfl, rfl, rfl, by decide +kernel, rfl, by decide +kernel, by decide +kernel⟩
theorem fn_minus {C : Addr} (D_minus : Df K mg "minus" (top 9)) (F_ratio : Fx P w K mg base "ratio" ["top", "bottom"] 2 [.int 1] (spRatioN C)) : Fn P w K mg base "minus" ["a", "b"] 3 (spBin (fun a b c d => a * d - c * b) (fun a b c d => b * d)) := by
  refine D_minus.fn S_minus (fun _ _ _ _ _ _ us hl => match us, hl with | [_, _], _ => rfl) (fun vs H Q E h => ?_) (fun f cdv A outer s H vs Q E hr h => ?_)
  · obtain ⟨p, q, a, b, c, d, n, rfl, _⟩ := h
    rfl
  · obtain ⟨p, q, a, b, c, d, n, rfl, fp, fq, hn, hden, k⟩ := h
    have ep := fp.at_
    have eq := fq.at_
    have cm : ∀ {i j : Int}, bits i ≤ n → bits j ≤ n → CM i j := fun hi hj => CM.b hi hj (Nat.le_trans hn (by decide)) (Nat.le_trans hn (by decide))
    have fin : ∀ (r : Addr) (t u : Int), Frac (a * d - c * b) (b * d) t u → bits t ≤ 2 * n + 1 → bits u ≤ 2 * n + 1 → H r = none → Q (.ref r) (upd H r (.tup [.int t, .int u])) := fun r t u fr bt bu hr' => by
      obtain ⟨H1, e1, s1, f1⟩ := grow (o := .tup [.int t, .int u]) hr'
      rw [e1]
      exact k r t u H1 fr ⟨f1, fr.low, bt, bu⟩ s1
    refine ⟨_, (pss_one (ps_ret (pe_fx0 F_ratio (hr.mono (by decide)) (by rfl) (pa_cons (pe_op op_sub (pe_op op_mulX (pe_ix ix_tup (pv 0) pe_int (fun _ _ => rfl)) (pe_ix ix_tup (pv 1) pe_int (fun _ _ => rfl))) (pe_op op_mulX (pe_ix ix_tup (pv 1) pe_int (fun _ _ => rfl)) (pe_ix ix_tup (pv 0) pe_int (fun _ _ => rfl)))) (pa_cons (pe_op op_mulX (pe_ix ix_tup (pv 0) pe_int (fun _ _ => rfl)) (pe_ix ix_tup (pv 1) pe_int (fun _ _ => rfl))) pa_nil))))), ?_⟩
    refine ⟨_, rfl, p, _, _, _, rfl, rfl, SqT.of ep, rfl, _, rfl, q, _, _, _, rfl, rfl, SqT.of eq, rfl, _, _, rfl, rfl, cm fp.ba fq.bb, _, rfl, q, _, _, _, rfl, rfl, SqT.of eq, rfl, _, rfl, p, _, _, _, rfl, rfl, SqT.of ep, rfl, _, _, rfl, rfl, cm fq.ba fp.bb, _, _, rfl, rfl, ?_⟩
    refine ⟨_, rfl, p, _, _, _, rfl, rfl, SqT.of ep, rfl, _, rfl, q, _, _, _, rfl, rfl, SqT.of eq, rfl, _, _, rfl, rfl, cm fp.bb fq.bb, _, _, 2 * n + 1, rfl, ⟨bits_le (bits_sub (n := 2 * n) (bits_le (bits_mul fp.ba fq.bb) (by omega)) (bits_le (bits_mul fq.ba fp.bb) (by omega))) (by omega), bits_le (bits_mul fp.bb fq.bb) (by omega), by omega⟩, fun z => absurd z hden, fun _ r t u fr bt bu hr' => fin r t u fr bt bu hr'⟩

theorem S_times : FnScope ["a", "b"] ["a", "b"] (defScope (top 10)) := ⟨rfl, rfl, rfl, by decide +kernel, rfl, by decide +kernel, by decide +kernel⟩
theorem fn_times {C : Addr} (D_times : Df K mg "times" (top 10)) (F_ratio : Fx P w K mg base "ratio" ["top", "bottom"] 2 [.int 1] (spRatioN C)) : Fn P w K mg base "times" ["a", "b"] 3 (spBin (fun a b c d => a * c) (fun a b c d => b * d)) := by
  refine D_times.fn S_times (fun _ _ _ _ _ _ us hl => match us, hl with | [_, _], _ => rfl) (fun vs H Q E h => ?_) (fun f cdv A outer s H vs Q E hr h => ?_)
  · obtain ⟨p, q, a, b, c, d, n, rfl, _⟩ := h
    rfl
  · obtain ⟨p, q, a, b, c, d, n, rfl, fp, fq, hn, hden, k⟩ := h
    have ep := fp.at_
    have eq := fq.at_
    have cm : ∀ {i j : Int}, bits i ≤ n → bits j ≤ n → CM i j := fun hi hj => CM.b hi hj (Nat.le_trans hn (by decide)) (Nat.le_trans hn (by decide))
    have fin : ∀ (r : Addr) (t u : Int), Frac (a * c) (b * d) t u → bits t ≤ 2 * n + 1 → bits u ≤ 2 * n + 1 → H r = none → Q (.ref r) (upd H r (.tup [.int t, .int u])) := fun r t u fr bt bu hr' => by
      obtain ⟨H1, e1, s1, f1⟩ := grow (o := .tup [.int t, .int u]) hr'
      rw [e1]
      exact k r t u H1 fr ⟨f1, fr.low, bt, bu⟩ s1
    refine ⟨_, (pss_one (ps_ret (pe_fx0 F_ratio (hr.mono (by decide)) (by rfl) (pa_cons (pe_op op_mulX (pe_ix ix_tup (pv 0) pe_int (fun _ _ => rfl)) (pe_ix ix_tup (pv 1) pe_int (fun _ _ => rfl))) (pa_cons (pe_op op_mulX (pe_ix ix_tup (pv 0) pe_int (fun _ _ => rfl)) (pe_ix ix_tup (pv 1) pe_int (fun _ _ => rfl))) pa_nil))))), ?_⟩
    exact ⟨_, rfl, p, _, _, _, rfl, rfl, SqT.of ep, rfl, _, rfl, q, _, _, _, rfl, rfl, SqT.of eq, rfl, _, _, rfl, rfl, cm fp.ba fq.ba, _, rfl, p, _, _, _, rfl, rfl, SqT.of ep, rfl, _, rfl, q, _, _, _, rfl, rfl, SqT.of eq, rfl, _, _, rfl, rfl, cm fp.bb fq.bb, _, _, 2 * n + 1, rfl, ⟨bits_le (bits_mul fp.ba fq.ba) (by omega), bits_le (bits_mul fp.bb fq.bb) (by omega), by omega⟩, fun z => absurd z hden, fun _ r t u fr bt bu hr' => fin r t u fr bt bu hr'⟩

theorem S_over : FnScope ["a", "b"] ["a", "b"] (defScope (top 11)) := ⟨rfl, rfl, rfl, by decide +kernel, rfl, by decide +kernel, by decide +kernel⟩
theorem fn_over {C : Addr} (D_over : Df K mg "over" (top 11)) (F_ratio : Fx P w K mg base "ratio" ["top", "bottom"] 2 [.int 1] (spRatioN C)) : Fn P w K mg base "over" ["a", "b"] 3 (spBin (fun a b c d => a * d) (fun a b c d => b * c)) := by
  refine D_over.fn S_over (fun _ _ _ _ _ _ us hl => match us, hl with | [_, _], _ => rfl) (fun vs H Q E h => ?_) (fun f cdv A outer s H vs Q E hr h => ?_)
  · obtain ⟨p, q, a, b, c, d, n, rfl, _⟩ := h
    rfl
  · obtain ⟨p, q, a, b, c, d, n, rfl, fp, fq, hn, hden, k⟩ := h
    have ep := fp.at_
    have eq := fq.at_
    have cm : ∀ {i j : Int}, bits i ≤ n → bits j ≤ n → CM i j := fun hi hj => CM.b hi hj (Nat.le_trans hn (by decide)) (Nat.le_trans hn (by decide))
    have fin : ∀ (r : Addr) (t u : Int), Frac (a * d) (b * c) t u → bits t ≤ 2 * n + 1 → bits u ≤ 2 * n + 1 → H r = none → Q (.ref r) (upd H r (.tup [.int t, .int u])) := fun r t u fr bt bu hr' => by
      obtain ⟨H1, e1, s1, f1⟩ := grow (o := .tup [.int t, .int u]) hr'
      rw [e1]
      exact k r t u H1 fr ⟨f1, fr.low, bt, bu⟩ s1
    refine ⟨_, (pss_one (ps_ret (pe_fx0 F_ratio (hr.mono (by decide)) (by rfl) (pa_cons (pe_op op_mulX (pe_ix ix_tup (pv 0) pe_int (fun _ _ => rfl)) (pe_ix ix_tup (pv 1) pe_int (fun _ _ => rfl))) (pa_cons (pe_op op_mulX (pe_ix ix_tup (pv 0) pe_int (fun _ _ => rfl)) (pe_ix ix_tup (pv 1) pe_int (fun _ _ => rfl))) pa_nil))))), ?_⟩
    exact ⟨_, rfl, p, _, _, _, rfl, rfl, SqT.of ep, rfl, _, rfl, q, _, _, _, rfl, rfl, SqT.of eq, rfl, _, _, rfl, rfl, cm fp.ba fq.bb, _, rfl, p, _, _, _, rfl, rfl, SqT.of ep, rfl, _, rfl, q, _, _, _, rfl, rfl, SqT.of eq, rfl, _, _, rfl, rfl, cm fp.bb fq.ba, _, _, 2 * n + 1, rfl, ⟨bits_le (bits_mul fp.ba fq.bb) (by omega), bits_le (bits_mul fp.bb fq.ba) (by omega), by omega⟩, fun z => absurd z hden, fun _ r t u fr bt bu hr' => fin r t u fr bt bu hr'⟩

theorem S_less : FnScope ["a", "b"] ["a", "b"] (defScope (top 12)) := ⟨rfl, rfl, rfl, by decide +kernel, rfl, by decide +kernel, by decide +kernel⟩
theorem fn_less (D_less : Df K mg "less" (top 12)) : Fn P w K mg base "less" ["a", "b"] 1 spLs := by
  refine D_less.fn S_less (fun _ _ _ _ _ _ us hl => match us, hl with | [_, _], _ => rfl) (fun vs H Q E h => ?_) (fun f cdv A outer s H vs Q E hr h => ?_)
  · obtain ⟨p, q, a, b, c, d, rfl, _⟩ := h
    rfl
  · obtain ⟨p, q, a, b, c, d, rfl, hp, hq, ⟨ba, bb, bc, bd⟩, k⟩ := h
    refine ⟨_, (pss_one (ps_ret (pe_cmpR op_lt (pe_op op_mulX (pe_ix ix_tup (pv 0) pe_int (fun _ _ => rfl)) (pe_ix ix_tup (pv 1) pe_int (fun _ _ => rfl))) (pe_op op_mulX (pe_ix ix_tup (pv 1) pe_int (fun _ _ => rfl)) (pe_ix ix_tup (pv 0) pe_int (fun _ _ => rfl))) (nomark _)))), ?_⟩
    refine ⟨_, rfl, p, _, _, _, rfl, rfl, SqT.of hp, rfl, _, rfl, q, _, _, _, rfl, rfl, SqT.of hq, rfl, a, d, rfl, rfl, CM.b ba bd (by decide) (by decide), ?_⟩
    refine ⟨_, rfl, q, _, _, _, rfl, rfl, SqT.of hq, rfl, _, rfl, p, _, _, _, rfl, rfl, SqT.of hp, rfl, c, b, rfl, rfl, CM.b bc bb (by decide) (by decide), ?_⟩
    exact ⟨_, _, rfl, rfl, k⟩
theorem S_law_common : FnScope ["one", "other"] ["one", "other"] (defScope (top 31)) := ⟨rfl, rfl, rfl, by decide +kernel, rfl, by decide +kernel, by decide +kernel⟩
theorem fn_law_common (D_law_common : Df K mg "_law_common" (top 31)) : Fn P w K mg base "_law_common" ["one", "other"] 1 spCommon := by
  refine D_law_common.fn S_law_common (fun _ _ _ _ _ _ us hl => match us, hl with | [_, _], _ => rfl) (fun vs H Q E h => ?_) (fun f cdv A outer s H vs Q E hr h => ?_)
  · obtain ⟨a, b, rfl, _⟩ := h
    rfl
  · obtain ⟨a, b, rfl, ha, hb, q⟩ := h
    refine ⟨_, (pss_cons (ps_while PassesOwn.never (pt_cmpR op_gt (pv 1) pe_int (nomark _)) (pss_one (ps_par (i := 0) (j := 1) rfl S_law_common.nd rfl rfl (by decide) rfl rfl (pa_cons (pv 1) (pa_cons (pe_op op_mod (pv 0) (pv 1)) pa_nil)) (by rfl)))) (pss_one (ps_ret (pv 0)))), ?_⟩
    refine while_by (fun σ H' => ∃ x y, σ = [some (.int x), some (.int y)] ∧ H' = H ∧ 0 ≤ x ∧ 0 ≤ y ∧ Int.gcd x y = Int.gcd a b)
      (fun σ _ => match σ with | [_, some (.int y)] => y.toNat | _ => 0) ⟨_, _, rfl, rfl, ha, hb, rfl⟩ ?_ ?_
    · rintro σ H' ⟨x, y, rfl, rfl, hx, hy, hg⟩
      refine ⟨_, rfl, _, _, rfl, rfl, _, rfl, ?_⟩
      refine ite3 (fun hc => ?_) (fun hc => ?_)
      · have hy1 : 0 < y := by simpa using hc
        refine ⟨_, rfl, _, rfl, _, rfl, x, y, rfl, rfl, hy1, _, _, rfl, ⟨y, x % y, rfl, rfl, hy, Int.emod_nonneg _ (by omega), ?_⟩, ?_⟩
        · rw [gcd_step hx hy1]
          exact hg
        · have h1 := Int.emod_lt_of_pos x hy1
          have h2 := Int.emod_nonneg x (show y ≠ 0 by omega)
          show (x % y).toNat < y.toNat
          omega
      · have hy1 : ¬ 0 < y := by simpa using hc
        have hy0 : y = 0 := by omega
        subst hy0
        refine ⟨_, rfl, ?_⟩
        have e : (Int.gcd a b : Int) = x := by rw [← hg]; exact gcd_zero hx
        rw [e] at q
        exact q
    · rintro σ H' Q1 Q2 hq ⟨v, e, i, j, e1, e2, k, ek, r⟩
      exact ⟨v, e, i, j, e1, e2, k, ek, hq _ _ r⟩
theorem S_law_mixed : FnScope ["cell", "k", "number"] ["cell", "k"] (defScope (top 28)) := ⟨rfl, rfl, rfl, by decide +kernel, rfl, by decide +kernel, by decide +kernel⟩
theorem fn_law_mixed (D_law_mixed : Df K mg "_law_mixed" (top 28)) : Fn P w K mg base "_law_mixed" ["cell", "k"] 1 spMixed := by
  refine D_law_mixed.fn S_law_mixed (fun _ _ _ _ _ _ us hl => match us, hl with | [_, _], _ => rfl) (fun vs H Q E h => ?_) (fun f cdv A outer s H vs Q E hr h => ?_)
  · obtain ⟨c, k, rfl, _⟩ := h
    rfl
  · obtain ⟨c, k, rfl, q⟩ := h
    refine ⟨_, (pss_cons (ps_set (i := 2) S_law_mixed.nd rfl (Or.inl rfl) (pe_op op_mod (pe_op op_mulX (pe_op op_add (pe_op op_add (pe_op op_mod (pv 0) pe_int) (pe_op op_mulX pe_int (pv 1))) pe_int) pe_int) pe_int)) (pss_cons (ps_set (i := 2) S_law_mixed.nd rfl (Or.inl rfl) (pe_op op_mod (pe_op op_add (pe_op op_mod (pe_op op_mulX (pv 2) (pv 2)) pe_int) (pe_op op_mulX pe_int (pv 1))) pe_int)) (pss_one (ps_ret (pe_op op_mod (pe_op op_mulX (pv 2) pe_int) pe_int))))), ?_⟩
    refine ⟨_, rfl, c, _, rfl, rfl, (by show (0 : Int) < 2147483629; decide), _, rfl, _, _, rfl, rfl, CM.l ⟨by decide, by decide⟩, _, _, rfl, rfl, _, _, rfl, rfl, _, _, rfl, rfl, CM.r ⟨by decide, by decide⟩, _, _, rfl, rfl, (by show (0 : Int) < 2147483647; decide), ?_⟩
    refine ⟨_, rfl, _, rfl, _, _, rfl, rfl, CM.l (lt64 (Int.emod_nonneg _ (by decide)) (Int.emod_lt_of_pos _ (by decide))), _, _, rfl, rfl, (by show (0 : Int) < 2147483629; decide), _, rfl, _, _, rfl, rfl, CM.l ⟨by decide, by decide⟩, _, _, rfl, rfl, _, _, rfl, rfl, (by show (0 : Int) < 2147483629; decide), ?_⟩
    exact ⟨_, rfl, _, _, rfl, rfl, CM.r ⟨by decide, by decide⟩, _, _, rfl, rfl, (by show (0 : Int) < 2147483647; decide), q _⟩
theorem S_law_numbers : FnScope ["cell", "many", "base", "found", "left", "k", "number", "turns"] ["cell", "many", "base"] (defScope (top 29)) := ⟨rfl, rfl, rfl, by decide +kernel, rfl, by decide +kernel, by decide +kernel⟩
theorem fn_law_numbers (D_law_numbers : Df K mg "_law_numbers" (top 29)) (F_law_mixed : Fn P w K mg base "_law_mixed" ["cell", "k"] 1 spMixed) (T : Txt mg) : Fn P w K mg base "_law_numbers" ["cell", "many", "base"] 2 spNumbers := by
  refine D_law_numbers.fn S_law_numbers (fun _ _ _ _ _ _ us hl => match us, hl with | [_, _, _], _ => rfl) (fun vs H Q E h => ?_) (fun f cdv A outer s H vs Q E hr h => ?_)
  · obtain ⟨c, m, b, rfl, _⟩ := h
    rfl
  · obtain ⟨c, m, b, rfl, hm, ⟨hb, bb⟩, q⟩ := h
    refine ⟨_, (pss_cons (ps_set (i := 3) S_law_numbers.nd rfl (Or.inl rfl) (pe_lst pa_nil)) (pss_cons (ps_set (i := 4) S_law_numbers.nd rfl (Or.inl rfl) (pe_op op_sub (pv 0) (pe_op op_pow pe_int pe_int))) (pss_cons (ps_for PassesOwn.never rfl (pi_range1 rfl T.z_range (pa_cons (pv 1) pa_nil)) (pg_name (i := 5) S_law_numbers.nd rfl (Or.inl rfl)) (pss_cons (ps_set (i := 6) S_law_numbers.nd rfl (Or.inl rfl) (pv 4)) (pss_cons (ps_if (pt_cmpR op_gt (pv 4) pe_int (nomark _)) (pss_one (ps_set (i := 4) S_law_numbers.nd rfl (Or.inl rfl) (pe_op op_fdivP (pv 4) (pv 2)))) (pss_cons (ps_set (i := 6) S_law_numbers.nd rfl (Or.inl rfl) pe_int) (pss_cons (ps_set (i := 7) S_law_numbers.nd rfl (Or.inl rfl) pe_int) (pss_one (ps_while PassesOwn.never (pt_cmpR op_lt (pe_op op_mulX (pv 7) pe_int) (pe_op op_add (pe_bm0 PySem.F.plainAttrs_int PySem.F.slot_int_bit_length PySem.F.type_int_bit_length mt_bitlen (pv 2)) pe_int) (nomark _)) (pss_cons (ps_set (i := 6) S_law_numbers.nd rfl (Or.inl rfl) (pe_op op_add (pe_op op_mulX (pv 6) pe_int) (pe_fn F_law_mixed (hr.mono (by decide)) (by rfl) (pa_cons (pv 0) (pa_cons (pe_op op_add (pe_op op_mulX pe_int (pv 5)) (pv 7)) pa_nil))))) (pss_one (ps_set (i := 7) S_law_numbers.nd rfl (Or.inl rfl) (pe_op op_add (pv 7) pe_int))))))))) (pss_one (ps_expr (pe_bm PySem.F.plainAttrs_list PySem.F.slot_list_append PySem.F.type_list_append mt_append (pv 3) (pa_cons (pe_op op_mod (pv 6) (pv 2)) pa_nil))))))) (pss_one (ps_ret (pv 3)))))), ?_⟩
    -- found = []
    refine ⟨by decide, fun l hl => ?_⟩
    -- left = cell - 10 ** 18
    refine ⟨_, rfl, _, _, rfl, rfl, ⟨by decide, by decide, by decide⟩, _, _, rfl, rfl, ?_⟩
    refine ⟨_, rfl, _, rfl, by omega, by omega, ?_⟩
    rw [Int.toNat_natCast]
    refine for_range (fun i σ H' => ∃ (ns : List Int) (left : Int) (x5 x6 x7 : Option V), σ = [some (.int c), some (.int (m : Int)), some (.int b), some (.ref l), some (.int left), x5, x6, x7] ∧ Same H H' ∧ H' l = some (.lst (ns.map V.int)) ∧ ns.length = i ∧ ∀ n ∈ ns, 0 ≤ n ∧ n < b)
      ⟨[], _, _, _, _, rfl, Same.new hl, upd_same, rfl, fun n h => nomatch h⟩ ?_ ?_
    · rintro i σ H' hi ⟨ns, left, x5, x6, x7, rfl, sm, hl', hlen, hns⟩
      -- number = left; if left > 0
      refine ⟨_, rfl, ?_⟩
      refine ⟨_, rfl, _, _, rfl, rfl, _, rfl, ?_⟩
      have tail : ∀ (n left' : Int) (x7' : Option V), (tDrop (tBM K "list" rAppend (tVar 3) (tCons (tOp (rI (fun _ j => 0 < j) fun i j => .int (i % j)) (tVar 6) (tVar 2)) tNil))) { nx := fun σ H' => ∃ (ns : List Int) (left : Int) (x5 x6 x7 : Option V), σ = [some (.int c), some (.int (m : Int)), some (.int b), some (.ref l), some (.int left), x5, x6, x7] ∧ Same H H' ∧ H' l = some (.lst (ns.map V.int)) ∧ ns.length = i + 1 ∧ ∀ n ∈ ns, 0 ≤ n ∧ n < b, rt := Q } [some (.int c), some (.int (m : Int)), some (.int b), some (.ref l), some (.int left'), some (.int (0 + (i : Int))), some (.int n), x7'] H' := by
        intro n left' x7'
        refine ⟨_, rfl, .inl ⟨rfl, _, SqL.of hl'⟩, _, rfl, _, rfl, n, b, rfl, rfl, hb, l, _, _, rfl, rfl, hl', ?_, ?_⟩
        · rw [List.length_map]
          exact small1000 (by omega)
        · refine ⟨ns ++ [n % b], left', _, _, _, rfl, ?_, ?_, ?_, ?_⟩
          · intro a o ea
            rw [upd_ne (ne_of_none ea hl)]
            exact sm a o ea
          · rw [upd_same, List.map_append]
            rfl
          · rw [List.length_append, hlen]
            rfl
          · intro y hy
            rcases List.mem_append.mp hy with hy | hy
            · exact hns y hy
            · rw [List.mem_singleton.mp hy]
              exact ⟨Int.emod_nonneg _ (by omega), Int.emod_lt_of_pos _ hb⟩
      refine ite3 (fun hc => ?_) (fun hc => ?_)
      · refine ⟨_, rfl, _, rfl, _, _, rfl, rfl, ⟨hb, bits_le bb (by decide)⟩, ?_⟩
        exact tail left (left / b) x7
      · refine while_by (fun σ H2 => ∃ (n t : Int), σ = [some (.int c), some (.int (m : Int)), some (.int b), some (.ref l), some (.int left), some (.int (0 + (i : Int))), some (.int n), some (.int t)] ∧ H2 = H' ∧ 0 ≤ t)
          (fun σ _ => match σ with | [_, _, _, _, _, _, _, some (.int t)] => (((bits b : Nat) : Int) + 8 - t).toNat | _ => 0) ⟨_, _, rfl, rfl, Int.le_refl 0⟩ ?_ ?_
        · rintro σ H2 ⟨n, t, rfl, rfl, ht⟩
          refine ⟨_, rfl, _, _, rfl, rfl, CM.r ⟨by decide, by decide⟩, _, rfl, rfl, b, rfl, rfl, _, _, rfl, rfl, _, _, rfl, rfl, _, rfl, ?_⟩
          refine ite3 (fun hd => ?_) (fun hd => ?_)
          · have hd' : t * 30 < ((bits b : Nat) : Int) + 8 := by simpa using hd
            refine ⟨_, rfl, _, _, rfl, rfl, CM.r ⟨by decide, by decide⟩, _, rfl, _, rfl, _, _, rfl, rfl, CM.l ⟨by decide, by decide⟩, _, rfl, _, _, rfl, rfl, c, _, rfl, fun z => ⟨_, _, rfl, rfl, ?_⟩⟩
            refine ⟨_, rfl, _, _, rfl, rfl, ⟨_, t + 1, rfl, rfl, by omega⟩, ?_⟩
            show (((bits b : Nat) : Int) + 8 - (t + 1)).toNat < (((bits b : Nat) : Int) + 8 - t).toNat
            omega
          · exact tail n left _
        · rintro σ H2 Q1 Q2 hq h
          obtain ⟨v, e, i1, j1, e1, e2, cm, v2, e3, ty, i2, e4, e5, i3, j3, e6, e7, i4, j4, e8, e9, k, ek, r⟩ := h
          exact ⟨v, e, i1, j1, e1, e2, cm, v2, e3, ty, i2, e4, e5, i3, j3, e6, e7, i4, j4, e8, e9, k, ek, hq _ _ r⟩
    · rintro σ H' ⟨ns, left, x5, x6, x7, rfl, sm, hl', hlen, hns⟩
      refine ⟨_, rfl, ?_⟩
      exact q l ns H' hlen hns sm hl'

theorem S_law_line : FnScope ["numbers", "sizes", "many", "most", "wide", "corners", "k", "x", "y"] ["numbers", "sizes"] (defScope (top 33)) := ⟨rfl, rfl, rfl, by decide +kernel, rfl, by decide +kernel, by decide +kernel⟩
theorem fn_law_line (D_law_line : Df K mg "_law_line" (top 33)) (T : Txt mg) : Fn P w K mg base "_law_line" ["numbers", "sizes"] 1 spLine := by
  refine D_law_line.fn S_law_line (fun _ _ _ _ _ _ us hl => match us, hl with | [_, _], _ => rfl) (fun vs H Q E h => ?_) (fun f cdv A outer s H vs Q E hr h => ?_)
  · obtain ⟨pn, ns, m, rfl, _⟩ := h
    rfl
  · obtain ⟨pn, ns, m, rfl, en, hm1, hm10, hlen, q⟩ := h
    -- corners.append((x, y))
    have R2 : ∃ u : TS, PSs (cxOf CX0 P w K mg base ["numbers", "sizes", "many", "most", "wide", "corners", "k", "x", "y"] "_law_line" (defScope (top 33)) f cdv A outer s H E).nox ((forBody ((defBody (top 33)).getD 4 (.Pass ⟨0, 0, 0, 0⟩))).drop 4) u ∧ ∀ (D : Ends) (H4 H' : Hp) (pc : Addr) (qs : List (Addr × Int × Int)) (z0 z1 z2 z3 z4 z6 : Option V) (x y : Int),
        H4 pc = none → Same H4 H' → LineAt H' pc qs → qs.length ≤ 20 → bits x ≤ 50 → bits y ≤ 50 →
        (∀ (q : Addr) (H'' : Hp), Same H4 H'' → LineAt H'' pc (qs ++ [(q, x, y)]) → D.nx [z0, z1, z2, z3, z4, some (.ref pc), z6, some (.int x), some (.int y)] H'') →
        u D [z0, z1, z2, z3, z4, some (.ref pc), z6, some (.int x), some (.int y)] H' := by
      refine ⟨_, (pss_one (ps_expr (pe_bm PySem.F.plainAttrs_list PySem.F.slot_list_append PySem.F.type_list_append mt_append (pv 5) (pa_cons (pe_tup (pa_cons (pv 7) (pa_cons (pv 8) pa_nil))) pa_nil)))), ?_⟩
      intro D H4 H' pc qs z0 z1 z2 z3 z4 z6 x y hpc sm L hq20 bx by' nx
      refine ⟨_, rfl, .inl ⟨rfl, _, SqL.of L.lst⟩, _, rfl, _, rfl, sz (by simp), fun r hr' => ?_⟩
      obtain ⟨H5, e5, s5, f5⟩ := grow (o := .tup [.int x, .int y]) hr'
      rw [e5]
      have L5 := L.mono s5
      refine ⟨pc, _, _, rfl, rfl, L5.lst, small1000 (by rw [List.length_map]; omega), nx r _ (fun b o eb => ?_) ⟨?_, fun z hz => ?_⟩⟩
      · rw [upd_ne (ne_of_none eb hpc)]
        exact s5 _ _ (sm b o eb)
      · rw [upd_same, List.map_append]
        rfl
      · rcases List.mem_append.mp hz with hz | hz
        · have z1 := L5.crn z hz
          rw [upd_ne (ne_of z1.1 L5.lst (by intro y; cases y))]
          exact z1
        · rw [List.mem_singleton.mp hz, upd_ne (ne_of f5 L5.lst (by intro y; cases y))]
          exact ⟨f5, bx, by'⟩
    obtain ⟨u2, hu2, rd2⟩ := R2
    have hm0 := Int.emod_nonneg ns[0] (show (m : Int) ≠ 0 by omega)
    have hm1' := Int.emod_lt_of_pos ns[0] (show (0 : Int) < (m : Int) by omega)
    -- the second if
    have R1 : ∃ u : TS, PSs (cxOf CX0 P w K mg base ["numbers", "sizes", "many", "most", "wide", "corners", "k", "x", "y"] "_law_line" (defScope (top 33)) f cdv A outer s H E).nox ((forBody ((defBody (top 33)).getD 4 (.Pass ⟨0, 0, 0, 0⟩))).drop 3) u ∧ ∀ (D : Ends) (H4 H' : Hp) (pc : Addr) (qs : List (Addr × Int × Int)) (z1 z2 z3 z4 : Option V) (x y : Int),
        H4 pc = none → Same H H4 → Same H4 H' → LineAt H' pc qs → qs.length < 10 → qs.length < m → bits x ≤ 50 → bits y ≤ 50 →
        (∀ (q : Addr) (x y : Int) (H'' : Hp), Same H4 H'' → LineAt H'' pc (qs ++ [(q, x, y)]) → D.nx [some (.ref pn), z1, z2, z3, z4, some (.ref pc), some (.int (0 + (qs.length : Int))), some (.int x), some (.int y)] H'') →
        u D [some (.ref pn), z1, z2, z3, z4, some (.ref pc), some (.int (0 + (qs.length : Int))), some (.int x), some (.int y)] H' := by
      refine ⟨_, pss_cons (ps_if (pw_and (pt_cmpR op_eq (pe_op op_mod (pe_ix ix_list (pv 0) pe_int (fun _ _ => rfl)) pe_int) pe_int (nomark _)) (pw_and (pt_cmpR op_gt (pv 6) pe_int (nomark _)) (pw_and1 (pt_cmpR op_eq (pe_op op_mod (pe_op op_fdivP (pe_ix ix_list (pv 0) (pe_op op_add pe_int (pe_op op_mulX pe_int (pv 6))) (fun _ _ => rfl)) pe_int) pe_int) pe_int (nomark _))))).pt (pss_one (ps_asg (pe_ix ix_list (pv 5) (pe_op op_sub (pv 6) pe_int) (fun _ _ => rfl)) (pg_tup rfl (pgs_cons (pg_name (i := 7) S_law_line.nd rfl (Or.inl rfl)) (pgs_cons (pg_name (i := 8) S_law_line.nd rfl (Or.inl rfl)) pgs_nil))))) pss_nil) hu2, ?_⟩
      intro D H4 H' pc qs z1 z2 z3 z4 x y hpc s4 sm L h10 hqm bx by' nx
      have en' := sm _ _ (s4 _ _ en)
      have go : u2 D [some (.ref pn), z1, z2, z3, z4, some (.ref pc), some (.int (0 + (qs.length : Int))), some (.int x), some (.int y)] H' := rd2 D H4 H' pc qs _ _ _ _ _ _ x y hpc sm L (by omega) bx by' fun r H'' a b => nx r x y H'' a b
      refine ⟨_, rfl, pn, _, _, _, rfl, rfl, SqL.of en', at_int 2 rfl (by omega), _, _, rfl, rfl, (by show (0 : Int) < 4; decide), rfl, _, rfl, ite3 (fun _ => ?_) (fun _ => iteF go)⟩
      refine ⟨_, rfl, _, _, rfl, rfl, _, rfl, ite3 (fun hk => ?_) (fun _ => iteF go)⟩
      have hk' : 0 < qs.length := by
        have z : (0 : Int) < 0 + (qs.length : Int) := by simpa using hk
        omega
      refine ⟨_, rfl, _, rfl, _, _, rfl, rfl, CM.l ⟨by decide, by decide⟩, _, _, rfl, rfl, pn, _, _, _, rfl, rfl, SqL.of en', at_int (4 + 2 * qs.length) (by omega) (by omega), _, _, rfl, rfl, ⟨by decide, bits_le (m := 5) (by decide +kernel) (by decide)⟩, _, _, rfl, rfl, (by show (0 : Int) < 3; decide), rfl, _, rfl, ite3 (fun _ => ?_) (fun _ => go)⟩
      obtain ⟨v, hv, mv⟩ := atI_mem (xs := qs.map fun q => V.ref q.1) (k := 0 + (qs.length : Int) - 1) (by omega) (by rw [List.length_map]; omega)
      obtain ⟨z, hz, ez⟩ := List.mem_map.mp mv
      subst ez
      have cz := L.crn z hz
      exact ⟨_, rfl, _, rfl, _, _, rfl, rfl, pc, _, _, _, rfl, rfl, SqL.of L.lst, hv, z.1, _, rfl, SqT.of cz.1, rfl, _, _, rfl, _, _, rfl, rfl, rd2 D H4 H' pc qs _ _ _ _ _ _ z.2.1 z.2.2 hpc sm L (by omega) cz.2.1 cz.2.2 fun r H'' a b => nx r _ _ H'' a b⟩
    obtain ⟨u1, hu1, rd1⟩ := R1
    refine ⟨_, pss_cons (ps_set (i := 2) S_law_line.nd rfl (Or.inl rfl) (pe_op op_add pe_int (pe_op op_mod (pe_ix ix_list (pv 0) pe_int (fun _ _ => rfl)) (pv 1)))) (pss_cons (ps_set (i := 3) S_law_line.nd rfl (Or.inl rfl) (pe_op op_sub (pe_op op_pow pe_int pe_int) pe_int)) (pss_cons (ps_set (i := 4) S_law_line.nd rfl (Or.inl rfl) (pe_ix ix_list (pe_lst (pa_cons pe_int (pa_cons pe_int (pa_cons pe_int (pa_cons (pv 3) pa_nil))))) (pe_op op_mod (pe_ix ix_list (pv 0) pe_int (fun _ _ => rfl)) pe_int) (fun _ _ => rfl))) (pss_cons (ps_set (i := 5) S_law_line.nd rfl (Or.inl rfl) (pe_lst pa_nil)) (pss_cons (ps_for PassesOwn.never rfl (pi_range1 rfl T.z_range (pa_cons (pv 2) pa_nil)) (pg_name (i := 6) S_law_line.nd rfl (Or.inl rfl)) (pss_cons (ps_set (i := 7) S_law_line.nd rfl (Or.inl rfl) (pe_op op_sub (pe_op op_mod (pe_ix ix_list (pv 0) (pe_op op_add pe_int (pe_op op_mulX pe_int (pv 6))) (fun _ _ => rfl)) (pe_op op_add (pe_op op_mulX pe_int (pv 4)) pe_int)) (pv 4))) (pss_cons (ps_set (i := 8) S_law_line.nd rfl (Or.inl rfl) (pe_op op_sub (pe_op op_mod (pe_ix ix_list (pv 0) (pe_op op_add pe_int (pe_op op_mulX pe_int (pv 6))) (fun _ _ => rfl)) (pe_op op_add (pe_op op_mulX pe_int (pv 4)) pe_int)) (pv 4))) (pss_cons (ps_if (pt_cmpR op_eq (pe_op op_mod (pe_ix ix_list (pv 0) pe_int (fun _ _ => rfl)) pe_int) pe_int (nomark _)) (pss_one (ps_set (i := 8) S_law_line.nd rfl (Or.inl rfl) (pe_ix ix_list (pe_lst (pa_cons pe_int (pa_cons (pv 7) pa_nil))) (pe_op op_mod (pe_ix ix_list (pv 0) pe_int (fun _ _ => rfl)) pe_int) (fun _ _ => rfl)))) pss_nil) hu1)))) (pss_one (ps_ret (pv 5))))))), ?_⟩
    -- many, most, wide, corners
    refine ⟨_, rfl, pn, _, _, _, rfl, rfl, SqL.of en, at_int 0 rfl (by omega), _, rfl, _, _, rfl, rfl, (by show (0 : Int) < (m : Int); omega), _, _, rfl, rfl, ?_⟩
    refine ⟨_, _, rfl, rfl, ⟨by decide, by decide, by decide⟩, _, _, rfl, rfl, ?_⟩
    have e12 : ((10 : Int) ^ (12 : Int).toNat - 1) = 999999999999 := by decide +kernel
    refine ⟨_, rfl, sz (by simp), fun pw hw => ?_⟩
    obtain ⟨H1, e1, s1, f1⟩ := grow (o := .lst [.int 1, .int 3, .int 7, .int (10 ^ (12 : Int).toNat - 1)]) hw
    rw [e1]
    have hv0 := Int.emod_nonneg ns[1] (show (4 : Int) ≠ 0 by decide)
    have hv1 := Int.emod_lt_of_pos ns[1] (show (0 : Int) < 4 by decide)
    obtain ⟨vb, hvb, mvb⟩ := atI_mem (xs := [V.int 1, .int 3, .int 7, .int (10 ^ (12 : Int).toNat - 1)]) hv0 hv1
    obtain ⟨wd, rfl, hw0, hw1⟩ : ∃ wd : Int, vb = .int wd ∧ 1 ≤ wd ∧ wd ≤ 999999999999 := by
      simp only [List.mem_cons, List.not_mem_nil, or_false] at mvb
      rcases mvb with rfl | rfl | rfl | rfl
      · exact ⟨_, rfl, by decide, by decide⟩
      · exact ⟨_, rfl, by decide, by decide⟩
      · exact ⟨_, rfl, by decide, by decide⟩
      · exact ⟨_, rfl, by rw [e12]; decide, by rw [e12]; decide⟩
    refine ⟨_, rfl, pn, _, _, _, rfl, rfl, SqL.of (s1 _ _ en), at_int 1 rfl (by omega), _, _, rfl, rfl, (by show (0 : Int) < 4; decide), pw, _, _, _, rfl, rfl, SqL.of f1, hvb, ?_⟩
    refine ⟨sz (by simp), fun pc hpc => ?_⟩
    obtain ⟨H2, e2, s2, f2⟩ := grow (o := .lst []) hpc
    rw [e2]
    have hM : ∃ M : Nat, ((1 : Int) + ns[0] % (m : Int)) = (M : Int) ∧ 1 ≤ M ∧ M ≤ m := ⟨((1 : Int) + ns[0] % (m : Int)).toNat, by omega, by omega, by omega⟩
    obtain ⟨M, eM, hM1, hM2⟩ := hM
    refine ⟨_, rfl, _, rfl, by omega, by omega, ?_⟩
    rw [eM, Int.toNat_natCast]
    have low : ∀ a : Int, bits (a % (2 * wd + 1) - wd) ≤ 50 := fun a => by
      have g0 := Int.emod_nonneg a (show (2 * wd + 1) ≠ 0 by omega)
      have g1 := Int.emod_lt_of_pos a (show (0 : Int) < 2 * wd + 1 by omega)
      refine bits_of (n := 50) ?_
      show _ < 1125899906842624
      omega
    refine for_range (fun i σ H' => ∃ (qs : List (Addr × Int × Int)) (z2 z3 z6 z7 z8 : Option V), σ = [some (.ref pn), some (.int (m : Int)), z2, z3, some (.int wd), some (.ref pc), z6, z7, z8] ∧ Same H1 H' ∧ LineAt H' pc qs ∧ qs.length = i)
      ⟨[], _, _, _, _, _, rfl, s2, ⟨f2, fun z h => nomatch h⟩, rfl⟩ ?_ ?_
    · rintro i σ H' hi ⟨qs, z2, z3, z6, z7, z8, rfl, sm, L, rfl⟩
      have en' := sm _ _ (s1 _ _ en)
      refine ⟨_, rfl, _, rfl, _, _, rfl, rfl, CM.l ⟨by decide, by decide⟩, _, _, rfl, rfl, pn, _, _, _, rfl, rfl, SqL.of en', at_int (4 + 2 * qs.length) (by omega) (by omega), _, rfl, _, _, rfl, rfl, CM.l ⟨by decide, by decide⟩, _, _, rfl, rfl, _, _, rfl, rfl, (by show (0 : Int) < 2 * wd + 1; omega), _, rfl, _, _, rfl, rfl, ?_⟩
      refine ⟨_, rfl, _, rfl, _, _, rfl, rfl, CM.l ⟨by decide, by decide⟩, _, _, rfl, rfl, pn, _, _, _, rfl, rfl, SqL.of en', at_int (5 + 2 * qs.length) (by omega) (by omega), _, rfl, _, _, rfl, rfl, CM.l ⟨by decide, by decide⟩, _, _, rfl, rfl, _, _, rfl, rfl, (by show (0 : Int) < 2 * wd + 1; omega), _, rfl, _, _, rfl, rfl, ?_⟩
      refine ⟨_, rfl, pn, _, _, _, rfl, rfl, SqL.of en', at_int 2 rfl (by omega), _, _, rfl, rfl, (by show (0 : Int) < 4; decide), rfl, _, rfl, ite3 (fun _ => ?_) (fun _ => ?_)⟩
      · refine ⟨_, rfl, sz (by simp), fun p3 h3 => ?_⟩
        obtain ⟨H3, e3, s3, f3⟩ := grow (o := .lst [.int 0, .int (ns[4 + 2 * qs.length] % (2 * wd + 1) - wd)]) h3
        show (fun (H3' : Hp) => _) (upd H' p3 (.lst [.int 0, .int (ns[4 + 2 * qs.length] % (2 * wd + 1) - wd)]))
        rw [e3]
        have g0 := Int.emod_nonneg ns[3] (show (2 : Int) ≠ 0 by decide)
        have g1 := Int.emod_lt_of_pos ns[3] (show (0 : Int) < 2 by decide)
        obtain ⟨vy, hvy, mvy⟩ := atI_mem (xs := [V.int 0, .int (ns[4 + 2 * qs.length] % (2 * wd + 1) - wd)]) g0 g1
        obtain ⟨yy, rfl, byy⟩ : ∃ yy : Int, vy = .int yy ∧ bits yy ≤ 50 := by
          simp only [List.mem_cons, List.not_mem_nil, or_false] at mvy
          rcases mvy with rfl | rfl
          · exact ⟨_, rfl, bits_le (bits_small (by decide) (by decide)) (by decide)⟩
          · exact ⟨_, rfl, low _⟩
        exact ⟨_, rfl, pn, _, _, _, rfl, rfl, SqL.of (s3 _ _ en'), at_int 3 rfl (by omega), _, _, rfl, rfl, (by show (0 : Int) < 2; decide), p3, _, _, _, rfl, rfl, SqL.of f3, hvy,
          rd1 _ H1 H3 pc qs _ _ _ _ _ yy hpc s1 (sm.trans s3) (L.mono s3) (by omega) (by omega) (low _) byy fun r x y H'' a b => ⟨qs ++ [(r, x, y)], _, _, _, _, _, rfl, a, b, by simp⟩⟩
      · exact rd1 _ H1 H' pc qs _ _ _ _ _ _ hpc s1 sm L (by omega) (by omega) (low _) (low _) fun r x y H'' a b => ⟨qs ++ [(r, x, y)], _, _, _, _, _, rfl, a, b, by simp⟩
    · rintro σ H' ⟨qs, z2, z3, z6, z7, z8, rfl, sm, L, hl⟩
      exact ⟨_, rfl, q pc qs H' L (by omega) (by omega) (s1.trans sm)⟩

theorem S_law_place : FnScope ["line", "way", "number", "last", "bottom", "top", "by"] ["line", "way", "number"] (defScope (top 34)) := ⟨rfl, rfl, rfl, by decide +kernel, rfl, by decide +kernel, by decide +kernel⟩
theorem fn_law_place (D_law_place : Df K mg "_law_place" (top 34)) (F_law_common : Fn P w K mg base "_law_common" ["one", "other"] 1 spCommon) (T : Txt mg) : Fn P w K mg base "_law_place" ["line", "way", "number"] 2 spPlaceL := by
  refine D_law_place.fn S_law_place (fun _ _ _ _ _ _ us hl => match us, hl with | [_, _, _], _ => rfl) (fun vs H Q E h => ?_) (fun f cdv A outer s H vs Q E hr h => ?_)
  · obtain ⟨p, xs, v, n, rfl, _⟩ := h
    rfl
  · obtain ⟨p, xs, v, n, rfl, e, h1, h20, hn, q⟩ := h
    refine ⟨_, (pss_cons (ps_set (i := 3) S_law_place.nd rfl (Or.inl rfl) (pe_op op_sub (pe_callB call_len_seq (by rfl) T.z_len bt_len (pa_cons (pv 0) pa_nil)) pe_int)) (pss_cons (ps_if (pw_or (pt_cmpR op_eq (pe_op op_mod (pv 1) pe_int) pe_int (nomark _)) (pw_or1 (pt_cmpR op_eq (pv 3) pe_int (nomark _)))).pt (pss_one (ps_ret (pe_tup (pa_cons (pe_op op_mod (pv 2) (pe_op op_add (pv 3) pe_int)) (pa_cons pe_int pa_nil))))) pss_nil) (pss_cons (ps_set (i := 4) S_law_place.nd rfl (Or.inl rfl) (pe_ix ix_list (pe_lst (pa_cons (pe_op op_add pe_int (pe_op op_mod (pe_op op_fdivP (pv 2) pe_int) pe_int)) (pa_cons pe_int (pa_cons (pe_op op_add (pe_op op_pow pe_int pe_int) pe_int) pa_nil)))) (pe_op op_mod (pe_op op_fdivP (pv 1) pe_int) pe_int) (fun _ _ => rfl))) (pss_cons (ps_set (i := 5) S_law_place.nd rfl (Or.inl rfl) (pe_op op_mod (pv 2) (pe_op op_add (pe_op op_mulX (pv 3) (pv 4)) pe_int))) (pss_cons (ps_set (i := 6) S_law_place.nd rfl (Or.inl rfl) (pe_fn F_law_common (hr.mono (by decide)) (by rfl) (pa_cons (pv 5) (pa_cons (pv 4) pa_nil)))) (pss_one (ps_ret (pe_tup (pa_cons (pe_op op_fdivP (pv 5) (pv 6)) (pa_cons (pe_op op_fdivP (pv 4) (pv 6)) pa_nil)))))))))), ?_⟩
    refine ⟨_, rfl, p, xs, rfl, .inl (SqL.of e), _, _, rfl, rfl, ?_⟩
    have hm0 := Int.emod_nonneg n (show ((xs.length : Int) - 1 + 1) ≠ 0 by omega)
    have hm1 := Int.emod_lt_of_pos n (show (0 : Int) < (xs.length : Int) - 1 + 1 by omega)
    have fin1 : ∀ r, H r = none → Q (.ref r) (upd H r (.tup [.int (n % ((xs.length : Int) - 1 + 1)), .int 1])) := fun r hr' => by
      obtain ⟨H1, e1, s1, f1⟩ := grow (o := .tup [.int (n % ((xs.length : Int) - 1 + 1)), .int 1]) hr'
      rw [e1]
      exact q r _ 1 H1 ⟨Int.le_refl 1, Int.gcd_one⟩ hm0 (by omega) (bits_le (bits_small (by omega) (by omega)) (by decide)) (bits_le (m := 1) (by decide) (by decide)) s1 f1
    refine ⟨_, rfl, _, _, rfl, rfl, (by show (0 : Int) < 4; decide), rfl, _, rfl, ite3 (fun _ => iteT ?_) (fun _ => ?_)⟩
    · exact ⟨_, rfl, _, rfl, _, _, rfl, rfl, _, _, rfl, rfl, (by show (0 : Int) < _; omega), sz (by simp), fin1⟩
    refine ⟨_, rfl, rfl, _, rfl, ite3 (fun _ => ?_) (fun _ => ?_)⟩
    · exact ⟨_, rfl, _, rfl, _, _, rfl, rfl, _, _, rfl, rfl, (by show (0 : Int) < _; omega), sz (by simp), fin1⟩
    have e16 : ((10 : Int) ^ (16 : Int).toNat + 61) = 10000000000000061 := by decide +kernel
    refine ⟨_, rfl, _, _, rfl, rfl, ⟨by decide, bits_le (m := 4) (by decide +kernel) (by decide)⟩, _, _, rfl, rfl, (by show (0 : Int) < 12; decide), _, _, rfl, rfl, _, _, rfl, rfl, ⟨by decide, by decide, by decide⟩, _, _, rfl, rfl, sz (by simp), fun pw hw => ?_⟩
    obtain ⟨H1, e1, s1, f1⟩ := grow (o := .lst [.int (1 + n / 10 % 12), .int 2, .int (10 ^ (16 : Int).toNat + 61)]) hw
    rw [e1]
    have hv0 := Int.emod_nonneg (v / 4) (show (3 : Int) ≠ 0 by decide)
    have hv1 := Int.emod_lt_of_pos (v / 4) (show (0 : Int) < 3 by decide)
    obtain ⟨vb, hvb, mvb⟩ := atI_mem (xs := [V.int (1 + n / 10 % 12), .int 2, .int (10 ^ (16 : Int).toNat + 61)]) hv0 hv1
    obtain ⟨bot, rfl, hb0, hb1⟩ : ∃ bot : Int, vb = .int bot ∧ 0 < bot ∧ bot ≤ 10000000000000061 := by
      have g0 := Int.emod_nonneg (n / 10) (show (12 : Int) ≠ 0 by decide)
      have g1 := Int.emod_lt_of_pos (n / 10) (show (0 : Int) < 12 by decide)
      simp only [List.mem_cons, List.not_mem_nil, or_false] at mvb
      rcases mvb with rfl | rfl | rfl
      · exact ⟨_, rfl, by omega, by omega⟩
      · exact ⟨_, rfl, by decide, by decide⟩
      · exact ⟨_, rfl, by rw [e16]; decide, by rw [e16]; decide⟩
    have bbot : bits bot ≤ 60 := by
      refine bits_of (n := 60) ?_
      show _ < 1152921504606846976
      omega
    refine ⟨_, rfl, _, _, rfl, rfl, ⟨by decide, bits_le (m := 3) (by decide +kernel) (by decide)⟩, _, _, rfl, rfl, (by show (0 : Int) < 3; decide), pw, _, _, _, rfl, rfl, SqL.of f1, hvb, ?_⟩
    have hlb : 0 ≤ ((xs.length : Int) - 1) * bot := Int.mul_nonneg (by omega) (by omega)
    refine ⟨_, rfl, _, rfl, _, rfl, _, _, rfl, rfl, CM.l (lt64s (by omega) (by omega)), _, _, rfl, rfl, _, _, rfl, rfl, (by show (0 : Int) < _; omega), ?_⟩
    have ht0 := Int.emod_nonneg n (show (((xs.length : Int) - 1) * bot + 1) ≠ 0 by omega)
    have ht1 := Int.emod_lt_of_pos n (show (0 : Int) < ((xs.length : Int) - 1) * bot + 1 by omega)
    have btop : bits (n % (((xs.length : Int) - 1) * bot + 1)) ≤ 70 := bits_range (b := ((xs.length : Int) - 1) * bot) ht0 (by omega) (bits_mul (bits_small (by omega) (by omega)) bbot)
    refine ⟨_, rfl, _, rfl, _, bot, rfl, ht0, by omega, ?_⟩
    have fin2 : ∀ top : Int, 0 ≤ top → top < ((xs.length : Int) - 1) * bot + 1 → bits top ≤ 70 → ∀ r, H1 r = none → Q (.ref r) (upd H1 r (.tup [.int (top / (Int.gcd top bot : Int)), .int (bot / (Int.gcd top bot : Int))])) := fun top ht0 ht1 btop r hr' => by
      have hg := gcd_pos (a := top) (b := bot) (by omega)
      obtain ⟨H2, e2, s2, f2⟩ := grow (o := .tup [.int (top / (Int.gcd top bot : Int)), .int (bot / (Int.gcd top bot : Int))]) hr'
      rw [e2]
      refine q r _ _ H2 (div_low hb0) (Int.ediv_nonneg ht0 (by omega)) ?_ (bits_le (bits_ediv hg btop) (by decide)) (bits_ediv hg bbot) (s1.trans s2) f2
      have d1 := div_eq top bot
      have d2 := div_eq' top bot
      have d3 : top / (Int.gcd top bot : Int) * (Int.gcd top bot : Int) ≤ ((xs.length : Int) - 1) * (bot / (Int.gcd top bot : Int)) * (Int.gcd top bot : Int) := by
        rw [← d1, Int.mul_assoc, ← d2]
        omega
      exact Int.le_of_mul_le_mul_right d3 hg
    have hg := gcd_pos (a := n % (((xs.length : Int) - 1) * bot + 1)) (b := bot) (by omega)
    have bg : bits (Int.gcd (n % (((xs.length : Int) - 1) * bot + 1)) bot : Int) ≤ 8000 := bits_le (gcd_bits hb0 bbot) (by decide)
    exact ⟨_, rfl, _, rfl, _, _, rfl, rfl, ⟨hg, bg⟩, _, rfl, _, rfl, _, _, rfl, rfl, ⟨hg, bg⟩, sz (by simp), fun r hr' => fin2 _ ht0 ht1 btop r hr'⟩

theorem S_number_at : FnScope ["begin", "end", "place", "rest"] ["begin", "end", "place"] (defScope (top 20)) := ⟨rfl, rfl, rfl, by decide +kernel, rfl, by decide +kernel, by decide +kernel⟩
theorem fn_number_at {C : Addr} (D_number_at : Df K mg "number_at" (top 20)) (F_ratio : Fx P w K mg base "ratio" ["top", "bottom"] 2 [.int 1] (spRatioN C)) : Fn P w K mg base "number_at" ["begin", "end", "place"] 3 spNumAt := by
  refine D_number_at.fn S_number_at (fun _ _ _ _ _ _ us hl => match us, hl with | [_, _, _], _ => rfl) (fun vs H Q E h => ?_) (fun f cdv A outer s H vs Q E hr h => ?_)
  · obtain ⟨x, y, p, t, b, rfl, _⟩ := h
    rfl
  · obtain ⟨x, y, p, t, b, rfl, fp, bx, by', k⟩ := h
    have hb := fp.low.pos
    have ep := fp.at_
    have br : bits (t % b) ≤ 200 := bits_range (Int.emod_nonneg _ (by omega)) (Int.le_of_lt (Int.emod_lt_of_pos _ (by omega))) fp.bb
    refine ⟨_, (pss_cons (ps_set (i := 3) S_number_at.nd rfl (Or.inl rfl) (pe_op op_mod (pe_ix ix_tup (pv 2) pe_int (fun _ _ => rfl)) (pe_ix ix_tup (pv 2) pe_int (fun _ _ => rfl)))) (pss_one (ps_ret (pe_fx0 F_ratio (hr.mono (by decide)) (by rfl) (pa_cons (pe_op op_add (pe_op op_mulX (pv 0) (pe_ix ix_tup (pv 2) pe_int (fun _ _ => rfl))) (pe_op op_mulX (pe_op op_sub (pv 1) (pv 0)) (pv 3))) (pa_cons (pe_ix ix_tup (pv 2) pe_int (fun _ _ => rfl)) pa_nil)))))), ?_⟩
    refine ⟨_, rfl, p, _, _, _, rfl, rfl, SqT.of ep, rfl, _, rfl, p, _, _, _, rfl, rfl, SqT.of ep, rfl, _, _, rfl, rfl, (by show (0 : Int) < b; omega), ?_⟩
    refine ⟨_, rfl, _, rfl, p, _, _, _, rfl, rfl, SqT.of ep, rfl, _, _, rfl, rfl, CM.b bx fp.bb (by decide) (by decide), _, rfl, _, rfl, _, _, rfl, rfl, _, rfl, _, _, rfl, rfl, CM.b (bits_sub by' bx) br (by decide) (by decide), _, _, rfl, rfl, ?_⟩
    refine ⟨_, rfl, p, _, _, _, rfl, rfl, SqT.of ep, rfl, _, _, 262, rfl, ⟨bits_le (bits_add (n := 261) (bits_le (bits_mul bx fp.bb) (by decide)) (bits_mul (bits_sub by' bx) br)) (by decide), bits_le fp.bb (by decide), by decide⟩, fun z => absurd z (by omega), fun _ r u v fr bu bv hr' => ?_⟩
    obtain ⟨H1, e1, s1, f1⟩ := grow (o := .tup [.int u, .int v]) hr'
    rw [e1]
    exact k r u v H1 fr ⟨f1, fr.low, bu, bv⟩ s1
theorem S_point_at : FnScope ["line", "place", "corner", "begin", "end"] ["line", "place"] (defScope (top 21)) := ⟨rfl, rfl, rfl, by decide +kernel, rfl, by decide +kernel, by decide +kernel⟩
theorem fn_point_at {C : Addr} (D_point_at : Df K mg "point_at" (top 21)) (F_look_at_place : Fx P w K mg base "look_at_place" ["line", "thing"] 4 [] (spLook C)) (F_floor_of : Fn P w K mg base "floor_of" ["a"] 1 spFloor) (F_last_of : Fn P w K mg base "last_of" ["line"] 1 spLast) (F_number_at : Fn P w K mg base "number_at" ["begin", "end", "place"] 3 spNumAt) (T : Txt mg) :
    Fx P w K mg base "point_at" ["line", "place"] 5 [] (spPoint C) := by
  refine D_point_at.fx S_point_at (fun _ _ _ _ _ _ us hl => match us, hl with | [_, _], _ => rfl) (fun vs H Q E h => ?_) (fun f cdv A outer s H vs Q E hr h => ?_)
  · obtain ⟨l, qs, x, rfl, _⟩ := h
    rfl
  · obtain ⟨l, qs, x, rfl, L, h1, h20, th, k0, k1⟩ := h
    have hll : (qs.map fun (q : Addr × Int × Int) => V.ref q.1).length = qs.length := List.length_map _
    refine ⟨_, (pss_cons (ps_expr (pe_fx F_look_at_place (hr.mono (by decide)) (by rfl) (pa_cons (pv 0) (pa_cons (pv 1) pa_nil)))) (pss_cons (ps_set (i := 2) S_point_at.nd rfl (Or.inl rfl) (pe_fn F_floor_of (hr.mono (by decide)) (by rfl) (pa_cons (pv 1) pa_nil))) (pss_cons (ps_set (i := 3) S_point_at.nd rfl (Or.inl rfl) (pe_ix ix_list (pv 0) (pv 2) (fun _ _ => rfl))) (pss_cons (ps_set (i := 4) S_point_at.nd rfl (Or.inl rfl) (pe_ix ix_list (pv 0) (pe_callB (call_min2 rfl) (by rfl) T.z_min bt_min (pa_cons (pe_op op_add (pv 2) pe_int) (pa_cons (pe_fn F_last_of (hr.mono (by decide)) (by rfl) (pa_cons (pv 0) pa_nil)) pa_nil))) (fun _ _ => rfl))) (pss_one (ps_ret (pe_tup (pa_cons (pe_fn F_number_at (hr.mono (by decide)) (by rfl) (pa_cons (pe_ix ix_tup (pv 3) pe_int (fun _ _ => rfl)) (pa_cons (pe_ix ix_tup (pv 4) pe_int (fun _ _ => rfl)) (pa_cons (pv 1) pa_nil)))) (pa_cons (pe_fn F_number_at (hr.mono (by decide)) (by rfl) (pa_cons (pe_ix ix_tup (pv 3) pe_int (fun _ _ => rfl)) (pa_cons (pe_ix ix_tup (pv 4) pe_int (fun _ _ => rfl)) (pa_cons (pv 1) pa_nil)))) pa_nil))))))))), ?_⟩
    refine ⟨_, rfl, _, rfl, l, _, x, rfl, L.lst, by rw [hll]; omega, th, fun z => k0 (by rw [hll] at z; exact z), fun hx => ?_⟩
    rw [hll] at hx
    obtain ⟨p, t, b, rfl, ep, lw, t0, t1⟩ := placeV_inv hx
    obtain ⟨bt, bb, k⟩ := k1 p t b rfl ep lw t0 t1
    have hb := lw.pos
    have fp : Fr2 H p t b 200 := ⟨ep, lw, bt, bb⟩
    have q0 : 0 ≤ t / b := fl_nn (by omega) t0
    have qn : t / b ≤ (qs.length : Int) - 1 := Int.ediv_le_of_le_mul (by omega) t1
    refine ⟨_, rfl, p, t, b, rfl, ep, ⟨by omega, bits_le bb (by decide)⟩, ?_⟩
    have atq : ∀ (j : Nat) (k : Int), k = (j : Int) → j < qs.length → atI (qs.map fun (q : Addr × Int × Int) => V.ref q.1) k = some (.ref (qs.getD j (0, 0, 0)).1) ∧ qs.getD j (0, 0, 0) ∈ qs := fun j k ek hj => by
      have e1 : qs.getD j (0, 0, 0) = qs[j] := by rw [List.getD_eq_getElem?_getD, List.getElem?_eq_getElem hj]; rfl
      rw [e1]
      subst ek
      exact ⟨atI_nat (by rw [List.getElem?_map, List.getElem?_eq_getElem hj]; rfl), List.getElem_mem hj⟩
    obtain ⟨a0, m0⟩ := atq (t / b).toNat (t / b) (by omega) (by omega)
    refine ⟨_, rfl, _, rfl, l, _, _, _, rfl, rfl, SqL.of L.lst, a0, ?_⟩
    obtain ⟨a1, m1⟩ := atq (min ((t / b).toNat + 1) (qs.length - 1)) (if ((((qs.map fun (q : Addr × Int × Int) => V.ref q.1).length : Nat) : Int) - 1) < t / b + 1 then ((((qs.map fun (q : Addr × Int × Int) => V.ref q.1).length : Nat) : Int) - 1) else t / b + 1) (by rw [hll]; split <;> omega) (by omega)
    refine ⟨_, rfl, _, rfl, _, _, rfl, rfl, _, rfl, l, _, rfl, L.lst, _, _, rfl, l, _, _, _, rfl, rfl, SqL.of L.lst, a1, ?_⟩
    have c0 := L.crn _ m0
    have c1 := L.crn _ m1
    refine ⟨_, rfl, _, _, _, _, rfl, rfl, SqT.of c0.1, rfl, _, rfl, _, _, _, _, rfl, rfl, SqT.of c1.1, rfl, _, rfl, _, _, p, t, b, rfl, fp, bits_le c0.2.1 (by decide), bits_le c1.2.1 (by decide), fun rx u v H1 fr1 g1 s1 => ?_⟩
    refine ⟨_, rfl, _, _, _, _, rfl, rfl, SqT.of (s1 _ _ c0.1), rfl, _, rfl, _, _, _, _, rfl, rfl, SqT.of (s1 _ _ c1.1), rfl, _, rfl, _, _, p, t, b, rfl, fp.mono s1, bits_le c0.2.2 (by decide), bits_le c1.2.2 (by decide), fun ry c d H2 fr2 g2 s2 => ?_⟩
    refine ⟨sz (by simp), fun r hr' => ?_⟩
    obtain ⟨H3, e3, s3, f3⟩ := grow (o := .tup [.ref rx, .ref ry]) hr'
    rw [e3]
    exact k r H3 ⟨⟨rx, ry, u, v, c, d, f3, (g1.mono s2).mono s3, g2.mono s3, fr1, fr2⟩⟩ (s1.trans (s2.trans s3))

theorem S_step_from : FnScope ["begin", "end"] ["begin", "end"] (defScope (top 22)) := ⟨rfl, rfl, rfl, by decide +kernel, rfl, by decide +kernel, by decide +kernel⟩
theorem fn_step_from (D_step_from : Df K mg "step_from" (top 22)) (F_minus : Fn P w K mg base "minus" ["a", "b"] 3 (spBin (fun a b c d => a * d - c * b) (fun a b c d => b * d))) : Fn P w K mg base "step_from" ["begin", "end"] 4 spStep := by
  refine D_step_from.fn S_step_from (fun _ _ _ _ _ _ us hl => match us, hl with | [_, _], _ => rfl) (fun vs H Q E h => ?_) (fun f cdv A outer s H vs Q E hr h => ?_)
  · obtain ⟨p, q, u, v, c, d, u', v', c', d', rfl, _⟩ := h
    rfl
  · obtain ⟨p, q, u, v, c, d, u', v', c', d', rfl, fp, fq, k⟩ := h
    obtain ⟨px, py, ep, gx, gy⟩ := fp.ex
    obtain ⟨qx, qy, eq, hx, hy⟩ := fq.ex
    have nz : ∀ {x y : Int}, 1 ≤ x → 1 ≤ y → x * y ≠ 0 := fun hx hy => Int.mul_ne_zero (by omega) (by omega)
    refine ⟨_, (pss_one (ps_ret (pe_tup (pa_cons (pe_fn F_minus (hr.mono (by decide)) (by rfl) (pa_cons (pe_ix ix_tup (pv 1) pe_int (fun _ _ => rfl)) (pa_cons (pe_ix ix_tup (pv 0) pe_int (fun _ _ => rfl)) pa_nil))) (pa_cons (pe_fn F_minus (hr.mono (by decide)) (by rfl) (pa_cons (pe_ix ix_tup (pv 1) pe_int (fun _ _ => rfl)) (pa_cons (pe_ix ix_tup (pv 0) pe_int (fun _ _ => rfl)) pa_nil))) pa_nil))))), ?_⟩
    refine ⟨_, rfl, q, _, _, _, rfl, rfl, SqT.of eq, rfl, _, rfl, p, _, _, _, rfl, rfl, SqT.of ep, rfl, qx, px, u', v', u, v, 262, rfl, hx, gx, by decide, nz hx.low.pos gx.low.pos, fun r1 a b H1 fr1 g1 s1 => ?_⟩
    refine ⟨_, rfl, q, _, _, _, rfl, rfl, SqT.of (s1 _ _ eq), rfl, _, rfl, p, _, _, _, rfl, rfl, SqT.of (s1 _ _ ep), rfl, qy, py, c', d', c, d, 262, rfl, hy.mono s1, gy.mono s1, by decide, nz hy.low.pos gy.low.pos, fun r2 e f H2 fr2 g2 s2 => ?_⟩
    refine ⟨sz (by simp), fun r hr' => ?_⟩
    obtain ⟨H3, e3, s3, f3⟩ := grow (o := .tup [.ref r1, .ref r2]) hr'
    rw [e3]
    exact k r a b e f H3 fr1 fr2 ⟨⟨r1, r2, f3, (g1.mono s2).mono s3, g2.mono s3⟩⟩ (s1.trans (s2.trans s3))
theorem S_inner_product : FnScope ["one", "other"] ["one", "other"] (defScope (top 23)) := ⟨rfl, rfl, rfl, by decide +kernel, rfl, by decide +kernel, by decide +kernel⟩
theorem fn_inner_product (D_inner_product : Df K mg "inner_product" (top 23)) (F_plus : Fn P w K mg base "plus" ["a", "b"] 3 (spBin (fun a b c d => a * d + c * b) (fun a b c d => b * d))) (F_times : Fn P w K mg base "times" ["a", "b"] 3 (spBin (fun a b c d => a * c) (fun a b c d => b * d))) : Fn P w K mg base "inner_product" ["one", "other"] 4 spInner := by
  refine D_inner_product.fn S_inner_product (fun _ _ _ _ _ _ us hl => match us, hl with | [_, _], _ => rfl) (fun vs H Q E h => ?_) (fun f cdv A outer s H vs Q E hr h => ?_)
  · obtain ⟨p, q, a, b, e, f, a', b', e', f', rfl, _⟩ := h
    rfl
  · obtain ⟨p, q, a, b, e, f, a', b', e', f', rfl, fp, fq, k⟩ := h
    obtain ⟨qx, qy, eq, hx, hy⟩ := fq.ex
    obtain ⟨px, py, ep, gx, gy⟩ := fp.ex
    have nz : ∀ {x y : Int}, 1 ≤ x → 1 ≤ y → x * y ≠ 0 := fun hx hy => Int.mul_ne_zero (by omega) (by omega)
    refine ⟨_, (pss_one (ps_ret (pe_fn F_plus (hr.mono (by decide)) (by rfl) (pa_cons (pe_fn F_times (hr.mono (by decide)) (by rfl) (pa_cons (pe_ix ix_tup (pv 0) pe_int (fun _ _ => rfl)) (pa_cons (pe_ix ix_tup (pv 1) pe_int (fun _ _ => rfl)) pa_nil))) (pa_cons (pe_fn F_times (hr.mono (by decide)) (by rfl) (pa_cons (pe_ix ix_tup (pv 0) pe_int (fun _ _ => rfl)) (pa_cons (pe_ix ix_tup (pv 1) pe_int (fun _ _ => rfl)) pa_nil))) pa_nil))))), ?_⟩
    refine ⟨_, rfl, p, _, _, _, rfl, rfl, SqT.of ep, rfl, _, rfl, q, _, _, _, rfl, rfl, SqT.of eq, rfl, px, qx, a, b, a', b', 525, rfl, gx, hx, by decide, nz gx.low.pos hx.low.pos, fun r1 m n H1 fr1 g1 s1 => ?_⟩
    refine ⟨_, rfl, p, _, _, _, rfl, rfl, SqT.of (s1 _ _ ep), rfl, _, rfl, q, _, _, _, rfl, rfl, SqT.of (s1 _ _ eq), rfl, py, qy, e, f, e', f', 525, rfl, gy.mono s1, hy.mono s1, by decide, nz gy.low.pos hy.low.pos, fun r2 m' n' H2 fr2 g2 s2 => ?_⟩
    exact ⟨r1, r2, m, n, m', n', 1051, rfl, g1.mono s2, g2, by decide, nz g1.low.pos g2.low.pos, fun r s' w' H3 fr3 g3 s3 => k r m n m' n' s' w' H3 fr1 fr2 fr3 g3 (s1.trans (s2.trans s3))⟩
theorem S_square_between : FnScope ["begin", "end", "step"] ["begin", "end"] (defScope (top 24)) := ⟨rfl, rfl, rfl, by decide +kernel, rfl, by decide +kernel, by decide +kernel⟩
theorem fn_square_between (D_square_between : Df K mg "square_between" (top 24)) (F_step_from : Fn P w K mg base "step_from" ["begin", "end"] 4 spStep) (F_inner_product : Fn P w K mg base "inner_product" ["one", "other"] 4 spInner) : Fn P w K mg base "square_between" ["begin", "end"] 5 spSqB := by
  refine D_square_between.fn S_square_between (fun _ _ _ _ _ _ us hl => match us, hl with | [_, _], _ => rfl) (fun vs H Q E h => ?_) (fun f cdv A outer s H vs Q E hr h => ?_)
  · obtain ⟨p, q, X, Y, b, X', Y', b', rfl, _⟩ := h
    rfl
  · obtain ⟨p, q, X, Y, b, X', Y', b', rfl, fp, fq, hb, hb', k⟩ := h
    obtain ⟨px, py, u, v, c, d, ep, gx, gy, f1, f2⟩ := fp.ex
    obtain ⟨qx, qy, u', v', c', d', eq, hx, hy, f3, f4⟩ := fq.ex
    refine ⟨_, (pss_cons (ps_set (i := 2) S_square_between.nd rfl (Or.inl rfl) (pe_fn F_step_from (hr.mono (by decide)) (by rfl) (pa_cons (pv 0) (pa_cons (pv 1) pa_nil)))) (pss_one (ps_ret (pe_fn F_inner_product (hr.mono (by decide)) (by rfl) (pa_cons (pv 2) (pa_cons (pv 2) pa_nil)))))), ?_⟩
    refine ⟨_, rfl, _, rfl, p, q, u, v, c, d, u', v', c', d', rfl, ⟨⟨px, py, ep, gx, gy⟩⟩, ⟨⟨qx, qy, eq, hx, hy⟩⟩, fun r a e a' e' H1 g1 g2 pf s1 => ?_⟩
    exact ⟨_, rfl, _, rfl, r, r, a, e, a', e', a, e, a', e', rfl, pf, pf, fun r2 m n m' n' s' w' H2 k1 k2 k3 g3 s2 => k r2 s' w' H2 (sq_frac f1 f2 f3 f4 g1 g2 k1 k2 k3) g3 (s1.trans s2)⟩
theorem S_law_whole : FnScope ["found"] ["found"] (defScope (top 30)) := ⟨rfl, rfl, rfl, by decide +kernel, rfl, by decide +kernel, by decide +kernel⟩
theorem fn_law_whole (D_law_whole : Df K mg "_law_whole" (top 30)) (T : Txt mg) : Fn P w K mg base "_law_whole" ["found"] 1 spWhole := by
  refine D_law_whole.fn S_law_whole (fun _ _ _ _ _ _ us hl => match us, hl with | [_], _ => rfl) (fun vs H Q E h => ?_) (fun f cdv A outer s H vs Q E hr h => ?_)
  · obtain ⟨x, t, rfl, _⟩ := h
    rfl
  · obtain ⟨x, t, rfl, k, q⟩ := h
    refine ⟨_, (pss_one (ps_ret (pe_and (pe_callB call_isinst (by rfl) T.z_isinstance bt_isinstance (pa_cons (pv 0) (pa_cons (pe_ty T.z_int bt_int) pa_nil))) (pe_one (pe_not (pe_callB call_isinst (by rfl) T.z_isinstance bt_isinstance (pa_cons (pv 0) (pa_cons (pe_ty T.z_bool bt_bool) pa_nil)))))))), ?_⟩
    refine ⟨_, rfl, x, t, "int", rfl, k, .inl rfl, _, rfl, ?_⟩
    refine ite3 (fun hc => ?_) (fun hc => ?_)
    · refine ⟨_, rfl, x, t, "bool", rfl, k, .inr (.inl rfl), _, rfl, ?_⟩
      rw [(whole_sub k).1 hc]
      exact q
    · rw [(whole_sub k).2 hc] at q
      exact q
theorem S_law_lowest : FnScope ["found"] ["found"] (defScope (top 32)) := ⟨rfl, rfl, rfl, by decide +kernel, rfl, by decide +kernel, by decide +kernel⟩
theorem fn_law_lowest (D_law_lowest : Df K mg "_law_lowest" (top 32)) (F_law_whole : Fn P w K mg base "_law_whole" ["found"] 1 spWhole) (F_law_common : Fn P w K mg base "_law_common" ["one", "other"] 1 spCommon) (T : Txt mg) : Fn P w K mg base "_law_lowest" ["found"] 2 spLow := by
  refine D_law_lowest.fn S_law_lowest (fun _ _ _ _ _ _ us hl => match us, hl with | [_], _ => rfl) (fun vs H Q E h => ?_) (fun f cdv A outer s H vs Q E hr h => ?_)
  · obtain ⟨x, rfl, _⟩ := h
    rfl
  · obtain ⟨x, rfl, th, q⟩ := h
    obtain ⟨t, k⟩ := th.kn
    refine ⟨_, (pss_cons (ps_if (pw_or (pt_not (pt_val (pe_callB call_isinst (by rfl) T.z_isinstance bt_isinstance (pa_cons (pv 0) (pa_cons (pe_ty T.z_tuple bt_tuple) pa_nil))))) (pw_or1 (pt_cmpR op_ne (pe_callB call_len_seq (by rfl) T.z_len bt_len (pa_cons (pv 0) pa_nil)) pe_int (nomark _)))).pt (pss_one (ps_ret pe_bl)) pss_nil) (pss_cons (ps_if (pw_or (pt_not (pt_val (pe_fn F_law_whole (hr.mono (by decide)) (by rfl) (pa_cons (pe_ix ix_tup (pv 0) pe_int (fun _ _ => rfl)) pa_nil)))) (pw_or (pt_not (pt_val (pe_fn F_law_whole (hr.mono (by decide)) (by rfl) (pa_cons (pe_ix ix_tup (pv 0) pe_int (fun _ _ => rfl)) pa_nil)))) (pw_or1 (pt_cmpR op_lt (pe_ix ix_tup (pv 0) pe_int (fun _ _ => rfl)) pe_int (nomark _))))).pt (pss_one (ps_ret pe_bl)) pss_nil) (pss_one (ps_ret (pe_cmpR op_eq (pe_fn F_law_common (hr.mono (by decide)) (by rfl) (pa_cons (pe_callB call_abs (by rfl) T.z_abs bt_abs (pa_cons (pe_ix ix_tup (pv 0) pe_int (fun _ _ => rfl)) pa_nil)) (pa_cons (pe_ix ix_tup (pv 0) pe_int (fun _ _ => rfl)) pa_nil))) pe_int (nomark _)))))), ?_⟩
    refine ⟨_, rfl, x, t, "tuple", rfl, k, .inr (.inr (.inl rfl)), _, rfl, ?_⟩
    rcases Kn.cases_tup k with ⟨p, xs, rfl, e, rfl⟩ | ⟨hl, hs⟩
    · rw [lowV_tup e] at q
      refine iteF ?_
      refine ⟨_, rfl, p, xs, rfl, .inr (SqT.of e), rfl, _, rfl, ?_⟩
      refine ite3 (fun hc => ?_) (fun hc => ?_)
      · have hn : xs.length ≠ 2 := by
          intro z
          rw [z] at hc
          exact absurd hc (by decide)
        rw [lowL_len hn] at q
        exact q
      · have hn : xs.length = 2 := by
          have z : (xs.length : Int) = 2 := by simpa using hc
          omega
        match xs, hn, e, q with
        | [y, z], _, e, q =>
          obtain ⟨ty, ky⟩ := th.parts p _ rfl e y (by simp)
          obtain ⟨tz, kz⟩ := th.parts p _ rfl e z (by simp)
          refine ⟨_, rfl, p, _, _, _, rfl, rfl, SqT.of e, rfl, y, ty, rfl, ky, _, rfl, ?_⟩
          rcases Kn.cases_int ky with ⟨a, rfl, rfl⟩ | ⟨ny, ey⟩
          · refine iteF ?_
            refine ⟨_, rfl, p, _, _, _, rfl, rfl, SqT.of e, rfl, z, tz, rfl, kz, _, rfl, ?_⟩
            rcases Kn.cases_int kz with ⟨b, rfl, rfl⟩ | ⟨nz, ez⟩
            · refine iteF ?_
              refine ⟨_, rfl, p, _, _, _, rfl, rfl, SqT.of e, rfl, b, 1, rfl, rfl, _, rfl, ?_⟩
              have q' : Q (.bl (lowB a b)) H := q
              unfold lowB at q'
              refine ite3 (fun hc => ?_) (fun hc => ?_)
              · have hb : ¬ 1 ≤ b := by
                  have z : b < 1 := by simpa using hc
                  omega
                rw [decide_eq_false hb, Bool.false_and] at q'
                exact q'
              · have hb : 1 ≤ b := by
                  have z : ¬ b < 1 := by simpa using hc
                  omega
                refine ⟨_, rfl, p, _, _, _, rfl, rfl, SqT.of e, rfl, a, rfl, _, rfl, p, _, _, _, rfl, rfl, SqT.of e, rfl, _, b, rfl, abs_nonneg a, by omega, rfl, ?_⟩
                rw [decide_eq_true hb, Bool.true_and] at q'
                have e1 : decide (V.int (Int.gcd (if a < 0 then -a else a) b : Int) = V.int 1) = decide (Int.gcd a b = 1) := by
                  rw [gcd_abs, Bool.eq_iff_iff]
                  simp
                  omega
                rw [← e1] at q'
                exact q'
            · rw [ez, lowL_snd nz] at *
              exact q
          · rw [ey, lowL_fst ny] at *
            exact q
    · rw [hs]
      rw [hl] at q
      exact q
/-! ### the law's numbers -/
theorem S_law_point : FnScope ["line", "place", "top", "bottom", "number", "begin", "end", "part", "x"] ["line", "place"] (defScope (top 35)) := ⟨rfl, rfl, rfl, by decide +kernel, rfl, by decide +kernel, by decide +kernel⟩
theorem fn_law_point (D_law_point : Df K mg "_law_point" (top 35)) (T : Txt mg) : Fn P w K mg base "_law_point" ["line", "place"] 1 spLPt := by
  refine D_law_point.fn S_law_point (fun _ _ _ _ _ _ us hl => match us, hl with | [_, _], _ => rfl) (fun vs H Q E h => ?_) (fun f cdv A outer s H vs Q E hr h => ?_)
  · obtain ⟨l, p, qs, t, b, rfl, _⟩ := h
    rfl
  · obtain ⟨l, p, qs, t, b, rfl, L, h1, pl, k⟩ := h
    have hb := pl.low.pos
    have hll : (qs.map fun (q : Addr × Int × Int) => V.ref q.1).length = qs.length := List.length_map _
    obtain ⟨n, hn, en, cs⟩ := lnum (t := t) (b := b) (n := qs.length) (by omega) pl.lo h1.1 pl.hi
    have atq : ∀ (j : Nat) (k : Int), k = (j : Int) → j < qs.length → atI (qs.map fun (q : Addr × Int × Int) => V.ref q.1) k = some (.ref (qs.getD j (0, 0, 0)).1) ∧ qs.getD j (0, 0, 0) ∈ qs := fun j k ek hj => by
      have e1 : qs.getD j (0, 0, 0) = qs[j] := by rw [List.getD_eq_getElem?_getD, List.getElem?_eq_getElem hj]; rfl
      rw [e1]
      subst ek
      exact ⟨atI_nat (by rw [List.getElem?_map, List.getElem?_eq_getElem hj]; rfl), List.getElem_mem hj⟩
    obtain ⟨a0, m0⟩ := atq n (n : Int) rfl hn
    obtain ⟨a1, m1⟩ := atq (min (n + 1) (qs.length - 1)) (if ((((qs.map fun (q : Addr × Int × Int) => V.ref q.1).length : Nat) : Int) - 1) < (n : Int) + 1 then ((((qs.map fun (q : Addr × Int × Int) => V.ref q.1).length : Nat) : Int) - 1) else (n : Int) + 1) (by rw [hll]; split <;> omega) (by omega)
    have c0 := L.crn _ m0
    have c1 := L.crn _ m1
    have bd : bits (t - (n : Int) * b) ≤ 200 := by
      rcases cs with ⟨_, e⟩ | ⟨_, _, e, _⟩
      · rw [e]
        exact bits_range (Int.emod_nonneg _ (by omega)) (Int.le_of_lt (Int.emod_lt_of_pos _ (by omega))) pl.bb
      · rw [e]
        exact pl.bb
    have bs' : bits (b - (t - (n : Int) * b)) ≤ 201 := bits_sub pl.bb bd
    refine ⟨_, (pss_cons (ps_asg (pv 1) (pg_tup rfl (pgs_cons (pg_name (i := 2) S_law_point.nd rfl (Or.inl rfl)) (pgs_cons (pg_name (i := 3) S_law_point.nd rfl (Or.inl rfl)) pgs_nil)))) (pss_cons (ps_set (i := 4) S_law_point.nd rfl (Or.inl rfl) (pe_callB (call_min2 rfl) (by rfl) T.z_min bt_min (pa_cons (pe_op op_fdivP (pv 2) (pv 3)) (pa_cons (pe_callB (call_max2 rfl) (by rfl) T.z_max bt_max (pa_cons pe_int (pa_cons (pe_op op_sub (pe_callB call_len_seq (by rfl) T.z_len bt_len (pa_cons (pv 0) pa_nil)) pe_int) pa_nil))) pa_nil)))) (pss_cons (ps_set (i := 5) S_law_point.nd rfl (Or.inl rfl) (pe_ix ix_list (pv 0) (pv 4) (fun _ _ => rfl))) (pss_cons (ps_set (i := 6) S_law_point.nd rfl (Or.inl rfl) (pe_ix ix_list (pv 0) (pe_callB (call_min2 rfl) (by rfl) T.z_min bt_min (pa_cons (pe_op op_add (pv 4) pe_int) (pa_cons (pe_op op_sub (pe_callB call_len_seq (by rfl) T.z_len bt_len (pa_cons (pv 0) pa_nil)) pe_int) pa_nil))) (fun _ _ => rfl))) (pss_cons (ps_set (i := 7) S_law_point.nd rfl (Or.inl rfl) (pe_op op_sub (pv 2) (pe_op op_mulX (pv 4) (pv 3)))) (pss_cons (ps_set (i := 8) S_law_point.nd rfl (Or.inl rfl) (pe_op op_add (pe_op op_mulX (pe_ix ix_tup (pv 5) pe_int (fun _ _ => rfl)) (pe_op op_sub (pv 3) (pv 7))) (pe_op op_mulX (pe_ix ix_tup (pv 6) pe_int (fun _ _ => rfl)) (pv 7)))) (pss_one (ps_ret (pe_tup (pa_cons (pv 8) (pa_cons (pe_op op_add (pe_op op_mulX (pe_ix ix_tup (pv 5) pe_int (fun _ _ => rfl)) (pe_op op_sub (pv 3) (pv 7))) (pe_op op_mulX (pe_ix ix_tup (pv 6) pe_int (fun _ _ => rfl)) (pv 7))) (pa_cons (pv 3) pa_nil)))))))))))), ?_⟩
    refine ⟨_, rfl, p, _, rfl, SqT.of pl.at_, rfl, _, _, rfl, _, _, rfl, rfl, ?_⟩
    refine ⟨_, rfl, _, rfl, _, _, rfl, rfl, ⟨by omega, bits_le pl.bb (by decide)⟩, _, rfl, l, _, rfl, .inl (SqL.of L.lst), _, _, rfl, rfl, _, _, rfl, _, _, rfl, ?_⟩
    rw [hll, en]
    refine ⟨_, rfl, _, rfl, l, _, _, _, rfl, rfl, SqL.of L.lst, a0, ?_⟩
    refine ⟨_, rfl, _, rfl, _, _, rfl, rfl, _, rfl, l, _, rfl, .inl (SqL.of L.lst), _, _, rfl, rfl, _, _, rfl, l, _, _, _, rfl, rfl, SqL.of L.lst, a1, ?_⟩
    refine ⟨_, rfl, _, rfl, _, rfl, _, _, rfl, rfl, CM.b (m := 10) (bits_small (by omega) (by omega)) pl.bb (by decide) (by decide), _, _, rfl, rfl, ?_⟩
    refine ⟨_, rfl, _, _, _, _, rfl, rfl, SqT.of c0.1, rfl, _, rfl, _, rfl, _, _, rfl, rfl, _, _, rfl, rfl, CM.b c0.2.1 bs' (by decide) (by decide), _, rfl, _, _, _, _, rfl, rfl, SqT.of c1.1, rfl, _, rfl, _, _, rfl, rfl, CM.b c1.2.1 bd (by decide) (by decide), _, _, rfl, rfl, ?_⟩
    refine ⟨_, rfl, _, rfl, _, _, _, _, rfl, rfl, SqT.of c0.1, rfl, _, rfl, _, rfl, _, _, rfl, rfl, _, _, rfl, rfl, CM.b c0.2.2 bs' (by decide) (by decide), _, rfl, _, _, _, _, rfl, rfl, SqT.of c1.1, rfl, _, rfl, _, _, rfl, rfl, CM.b c1.2.2 bd (by decide) (by decide), _, _, rfl, rfl, _, rfl, sz (by simp), fun r hr' => ?_⟩
    have eX : (qs.getD n (0, 0, 0)).2.1 * (b - (t - (n : Int) * b)) + (qs.getD (min (n + 1) (qs.length - 1)) (0, 0, 0)).2.1 * (t - (n : Int) * b) = ptX qs t b := lpt (f := fun z => z.2.1) cs
    have eY : (qs.getD n (0, 0, 0)).2.2 * (b - (t - (n : Int) * b)) + (qs.getD (min (n + 1) (qs.length - 1)) (0, 0, 0)).2.2 * (t - (n : Int) * b) = ptY qs t b := lpt (f := fun z => z.2.2) cs
    obtain ⟨H1, e1, s1, f1⟩ := grow (o := .tup [.int (ptX qs t b), .int (ptY qs t b), .int b]) hr'
    show Q (.ref r) (upd H r (.tup [.int ((qs.getD n (0, 0, 0)).2.1 * (b - (t - (n : Int) * b)) + (qs.getD (min (n + 1) (qs.length - 1)) (0, 0, 0)).2.1 * (t - (n : Int) * b)), .int ((qs.getD n (0, 0, 0)).2.2 * (b - (t - (n : Int) * b)) + (qs.getD (min (n + 1) (qs.length - 1)) (0, 0, 0)).2.2 * (t - (n : Int) * b)), .int b]))
    rw [eX, eY, e1]
    exact k r H1 f1 s1
theorem S_law_square : FnScope ["one", "x", "other", "y", "a", "b", "wide", "high"] ["one", "x", "other", "y"] (defScope (top 36)) := ⟨rfl, rfl, rfl, by decide +kernel, rfl, by decide +kernel, by decide +kernel⟩
theorem fn_law_square (D_law_square : Df K mg "_law_square" (top 36)) (F_law_point : Fn P w K mg base "_law_point" ["line", "place"] 1 spLPt) : Fn P w K mg base "_law_square" ["one", "x", "other", "y"] 2 spLSq := by
  refine D_law_square.fn S_law_square (fun _ _ _ _ _ _ us hl => match us, hl with | [_, _, _, _], _ => rfl) (fun vs H Q E h => ?_) (fun f cdv A outer s H vs Q E hr h => ?_)
  · obtain ⟨l, p, l', p', qs, qs', t, b, t', b', rfl, _⟩ := h
    rfl
  · obtain ⟨l, p, l', p', qs, qs', t, b, t', b', rfl, L, L', h1, h1', pl, pl', k⟩ := h
    have hb := pl.low.pos
    have hb' := pl'.low.pos
    have B := pt_bits (t := t) L (show 0 < b by omega) pl.bb
    have B' := pt_bits (t := t') L' (show 0 < b' by omega) pl'.bb
    refine ⟨_, (pss_cons (ps_set (i := 4) S_law_square.nd rfl (Or.inl rfl) (pe_fn F_law_point (hr.mono (by decide)) (by rfl) (pa_cons (pv 0) (pa_cons (pv 1) pa_nil)))) (pss_cons (ps_set (i := 5) S_law_square.nd rfl (Or.inl rfl) (pe_fn F_law_point (hr.mono (by decide)) (by rfl) (pa_cons (pv 2) (pa_cons (pv 3) pa_nil)))) (pss_cons (ps_set (i := 6) S_law_square.nd rfl (Or.inl rfl) (pe_op op_sub (pe_op op_mulX (pe_ix ix_tup (pv 4) pe_int (fun _ _ => rfl)) (pe_ix ix_tup (pv 5) pe_int (fun _ _ => rfl))) (pe_op op_mulX (pe_ix ix_tup (pv 5) pe_int (fun _ _ => rfl)) (pe_ix ix_tup (pv 4) pe_int (fun _ _ => rfl))))) (pss_cons (ps_set (i := 7) S_law_square.nd rfl (Or.inl rfl) (pe_op op_sub (pe_op op_mulX (pe_ix ix_tup (pv 4) pe_int (fun _ _ => rfl)) (pe_ix ix_tup (pv 5) pe_int (fun _ _ => rfl))) (pe_op op_mulX (pe_ix ix_tup (pv 5) pe_int (fun _ _ => rfl)) (pe_ix ix_tup (pv 4) pe_int (fun _ _ => rfl))))) (pss_one (ps_ret (pe_tup (pa_cons (pe_op op_add (pe_op op_mulX (pv 6) (pv 6)) (pe_op op_mulX (pv 7) (pv 7))) (pa_cons (pe_op op_powX (pe_op op_mulX (pe_ix ix_tup (pv 4) pe_int (fun _ _ => rfl)) (pe_ix ix_tup (pv 5) pe_int (fun _ _ => rfl))) pe_int) pa_nil))))))))), ?_⟩
    refine ⟨_, rfl, _, rfl, l, p, qs, t, b, rfl, L, h1, pl, fun ra H1 fa s1 => ?_⟩
    refine ⟨_, rfl, _, rfl, l', p', qs', t', b', rfl, L'.mono s1, h1', pl'.mono s1, fun rb H2 fb s2 => ?_⟩
    have fa := s2 _ _ fa
    have ga : SqT K H2 ra _ := SqT.of fa
    have gb : SqT K H2 rb _ := SqT.of fb
    have cm : ∀ {u v : Int}, bits u ≤ 262 → bits v ≤ 262 → CM u v := fun hu hv => CM.b hu hv (by decide) (by decide)
    have w120 : ∀ {u : Int}, bits u ≤ 200 → bits u ≤ 262 := fun h => bits_le h (by decide)
    refine ⟨_, rfl, ra, _, _, _, rfl, rfl, ga, rfl, _, rfl, rb, _, _, _, rfl, rfl, gb, rfl, _, _, rfl, rfl, cm B.1 (w120 pl'.bb), _, rfl, rb, _, _, _, rfl, rfl, gb, rfl, _, rfl, ra, _, _, _, rfl, rfl, ga, rfl, _, _, rfl, rfl, cm B'.1 (w120 pl.bb), _, _, rfl, rfl, ?_⟩
    refine ⟨_, rfl, ra, _, _, _, rfl, rfl, ga, rfl, _, rfl, rb, _, _, _, rfl, rfl, gb, rfl, _, _, rfl, rfl, cm B.2 (w120 pl'.bb), _, rfl, rb, _, _, _, rfl, rfl, gb, rfl, _, rfl, ra, _, _, _, rfl, rfl, ga, rfl, _, _, rfl, rfl, cm B'.2 (w120 pl.bb), _, _, rfl, rfl, ?_⟩
    have bw : bits (ptX qs t b * b' - ptX qs' t' b' * b) ≤ 525 := bits_sub (bits_mul B.1 (w120 pl'.bb)) (bits_mul B'.1 (w120 pl.bb))
    have bh : bits (ptY qs t b * b' - ptY qs' t' b' * b) ≤ 525 := bits_sub (bits_mul B.2 (w120 pl'.bb)) (bits_mul B'.2 (w120 pl.bb))
    refine ⟨_, rfl, _, rfl, _, _, rfl, rfl, CM.b bw bw (by decide) (by decide), _, rfl, _, rfl, _, _, rfl, rfl, CM.b bh bh (by decide) (by decide), _, _, rfl, rfl, ?_⟩
    refine ⟨_, rfl, ra, _, _, _, rfl, rfl, ga, rfl, _, rfl, rb, _, _, _, rfl, rfl, gb, rfl, _, _, rfl, rfl, cm (w120 pl.bb) (w120 pl'.bb), _, _, rfl, rfl, cpx2 (bits_mul (w120 pl.bb) (w120 pl'.bb)) (by decide), sz (by simp), fun r hr' => ?_⟩
    have e1 : (ptX qs t b * b' - ptX qs' t' b' * b) * (ptX qs t b * b' - ptX qs' t' b' * b) + (ptY qs t b * b' - ptY qs' t' b' * b) * (ptY qs t b * b' - ptY qs' t' b' * b) = sqF qs t b qs' t' b' := by
      unfold sqF sqN
      generalize ptX qs t b = X
      generalize ptX qs' t' b' = X'
      generalize ptY qs t b = Y
      generalize ptY qs' t' b' = Y'
      grind
    have e2 : (b * b') ^ (2 : Int).toNat = sqD b b' := by
      unfold sqD
      show (b * b') ^ 2 = _
      rw [Int.pow_succ, Int.pow_succ, Int.pow_zero, Int.one_mul]
    obtain ⟨H3, e3, s3, f3⟩ := grow (o := .tup [.int (sqF qs t b qs' t' b'), .int (sqD b b')]) hr'
    show Q (.ref r) (upd H2 r (.tup [.int ((ptX qs t b * b' - ptX qs' t' b' * b) * (ptX qs t b * b' - ptX qs' t' b' * b) + (ptY qs t b * b' - ptY qs' t' b' * b) * (ptY qs t b * b' - ptY qs' t' b' * b)), .int ((b * b') ^ (2 : Int).toNat)]))
    rw [e1, e2, e3]
    exact k r H3 f3 (s1.trans (s2.trans s3))
theorem S_law_same : FnScope ["found", "due"] ["found", "due"] (defScope (top 37)) := ⟨rfl, rfl, rfl, by decide +kernel, rfl, by decide +kernel, by decide +kernel⟩
theorem fn_law_same (D_law_same : Df K mg "_law_same" (top 37)) : Fn P w K mg base "_law_same" ["found", "due"] 1 spLSame := by
  refine D_law_same.fn S_law_same (fun _ _ _ _ _ _ us hl => match us, hl with | [_, _], _ => rfl) (fun vs H Q E h => ?_) (fun f cdv A outer s H vs Q E hr h => ?_)
  · obtain ⟨p, q, s', w', m, n, rfl, _⟩ := h
    rfl
  · obtain ⟨p, q, s', w', m, n, rfl, ep, eq, ⟨b1, b2, b3, b4⟩, k⟩ := h
    refine ⟨_, (pss_one (ps_ret (pe_cmpR op_eq (pe_op op_mulX (pe_ix ix_tup (pv 0) pe_int (fun _ _ => rfl)) (pe_ix ix_tup (pv 1) pe_int (fun _ _ => rfl))) (pe_op op_mulX (pe_ix ix_tup (pv 1) pe_int (fun _ _ => rfl)) (pe_ix ix_tup (pv 0) pe_int (fun _ _ => rfl))) (nomark _)))), ?_⟩
    have z : decide (V.int (s' * n) = V.int (m * w')) = decide (s' * n = m * w') := decide_eq_decide.mpr ⟨V.int.inj, fun h => by rw [h]⟩
    rw [← z] at k
    exact ⟨_, rfl, p, _, _, _, rfl, rfl, SqT.of ep, rfl, _, rfl, q, _, _, _, rfl, rfl, SqT.of eq, rfl, _, _, rfl, rfl, CM.b b1 b4 (by decide) (by decide), _, rfl, q, _, _, _, rfl, rfl, SqT.of eq, rfl, _, rfl, p, _, _, _, rfl, rfl, SqT.of ep, rfl, _, _, rfl, rfl, CM.b b3 b2 (by decide) (by decide), rfl, k⟩
theorem S_law_before : FnScope ["a", "b"] ["a", "b"] (defScope (top 40)) := ⟨rfl, rfl, rfl, by decide +kernel, rfl, by decide +kernel, by decide +kernel⟩
theorem fn_law_before (D_law_before : Df K mg "_law_before" (top 40)) : Fn P w K mg base "_law_before" ["a", "b"] 1 spLs := by
  refine D_law_before.fn S_law_before (fun _ _ _ _ _ _ us hl => match us, hl with | [_, _], _ => rfl) (fun vs H Q E h => ?_) (fun f cdv A outer s H vs Q E hr h => ?_)
  · obtain ⟨p, q, a, b, c, d, rfl, _⟩ := h
    rfl
  · obtain ⟨p, q, a, b, c, d, rfl, hp, hq, ⟨ba, bb, bc, bd⟩, k⟩ := h
    refine ⟨_, (pss_one (ps_ret (pe_cmpR op_lt (pe_op op_mulX (pe_ix ix_tup (pv 0) pe_int (fun _ _ => rfl)) (pe_ix ix_tup (pv 1) pe_int (fun _ _ => rfl))) (pe_op op_mulX (pe_ix ix_tup (pv 1) pe_int (fun _ _ => rfl)) (pe_ix ix_tup (pv 0) pe_int (fun _ _ => rfl))) (nomark _)))), ?_⟩
    refine ⟨_, rfl, p, _, _, _, rfl, rfl, SqT.of hp, rfl, _, rfl, q, _, _, _, rfl, rfl, SqT.of hq, rfl, a, d, rfl, rfl, CM.b ba bd (by decide) (by decide), ?_⟩
    refine ⟨_, rfl, q, _, _, _, rfl, rfl, SqT.of hq, rfl, _, rfl, p, _, _, _, rfl, rfl, SqT.of hp, rfl, c, b, rfl, rfl, CM.b bc bb (by decide) (by decide), ?_⟩
    exact ⟨_, _, rfl, rfl, k⟩
theorem S_nearest_part : FnScope ["point", "begin", "end", "step", "part"] ["point", "begin", "end"] (defScope (top 25)) := ⟨rfl, rfl, rfl, by decide +kernel, rfl, by decide +kernel, by decide +kernel⟩
theorem fn_nearest_part (D_nearest_part : Df K mg "nearest_part" (top 25)) (F_step_from : Fn P w K mg base "step_from" ["begin", "end"] 4 spStep) (F_inner_product : Fn P w K mg base "inner_product" ["one", "other"] 4 spInner) (F_over : Fn P w K mg base "over" ["a", "b"] 3 (spBin (fun a b c d => a * d) (fun a b c d => b * c))) (F_less : Fn P w K mg base "less" ["a", "b"] 1 spLs) : Fn P w K mg base "nearest_part" ["point", "begin", "end"] 5 spNear := by
  refine D_nearest_part.fn S_nearest_part (fun _ _ _ _ _ _ us hl => match us, hl with | [_, _, _], _ => rfl) (fun vs H Q E h => ?_) (fun f cdv A outer s H vs Q E hr h => ?_)
  · obtain ⟨p, p1, p2, X, Y, b, X1, Y1, b1, X2, Y2, b2, rfl, _⟩ := h
    rfl
  · obtain ⟨p, p1, p2, X, Y, b, X1, Y1, b1, X2, Y2, b2, rfl, pt, pt1, pt2, hb, hb1, hb2, k⟩ := h
    refine ⟨_, (pss_cons (ps_if (pt_cmpR (op_eqD hr.units10) (pv 1) (pv 2) (nomark _)) (pss_one (ps_ret (pe_tupA (pa_cons pe_int (pa_cons pe_int pa_nil))))) pss_nil) (pss_cons (ps_set (i := 3) S_nearest_part.nd rfl (Or.inl rfl) (pe_fn F_step_from (hr.mono (by decide)) (by rfl) (pa_cons (pv 1) (pa_cons (pv 2) pa_nil)))) (pss_cons (ps_set (i := 4) S_nearest_part.nd rfl (Or.inl rfl) (pe_fn F_over (hr.mono (by decide)) (by rfl) (pa_cons (pe_fn F_inner_product (hr.mono (by decide)) (by rfl) (pa_cons (pe_fn F_step_from (hr.mono (by decide)) (by rfl) (pa_cons (pv 1) (pa_cons (pv 0) pa_nil))) (pa_cons (pv 3) pa_nil))) (pa_cons (pe_fn F_inner_product (hr.mono (by decide)) (by rfl) (pa_cons (pv 3) (pa_cons (pv 3) pa_nil))) pa_nil)))) (pss_cons (ps_if (pt_val (pe_fn F_less (hr.mono (by decide)) (by rfl) (pa_cons (pv 4) (pa_cons (pe_tupA (pa_cons pe_int (pa_cons pe_int pa_nil))) pa_nil)))) (pss_one (ps_ret (pe_tupA (pa_cons pe_int (pa_cons pe_int pa_nil))))) pss_nil) (pss_cons (ps_if (pt_val (pe_fn F_less (hr.mono (by decide)) (by rfl) (pa_cons (pe_tupA (pa_cons pe_int (pa_cons pe_int pa_nil))) (pa_cons (pv 4) pa_nil)))) (pss_one (ps_ret (pe_tupA (pa_cons pe_int (pa_cons pe_int pa_nil))))) pss_nil) (pss_one (ps_ret (pv 4)))))))), ?_⟩
    obtain ⟨px, py, u, v, c, d, ep, gx, gy, f1, f2⟩ := pt.ex
    obtain ⟨qx, qy, u1, v1, c1, d1, eq, hx, hy, f3, f4⟩ := pt1.ex
    obtain ⟨rx, ry, u2, v2, c2, d2, er, kx, ky, f5, f6⟩ := pt2.ex
    have F0 : PtF H p u v c d 262 := ⟨⟨px, py, ep, gx, gy⟩⟩
    have F1 : PtF H p1 u1 v1 c1 d1 262 := ⟨⟨qx, qy, eq, hx, hy⟩⟩
    have F2 : PtF H p2 u2 v2 c2 d2 262 := ⟨⟨rx, ry, er, kx, ky⟩⟩
    have b01 : bits 0 ≤ 4207 ∧ bits 1 ≤ 4207 := ⟨by decide, by decide⟩
    have Z : ∀ {H' : Hp} {r : Addr}, H' r = some (.tup [.int 0, .int 1]) → Fr2 H' r 0 1 4207 := fun e => ⟨e, ⟨by decide, by decide⟩, b01.1, b01.2⟩
    have O : ∀ {H' : Hp} {r : Addr}, H' r = some (.tup [.int 1, .int 1]) → Fr2 H' r 1 1 4207 := fun e => ⟨e, ⟨by decide, by decide⟩, b01.2, b01.2⟩
    refine ⟨_, rfl, _, rfl, _, _, pt_rp F1, pt_rp F2, _, rfl, ite3 (fun h1 => ?_) (fun h1 => ?_)⟩
    · have h1 : (u1 = u2 ∧ v1 = v2) ∧ (c1 = c2 ∧ d1 = d2) := by simpa [deq, deqs] using h1
      exact ⟨sz (by simp), fun r H1 s1 f1' _ => k r 0 1 H1 (Z f1') (.inl ⟨⟨(fr_same (by omega) (by omega) f3 f5).mpr h1.1, (fr_same (by omega) (by omega) f4 f6).mpr h1.2⟩, rfl, rfl⟩) s1⟩
    have h1 : ¬ ((u1 = u2 ∧ v1 = v2) ∧ (c1 = c2 ∧ d1 = d2)) := by simpa [deq, deqs] using h1
    have hS : 0 < (X2 * b1 - X1 * b2) * (X2 * b1 - X1 * b2) + (Y2 * b1 - Y1 * b2) * (Y2 * b1 - Y1 * b2) := by
      have q : ∀ x : Int, 0 ≤ x * x := fun x => le_prod (by omega)
      have q1 := q (X2 * b1 - X1 * b2)
      have q2 := q (Y2 * b1 - Y1 * b2)
      by_cases z : (X2 * b1 - X1 * b2) * (X2 * b1 - X1 * b2) + (Y2 * b1 - Y1 * b2) * (Y2 * b1 - Y1 * b2) = 0
      · obtain ⟨z1, z2⟩ := sq_zero z
        exact absurd ⟨(fr_same (by omega) (by omega) f3 f5).mp (by omega), (fr_same (by omega) (by omega) f4 f6).mp (by omega)⟩ h1
      · omega
    have hN : 0 < nN b X1 Y1 b1 X2 Y2 b2 := Int.mul_pos hb hS
    refine ⟨_, rfl, _, rfl, p1, p2, u1, v1, c1, d1, u2, v2, c2, d2, rfl, F1, F2, fun st a e a' e' H1 g1 g2 pf s1 => ?_⟩
    refine ⟨_, rfl, _, rfl, p1, p, u1, v1, c1, d1, u, v, c, d, rfl, F1.mono s1, F0.mono s1, fun st2 a2 e2 a2' e2' H2 g3 g4 pf2 s2 => ?_⟩
    refine ⟨_, rfl, st2, st, a2, e2, a2', e2', a, e, a', e', rfl, pf2, pf.mono s2, fun r1 m n m' n' i j H3 k1 k2 k3 g5 s3 => ?_⟩
    refine ⟨_, rfl, _, rfl, st, st, a, e, a', e', a, e, a', e', rfl, (pf.mono s2).mono s3, (pf.mono s2).mono s3, fun r2 m2 n2 m2' n2' i2 j2 H4 l1 l2 l3 g6 s4 => ?_⟩
    have hi := near_pos hb1 hb2 f3 f4 f5 f6 g1 g2 l1 l2 l3 hS
    have hj := k3.low.pos
    refine ⟨r1, r2, i, j, i2, j2, 2103, rfl, g5.mono s4, g6, by decide, Int.mul_ne_zero (by omega) (by omega), fun rp t w' H5 fin g7 s5 => ?_⟩
    have eN := near_eq (by omega) (by omega) (by omega) f1 f2 f3 f4 f5 f6 g1 g2 g3 g4 k1 k2 k3 l1 l2 l3 (by omega) fin (by omega)
    have hw := fin.low.pos
    obtain ⟨c1', c2'⟩ := np_lt (by omega) hN eN
    have S5 := s1.trans (s2.trans (s3.trans (s4.trans s5)))
    have bt := g7.ba
    have bw := g7.bb
    refine ⟨_, rfl, sz (by simp), fun zp H6 s6 f6' _ => ?_⟩
    refine ⟨rp, zp, t, w', 0, 1, rfl, (g7.mono s6).at_, f6', ⟨bits_le bt (by decide), bits_le bw (by decide), by decide, by decide⟩, _, rfl, ite3 (fun h2 => ?_) (fun h2 => ?_)⟩
    · have h2 : t * 1 < 0 * w' := dec_t h2
      exact ⟨sz (by simp), fun r H7 s7 f7 _ => k r 0 1 H7 (Z f7) (.inr ⟨hN, .inl ⟨c1'.mp (by omega), rfl, rfl⟩⟩) (S5.trans (s6.trans s7))⟩
    have h2 : ¬ t * 1 < 0 * w' := dec_f h2
    refine ⟨sz (by simp), fun op H7 s7 f7 _ => ?_⟩
    have G7 := (g7.mono s6).mono s7
    refine ⟨_, rfl, op, rp, 1, 1, t, w', rfl, f7, G7.at_, ⟨by decide, by decide, bits_le bt (by decide), bits_le bw (by decide)⟩, _, rfl, ite3 (fun h3 => ?_) (fun h3 => ?_)⟩
    · have h3 : 1 * w' < t * 1 := dec_t h3
      exact ⟨sz (by simp), fun r H8 s8 f8 _ => k r 1 1 H8 (O f8) (.inr ⟨hN, .inr (.inl ⟨c2'.mp (by omega), rfl, rfl⟩)⟩) (S5.trans (s6.trans (s7.trans s8)))⟩
    have h3 : ¬ 1 * w' < t * 1 := dec_f h3
    exact ⟨_, rfl, k rp t w' H7 G7 (.inr ⟨hN, .inr (.inr ⟨by omega, by omega, by omega, eN⟩)⟩) (S5.trans (s6.trans s7))⟩
theorem S_least_along : FnScope ["one", "x", "other", "low", "high", "point", "part", "place"] ["one", "x", "other", "low", "high"] (defScope (top 26)) := ⟨rfl, rfl, rfl, by decide +kernel, rfl, by decide +kernel, by decide +kernel⟩
theorem fn_least_along {C : Addr} (D_least_along : Df K mg "least_along" (top 26)) (F_point_at : Fx P w K mg base "point_at" ["line", "place"] 5 [] (spPoint C)) (F_nearest_part : Fn P w K mg base "nearest_part" ["point", "begin", "end"] 5 spNear) (F_plus : Fn P w K mg base "plus" ["a", "b"] 3 (spBin (fun a b c d => a * d + c * b) (fun a b c d => b * d))) (F_times : Fn P w K mg base "times" ["a", "b"] 3 (spBin (fun a b c d => a * c) (fun a b c d => b * d))) (F_minus : Fn P w K mg base "minus" ["a", "b"] 3 (spBin (fun a b c d => a * d - c * b) (fun a b c d => b * d))) (F_square_between : Fn P w K mg base "square_between" ["begin", "end"] 5 spSqB) : Fx P w K mg base "least_along" ["one", "x", "other", "low", "high"] 6 [] (spLeast C) := by
  refine D_least_along.fx S_least_along (fun _ _ _ _ _ _ us hl => match us, hl with | [_, _, _, _, _], _ => rfl) (fun vs H Q E h => ?_) (fun f cdv A outer s H vs Q E hr h => ?_)
  · obtain ⟨l, l', qs, qs', x, y, z, rfl, _⟩ := h
    rfl
  · obtain ⟨l, l', qs, qs', x, y, z, rfl, L, L', h1, h1', tx, ty, tz, h⟩ := h
    refine ⟨_, (pss_cons (ps_set (i := 5) S_least_along.nd rfl (Or.inl rfl) (pe_fx F_point_at (hr.mono (by decide)) (by rfl) (pa_cons (pv 0) (pa_cons (pv 1) pa_nil)))) (pss_cons (ps_set (i := 6) S_least_along.nd rfl (Or.inl rfl) (pe_fn F_nearest_part (hr.mono (by decide)) (by rfl) (pa_cons (pv 5) (pa_cons (pe_fx F_point_at (hr.mono (by decide)) (by rfl) (pa_cons (pv 2) (pa_cons (pv 3) pa_nil))) (pa_cons (pe_fx F_point_at (hr.mono (by decide)) (by rfl) (pa_cons (pv 2) (pa_cons (pv 4) pa_nil))) pa_nil))))) (pss_cons (ps_set (i := 7) S_least_along.nd rfl (Or.inl rfl) (pe_fn F_plus (hr.mono (by decide)) (by rfl) (pa_cons (pv 3) (pa_cons (pe_fn F_times (hr.mono (by decide)) (by rfl) (pa_cons (pv 6) (pa_cons (pe_fn F_minus (hr.mono (by decide)) (by rfl) (pa_cons (pv 4) (pa_cons (pv 3) pa_nil))) pa_nil))) pa_nil)))) (pss_one (ps_ret (pe_tupA (pa_cons (pe_fn F_square_between (hr.mono (by decide)) (by rfl) (pa_cons (pv 5) (pa_cons (pe_fx F_point_at (hr.mono (by decide)) (by rfl) (pa_cons (pv 2) (pa_cons (pv 7) pa_nil))) pa_nil))) (pa_cons (pv 7) pa_nil)))))))), ?_⟩
    rcases h with h | ⟨p, t, b, rfl, pl, h⟩
    · exact ⟨_, rfl, _, rfl, _, _, _, rfl, L, h1.1, h1.2, tx, fun _ => h.2, fun _ _ _ e0 eH lw t0 t1 => pt_n h.1 e0 eH lw t0 t1⟩
    refine ⟨_, rfl, _, rfl, _, _, _, rfl, L, h1.1, h1.2, Plc.th pl, pt_f pl, pt_t pl fun r H1 pt s1 => ?_⟩
    obtain ⟨ky, ny⟩ := ty.kn
    obtain ⟨kz, nz⟩ := tz.kn
    rcases h with h | ⟨q, l1, l2, rfl, pq, h⟩
    · exact ⟨_, rfl, _, rfl, _, rfl, _, _, _, rfl, (L'.mono s1), h1'.1, h1'.2, (Thing.mono ty s1), fun _ => (h.2 H1 s1), fun _ _ _ e0 eH lw t0 t1 => pt_n (by rw [placeV_same ny s1]; exact h.1) e0 eH lw t0 t1⟩
    refine ⟨_, rfl, _, rfl, _, rfl, _, _, _, rfl, (L'.mono s1), h1'.1, h1'.2, Plc.th (pq.mono s1), pt_f (pq.mono s1), pt_t (pq.mono s1) fun r1 H2 pt1 s2 => ?_⟩
    have S2 := s1.trans s2
    rcases h with h | ⟨q', hi1, hi2, rfl, pq', bb, b2, b4, ins, k⟩
    · exact ⟨_, rfl, _, rfl, _, _, _, rfl, (L'.mono S2), h1'.1, h1'.2, (Thing.mono tz S2), fun _ => (h.2 H2 S2), fun _ _ _ e0 eH lw t0 t1 => pt_n (by rw [placeV_same nz S2]; exact h.1) e0 eH lw t0 t1⟩
    have hb : (0 : Int) < b := pl.low.pos
    have hl : (0 : Int) < l2 := pq.low.pos
    have hh : (0 : Int) < hi2 := pq'.low.pos
    refine ⟨_, rfl, _, rfl, _, _, _, rfl, (L'.mono S2), h1'.1, h1'.2, Plc.th (pq'.mono S2), pt_f (pq'.mono S2), pt_t (pq'.mono S2) fun r2 H3 pt2 s3 => ?_⟩
    refine ⟨r, r1, r2, _, _, _, _, _, _, _, _, _, rfl, (pt.mono s2).mono s3, pt1.mono s3, pt2, hb, hl, hh, fun rp ps pw H4 gp np s4 => ?_⟩
    have S4 := S2.trans (s3.trans s4)
    have G1 : Fr2 H4 q l1 l2 200 := ⟨(pq.mono S4).at_, pq.low, pq.bt, pq.bb⟩
    have G2 : Fr2 H4 q' hi1 hi2 200 := ⟨(pq'.mono S4).at_, pq'.low, pq'.bt, pq'.bb⟩
    have hpb : bits ps ≤ 900 ∧ bits pw ≤ 900 := by
      have z1 : bits 0 ≤ 900 ∧ bits 1 ≤ 900 := ⟨by decide, by decide⟩
      rcases np with ⟨_, rfl, rfl⟩ | ⟨hN, ⟨_, rfl, rfl⟩ | ⟨_, rfl, rfl⟩ | ⟨_, _, _, e⟩⟩
      · exact z1
      · exact z1
      · exact ⟨z1.2, z1.2⟩
      · rcases ins with ⟨rfl, rfl⟩ | ⟨kk, st⟩
        · unfold nN at hN
          simp at hN
        · exact part_bits (L'.mono S4) hb hl hh bb b2 b4 st (pt_bits L hb pl.bb) gp.low hN e
    have gpb : Fr2 H4 rp ps pw 900 := ⟨gp.at_, gp.low, hpb.1, hpb.2⟩
    refine ⟨_, rfl, _, rfl, _, rfl, _, rfl, q', q, hi1, hi2, l1, l2, 200, rfl, G2, G1, by decide, Int.mul_ne_zero (by omega) (by omega), fun rm a e H5 fm gm s5 => ?_⟩
    refine ⟨rp, rm, ps, pw, a, e, 900, rfl, gpb.mono s5, gm.wide (by decide), by decide, Int.mul_ne_zero (nzl gp.low) (nzl gm.low), fun rt m n H6 ft gt s6 => ?_⟩
    refine ⟨q, rt, l1, l2, m, n, 1801, rfl, ((G1.mono s5).mono s6).wide (by decide), gt, by decide, Int.mul_ne_zero (by omega) (nzl gt.low), fun rpl T B H7 fT gT s7 => ?_⟩
    obtain ⟨lp, r0, r1'⟩ := least_ok hb pq.low pq'.low ins np fm ft fT
    have S7 := S4.trans (s5.trans (s6.trans s7))
    have hB : (0 : Int) < B := fT.low.pos
    have t0 : 0 ≤ T := by
      have z := Int.mul_nonneg pq.lo (show 0 ≤ B by omega)
      by_cases c : 0 ≤ T
      · exact c
      · have := Int.mul_neg_of_neg_of_pos (show T < 0 by omega) hl
        omega
    have t1 : T ≤ lst_ qs' * B := by
      have z := Int.mul_le_mul_of_nonneg_right pq'.hi (show 0 ≤ B by omega)
      have : T * hi2 ≤ lst_ qs' * B * hi2 := by rw [Int.mul_right_comm]; omega
      exact Int.le_of_mul_le_mul_right this hh
    obtain ⟨bT, bB⟩ := lp_bits L' h1'.2 hb bb fT.low lp b2 b4 t0 t1
    have PL : Plc H7 rpl T B (lst_ qs') := ⟨gT.at_, fT.low, t0, t1, bT, bits_le bB (by decide)⟩
    refine ⟨_, rfl, _, rfl, _, rfl, _, _, _, rfl, (L'.mono S7), h1'.1, h1'.2, Plc.th PL, pt_f PL, pt_t PL fun r3 H8 pt3 s8 => ?_⟩
    refine ⟨r, r3, _, _, _, _, _, _, rfl, (pt.mono (s2.trans (s3.trans (s4.trans (s5.trans (s6.trans s7)))))).mono s8, pt3, hb, hB, fun rs sn sw H9 fs gs s9 => ?_⟩
    refine ⟨_, rfl, sz (by simp), fun rr H10 s10 f10 _ => ?_⟩
    exact k rr rs rpl sn sw T B H10 f10 (gs.mono s10) (PL.mono (s8.trans (s9.trans s10))) lp r0 r1' fs (S7.trans (s8.trans (s9.trans s10)))
theorem S_law_refused : FnScope ["one", "x", "other", "low", "high"] ["one", "x", "other", "low", "high"] (defScope (top 42)) := ⟨rfl, rfl, rfl, by decide +kernel, rfl, by decide +kernel, by decide +kernel⟩
theorem fn_law_refused {C : Addr} (D_law_refused : Df K mg "_law_refused" (top 42)) (O_NoPlace : ExcC K mg "NoPlace" C) (F_least_along : Fx P w K mg base "least_along" ["one", "x", "other", "low", "high"] 6 [] (spLeast C)) : Fn P w K mg base "_law_refused" ["one", "x", "other", "low", "high"] 7 spLRf := by
  refine D_law_refused.fn S_law_refused (fun _ _ _ _ _ _ us hl => match us, hl with | [_, _, _, _, _], _ => rfl) (fun vs H Q E h => ?_) (fun f cdv A outer s H vs Q E hr h => ?_)
  · obtain ⟨l, l', qs, qs', x, y, z, rfl, _⟩ := h
    rfl
  · obtain ⟨l, l', qs, qs', x, y, z, rfl, L, L', h1, h1', tx, ty, tz, hn, q⟩ := h
    refine ⟨_, (pss_cons (ps_try rfl rfl (pxs_one (px_expr F_least_along (hr.mono (by decide)) (by rfl) (pa_cons (pv 0) (pa_cons (pv 1) (pa_cons (pv 2) (pa_cons (pv 3) (pa_cons (pv 4) pa_nil))))))) O_NoPlace (by rfl) (fun e => (pss_one (ps_ret pe_bl)))) (pss_one (ps_ret pe_bl))), ?_⟩
    refine ⟨_, rfl, _, rfl, _, rfl, _, rfl, _, rfl, l, l', qs, qs', x, y, z, rfl, L, L', h1, h1', tx, ty, tz, ?_⟩
    rcases hn with hn | ⟨p, t, b, rfl, pl, hn⟩
    · exact .inl ⟨hn, rfl, q H (Same.refl _)⟩
    refine .inr ⟨p, t, b, rfl, pl, ?_⟩
    rcases hn with hn | ⟨p', t', b', rfl, pl', hn⟩
    · exact .inl ⟨hn, fun H' sm => ⟨rfl, q H' sm⟩⟩
    exact .inr ⟨p', t', b', rfl, pl', .inl ⟨hn, fun H' sm => ⟨rfl, q H' sm⟩⟩⟩

def Pr2 (H : Hp) (p : Addr) (t b : Int) : Prop := H p = some (.tup [.int t, .int b]) ∧ Low t b ∧ 0 ≤ t ∧ t ≤ b ∧ bits t ≤ 100 ∧ bits b ≤ 60
theorem Pr2.mono {H H' : Hp} {p : Addr} {t b : Int} (h : Pr2 H p t b) (s : Same H H') : Pr2 H' p t b := ⟨s _ _ h.1, h.2⟩
theorem Pr2.t {H H' : Hp} {p : Addr} {t b : Int} (h : Pr2 H p t b) (s : SameT H H') : Pr2 H' p t b := ⟨s _ _ h.1, h.2⟩
theorem part_in {n k : Nat} {t1 b1 t2 b2 : Int} (hk : k + 1 < n) (L1 : Low t1 b1) (L2 : Low t2 b2) (h0 : 0 ≤ t1) (h1 : t2 ≤ b2) (hle : t1 * b2 ≤ t2 * b1) : InS n ((k : Int) * b1 + t1) b1 ((k : Int) * b2 + t2) b2 ∧ ((k : Int) * b1 + t1) * b2 ≤ ((k : Int) * b2 + t2) * b1 := by
  have hle2 : ((k : Int) * b1 + t1) * b2 ≤ ((k : Int) * b2 + t2) * b1 := by grind
  refine ⟨?_, hle2⟩
  by_cases e : t1 * b2 = t2 * b1
  · obtain ⟨rfl, rfl⟩ := low_unique L1 L2 e
    exact .inl ⟨rfl, rfl⟩
  · refine .inr ⟨k, hk, by omega, ?_, by rw [Int.add_mul, Int.one_mul]; omega⟩
    have : t1 * b2 < t2 * b1 := by omega
    grind
theorem amid_ok {l1 l2 h1 h2 y m1 m2 N : Int} (hl : 0 < l2) (hh : 0 < h2) (y0 : 0 ≤ y) (y1 : y ≤ 12) (l0 : 0 ≤ l1) (hN : h1 ≤ N * h2) (hle : l1 * h2 ≤ h1 * l2) (f : Frac (l1 * h2 * (12 - y) + h1 * l2 * y) (l2 * h2 * 12) m1 m2) : l1 * m2 ≤ m1 * l2 ∧ m1 * h2 ≤ h1 * m2 ∧ 0 ≤ m1 ∧ m1 ≤ N * m2 := by
  have hm : (0 : Int) < m2 := f.low.pos
  have e := f.eq
  have hp : 0 < l2 * h2 * 12 := Int.mul_pos (Int.mul_pos hl hh) (by decide)
  have d1 : 0 ≤ (h1 * l2 - l1 * h2) * y := Int.mul_nonneg (by omega) y0
  have d2 : 0 ≤ (h1 * l2 - l1 * h2) * (12 - y) := Int.mul_nonneg (by omega) (by omega)
  have a1 : l1 * m2 ≤ m1 * l2 := by
    have z := Int.mul_nonneg d1 (show 0 ≤ l2 * m2 from Int.mul_nonneg (by omega) (by omega))
    have : l1 * m2 * (l2 * h2 * 12) ≤ m1 * l2 * (l2 * h2 * 12) := by
      have r : m1 * l2 * (l2 * h2 * 12) = (l1 * h2 * (12 - y) + h1 * l2 * y) * m2 * l2 := by rw [e]; grind
      rw [r]
      grind
    exact Int.le_of_mul_le_mul_right this hp
  have a2 : m1 * h2 ≤ h1 * m2 := by
    have z := Int.mul_nonneg d2 (show 0 ≤ h2 * m2 from Int.mul_nonneg (by omega) (by omega))
    have : m1 * h2 * (l2 * h2 * 12) ≤ h1 * m2 * (l2 * h2 * 12) := by
      have r : m1 * h2 * (l2 * h2 * 12) = (l1 * h2 * (12 - y) + h1 * l2 * y) * m2 * h2 := by rw [e]; grind
      rw [r]
      grind
    exact Int.le_of_mul_le_mul_right this hp
  refine ⟨a1, a2, ?_, ?_⟩
  · have := Int.mul_nonneg l0 (show 0 ≤ m2 by omega)
    by_cases c : 0 ≤ m1
    · exact c
    · have := Int.mul_neg_of_neg_of_pos (show m1 < 0 by omega) hl
      omega
  · have z := Int.mul_le_mul_of_nonneg_right hN (show 0 ≤ m2 by omega)
    have : m1 * h2 ≤ N * m2 * h2 := by rw [Int.mul_right_comm]; omega
    exact Int.le_of_mul_le_mul_right this hh
theorem S_law_amid : FnScope ["low", "high", "number", "by", "top", "bottom", "common"] ["low", "high", "number"] (defScope (top 39)) := ⟨rfl, rfl, rfl, by decide +kernel, rfl, by decide +kernel, by decide +kernel⟩
theorem fn_law_amid (D_law_amid : Df K mg "_law_amid" (top 39)) (F_law_common : Fn P w K mg base "_law_common" ["one", "other"] 1 spCommon) : Fn P w K mg base "_law_amid" ["low", "high", "number"] 2 spAmid := by
  refine D_law_amid.fn S_law_amid (fun _ _ _ _ _ _ us hl => match us, hl with | [_, _, _], _ => rfl) (fun vs H Q E h => ?_) (fun f cdv A outer s H vs Q E hr h => ?_)
  · obtain ⟨p, q, l1, l2, h1, h2, n, N, rfl, _⟩ := h
    rfl
  · obtain ⟨p, q, l1, l2, h1, h2, n, N, rfl, pl, b2, ph, b4, hN, hle, k⟩ := h
    refine ⟨_, (pss_cons (ps_set (i := 3) S_law_amid.nd rfl (Or.inl rfl) (pe_op op_mod (pv 2) pe_int)) (pss_cons (ps_set (i := 4) S_law_amid.nd rfl (Or.inl rfl) (pe_op op_add (pe_op op_mulX (pe_op op_mulX (pe_ix ix_tup (pv 0) pe_int (fun _ _ => rfl)) (pe_ix ix_tup (pv 1) pe_int (fun _ _ => rfl))) (pe_op op_sub pe_int (pv 3))) (pe_op op_mulX (pe_op op_mulX (pe_ix ix_tup (pv 1) pe_int (fun _ _ => rfl)) (pe_ix ix_tup (pv 0) pe_int (fun _ _ => rfl))) (pv 3)))) (pss_cons (ps_set (i := 5) S_law_amid.nd rfl (Or.inl rfl) (pe_op op_mulX (pe_op op_mulX (pe_ix ix_tup (pv 0) pe_int (fun _ _ => rfl)) (pe_ix ix_tup (pv 1) pe_int (fun _ _ => rfl))) pe_int)) (pss_cons (ps_set (i := 6) S_law_amid.nd rfl (Or.inl rfl) (pe_fn F_law_common (hr.mono (by decide)) (by rfl) (pa_cons (pv 4) (pa_cons (pv 5) pa_nil)))) (pss_one (ps_ret (pe_tupA (pa_cons (pe_op op_fdivP (pv 4) (pv 6)) (pa_cons (pe_op op_fdivP (pv 5) (pv 6)) pa_nil))))))))), ?_⟩
    have hl : (0 : Int) < l2 := pl.low.pos
    have hh : (0 : Int) < h2 := ph.low.pos
    have y0 := Int.emod_nonneg n (show (13 : Int) ≠ 0 by decide)
    have y1 := Int.emod_lt_of_pos n (show (0 : Int) < 13 by decide)
    have by_ : bits (12 - n % 13) ≤ 10 := bits_small (by omega) (by omega)
    have by2 : bits (n % 13) ≤ 10 := bits_small (by omega) (by omega)
    have b12 : bits 12 ≤ 10 := by decide
    have h0 : 0 ≤ h1 := ph.lo
    have c1 : bits (l1 * h2) ≤ 260 := bits_mul pl.bt b4
    have c2 : bits (h1 * l2) ≤ 260 := bits_mul ph.bt b2
    have c3 : bits (l2 * h2) ≤ 120 := bits_mul b2 b4
    have c4 : bits (l2 * h2 * 12) ≤ 130 := bits_mul c3 b12
    have cm : ∀ {u v : Int} {i j : Nat}, bits u ≤ i → bits v ≤ j → i ≤ 1000 → j ≤ 1000 → CM u v := fun h1 h2 a b => CM.b h1 h2 (by omega) (by omega)
    have hp : 0 < l2 * h2 * 12 := Int.mul_pos (Int.mul_pos hl hh) (by decide)
    refine ⟨_, rfl, _, _, rfl, rfl, (by show (0 : Int) < 13; decide), ?_⟩
    refine ⟨_, rfl, p, _, _, _, rfl, rfl, SqT.of pl.at_, rfl, _, rfl, q, _, _, _, rfl, rfl, SqT.of ph.at_, rfl, _, _, rfl, rfl, cm pl.bt b4 (by decide) (by decide), _, rfl, _, _, rfl, rfl, _, _, rfl, rfl, cm c1 by_ (by decide) (by decide), _, rfl, q, _, _, _, rfl, rfl, SqT.of ph.at_, rfl, _, rfl, p, _, _, _, rfl, rfl, SqT.of pl.at_, rfl, _, _, rfl, rfl, cm ph.bt b2 (by decide) (by decide), _, rfl, _, _, rfl, rfl, cm c2 by2 (by decide) (by decide), _, _, rfl, rfl, ?_⟩
    refine ⟨_, rfl, p, _, _, _, rfl, rfl, SqT.of pl.at_, rfl, _, rfl, q, _, _, _, rfl, rfl, SqT.of ph.at_, rfl, _, _, rfl, rfl, cm b2 b4 (by decide) (by decide), _, _, rfl, rfl, cm c3 b12 (by decide) (by decide), ?_⟩
    have top0 : 0 ≤ l1 * h2 * (12 - n % 13) + h1 * l2 * (n % 13) := Int.add_nonneg (Int.mul_nonneg (Int.mul_nonneg pl.lo (by omega)) (by omega)) (Int.mul_nonneg (Int.mul_nonneg h0 (by omega)) (by omega))
    refine ⟨_, rfl, _, rfl, _, _, rfl, top0, by show 0 ≤ l2 * h2 * 12; omega, ?_⟩
    have hg := gcd_pos (a := l1 * h2 * (12 - n % 13) + h1 * l2 * (n % 13)) (b := l2 * h2 * 12) (by omega)
    have bg : bits (Int.gcd (l1 * h2 * (12 - n % 13) + h1 * l2 * (n % 13)) (l2 * h2 * 12) : Int) ≤ 8000 := bits_le (gcd_bits2 (by omega) c4) (by decide)
    refine ⟨_, rfl, _, rfl, _, _, rfl, rfl, ⟨hg, bg⟩, _, rfl, _, rfl, _, _, rfl, rfl, ⟨hg, bg⟩, sz (by simp), fun r H1 s1 f1 _ => ?_⟩
    have fr := frac_pos (a := l1 * h2 * (12 - n % 13) + h1 * l2 * (n % 13)) hp
    obtain ⟨a1, a2, a3, a4⟩ := amid_ok hl hh y0 (by omega) pl.lo ph.hi hle fr
    have bm : bits (l2 * h2 * 12 / (Int.gcd (l1 * h2 * (12 - n % 13) + h1 * l2 * (n % 13)) (l2 * h2 * 12) : Int)) ≤ 130 := bits_ediv hg c4
    have hm := fr.low.pos
    refine k r _ _ H1 ⟨f1, fr.low, a3, a4, ?_, bits_le bm (by decide)⟩ a1 a2 s1
    exact bits_le (bits_range a3 (Int.le_trans a4 (Int.mul_le_mul_of_nonneg_right hN (by omega))) (bits_mul (show bits 20 ≤ 5 by decide) bm)) (by decide)
theorem S_law_lowest_place : FnScope ["one", "x", "other", "low", "high", "begin", "end", "wide", "tall", "length", "point", "along", "foot"] ["one", "x", "other", "low", "high"] (defScope (top 41)) := ⟨rfl, rfl, rfl, by decide +kernel, rfl, by decide +kernel, by decide +kernel⟩
theorem fn_law_lowest_place (D_law_lowest_place : Df K mg "_law_lowest_place" (top 41)) (F_law_point : Fn P w K mg base "_law_point" ["line", "place"] 1 spLPt) (F_law_before : Fn P w K mg base "_law_before" ["a", "b"] 1 spLs) (T : Txt mg) : Fn P w K mg base "_law_lowest_place" ["one", "x", "other", "low", "high"] 2 spLP := by
  refine D_law_lowest_place.fn S_law_lowest_place (fun _ _ _ _ _ _ us hl => match us, hl with | [_, _, _, _, _], _ => rfl) (fun vs H Q E h => ?_) (fun f cdv A outer s H vs Q E hr h => ?_)
  · obtain ⟨l, p, l', q, q', qs, qs', t, b, l1, l2, h1, h2, rfl, _⟩ := h
    rfl
  · obtain ⟨l, p, l', q, q', qs, qs', t, b, l1, l2, h1, h2, rfl, L, L', g1, g1', pl, bb, pq, pq', ins, k⟩ := h
    refine ⟨_, (pss_cons (ps_set (i := 5) S_law_lowest_place.nd rfl (Or.inl rfl) (pe_ix ix_list (pv 2) (pe_op op_fdivP (pe_ix ix_tup (pv 3) pe_int (fun _ _ => rfl)) (pe_ix ix_tup (pv 3) pe_int (fun _ _ => rfl))) (fun _ _ => rfl))) (pss_cons (ps_set (i := 6) S_law_lowest_place.nd rfl (Or.inl rfl) (pe_ix ix_list (pv 2) (pe_callB (call_min2 rfl) (by rfl) T.z_min bt_min (pa_cons (pe_op op_add (pe_op op_fdivP (pe_ix ix_tup (pv 3) pe_int (fun _ _ => rfl)) (pe_ix ix_tup (pv 3) pe_int (fun _ _ => rfl))) pe_int) (pa_cons (pe_op op_sub (pe_callB call_len_seq (by rfl) T.z_len bt_len (pa_cons (pv 2) pa_nil)) pe_int) pa_nil))) (fun _ _ => rfl))) (pss_cons (ps_set (i := 7) S_law_lowest_place.nd rfl (Or.inl rfl) (pe_op op_sub (pe_ix ix_tup (pv 6) pe_int (fun _ _ => rfl)) (pe_ix ix_tup (pv 5) pe_int (fun _ _ => rfl)))) (pss_cons (ps_set (i := 8) S_law_lowest_place.nd rfl (Or.inl rfl) (pe_op op_sub (pe_ix ix_tup (pv 6) pe_int (fun _ _ => rfl)) (pe_ix ix_tup (pv 5) pe_int (fun _ _ => rfl)))) (pss_cons (ps_set (i := 9) S_law_lowest_place.nd rfl (Or.inl rfl) (pe_op op_add (pe_op op_mulX (pv 7) (pv 7)) (pe_op op_mulX (pv 8) (pv 8)))) (pss_cons (ps_if (pw_or (pt_cmpR op_eq (pv 9) pe_int (nomark _)) (pw_or1 (pt_cmpR (op_eqI hr.units0) (pv 3) (pv 4) (nomark _)))).pt (pss_one (ps_ret (pv 3))) pss_nil) (pss_cons (ps_set (i := 10) S_law_lowest_place.nd rfl (Or.inl rfl) (pe_fn F_law_point (hr.mono (by decide)) (by rfl) (pa_cons (pv 0) (pa_cons (pv 1) pa_nil)))) (pss_cons (ps_set (i := 11) S_law_lowest_place.nd rfl (Or.inl rfl) (pe_op op_add (pe_op op_mulX (pe_op op_sub (pe_ix ix_tup (pv 10) pe_int (fun _ _ => rfl)) (pe_op op_mulX (pe_ix ix_tup (pv 5) pe_int (fun _ _ => rfl)) (pe_ix ix_tup (pv 10) pe_int (fun _ _ => rfl)))) (pv 7)) (pe_op op_mulX (pe_op op_sub (pe_ix ix_tup (pv 10) pe_int (fun _ _ => rfl)) (pe_op op_mulX (pe_ix ix_tup (pv 5) pe_int (fun _ _ => rfl)) (pe_ix ix_tup (pv 10) pe_int (fun _ _ => rfl)))) (pv 8)))) (pss_cons (ps_set (i := 12) S_law_lowest_place.nd rfl (Or.inl rfl) (pe_tupA (pa_cons (pe_op op_add (pe_op op_mulX (pe_op op_mulX (pe_op op_fdivP (pe_ix ix_tup (pv 3) pe_int (fun _ _ => rfl)) (pe_ix ix_tup (pv 3) pe_int (fun _ _ => rfl))) (pv 9)) (pe_ix ix_tup (pv 10) pe_int (fun _ _ => rfl))) (pv 11)) (pa_cons (pe_op op_mulX (pv 9) (pe_ix ix_tup (pv 10) pe_int (fun _ _ => rfl))) pa_nil)))) (pss_cons (ps_if (pt_val (pe_fn F_law_before (hr.mono (by decide)) (by rfl) (pa_cons (pv 12) (pa_cons (pv 3) pa_nil)))) (pss_one (ps_ret (pv 3))) pss_nil) (pss_cons (ps_if (pt_val (pe_fn F_law_before (hr.mono (by decide)) (by rfl) (pa_cons (pv 4) (pa_cons (pv 12) pa_nil)))) (pss_one (ps_ret (pv 4))) pss_nil) (pss_one (ps_ret (pv 12)))))))))))))), ?_⟩
    have hll : (qs'.map fun (q : Addr × Int × Int) => V.ref q.1).length = qs'.length := List.length_map _
    have hb : (0 : Int) < b := pl.low.pos
    have hl : (0 : Int) < l2 := pq.low.pos
    have hh : (0 : Int) < h2 := pq'.low.pos
    have q0 : 0 ≤ l1 / l2 := fl_nn hl pq.lo
    have qn : l1 / l2 ≤ (qs'.length : Int) - 1 := Int.ediv_le_of_le_mul hl pq.hi
    have atq : ∀ (j : Nat) (k : Int), k = (j : Int) → j < qs'.length → atI (qs'.map fun (q : Addr × Int × Int) => V.ref q.1) k = some (.ref (qs'.getD j (0, 0, 0)).1) ∧ qs'.getD j (0, 0, 0) ∈ qs' := fun j k ek hj => by
      have e1 : qs'.getD j (0, 0, 0) = qs'[j] := by rw [List.getD_eq_getElem?_getD, List.getElem?_eq_getElem hj]; rfl
      rw [e1]
      subst ek
      exact ⟨atI_nat (by rw [List.getElem?_map, List.getElem?_eq_getElem hj]; rfl), List.getElem_mem hj⟩
    obtain ⟨a0, m0⟩ := atq (l1 / l2).toNat (l1 / l2) (by omega) (by omega)
    obtain ⟨a1, m1⟩ := atq (min ((l1 / l2).toNat + 1) (qs'.length - 1)) (if ((((qs'.map fun (q : Addr × Int × Int) => V.ref q.1).length : Nat) : Int) - 1) < l1 / l2 + 1 then ((((qs'.map fun (q : Addr × Int × Int) => V.ref q.1).length : Nat) : Int) - 1) else l1 / l2 + 1) (by rw [hll]; split <;> omega) (by omega)
    have c0 := L'.crn _ m0
    have c1 := L'.crn _ m1
    have dvl : 0 < l2 ∧ bits l2 ≤ 8000 := ⟨hl, bits_le pq.bb (by decide)⟩
    have cm : ∀ {u v : Int} {i j : Nat}, bits u ≤ i → bits v ≤ j → i ≤ 1000 → j ≤ 1000 → CM u v := fun h1 h2 a b => CM.b h1 h2 (by omega) (by omega)
    have SL := SqL.of (K := K) L'.lst
    have TL := SqT.of (K := K) pq.at_
    refine ⟨_, rfl, _, rfl, q, _, _, _, rfl, rfl, TL, rfl, _, rfl, q, _, _, _, rfl, rfl, TL, rfl, _, _, rfl, rfl, dvl, l', _, _, _, rfl, rfl, SL, a0, ?_⟩
    refine ⟨_, rfl, _, rfl, q, _, _, _, rfl, rfl, TL, rfl, _, rfl, q, _, _, _, rfl, rfl, TL, rfl, _, _, rfl, rfl, dvl, _, _, rfl, rfl, _, rfl, l', _, rfl, .inl SL, _, _, rfl, rfl, _, _, rfl, l', _, _, _, rfl, rfl, SL, a1, ?_⟩
    have Lz : ∀ {k : Nat}, Str_ qs'.length k l1 l2 h1 h2 → (l1 / l2).toNat = k ∧ min ((l1 / l2).toNat + 1) (qs'.length - 1) = k + 1 := fun st => by
      have := st.fl hl hh
      have := st.kn
      omega
    have w1 := bits_sub c1.2.1 c0.2.1
    have w2 := bits_sub c1.2.2 c0.2.2
    refine ⟨_, rfl, _, _, _, _, rfl, rfl, SqT.of c1.1, rfl, _, rfl, _, _, _, _, rfl, rfl, SqT.of c0.1, rfl, _, _, rfl, rfl, ?_⟩
    refine ⟨_, rfl, _, _, _, _, rfl, rfl, SqT.of c1.1, rfl, _, rfl, _, _, _, _, rfl, rfl, SqT.of c0.1, rfl, _, _, rfl, rfl, ?_⟩
    refine ⟨_, rfl, _, rfl, _, _, rfl, rfl, cm w1 w1 (by decide) (by decide), _, rfl, _, rfl, _, _, rfl, rfl, cm w2 w2 (by decide) (by decide), _, _, rfl, rfl, ?_⟩
    have lowK : (∀ T B, LPc (ptX qs t b) (ptY qs t b) b qs' l1 l2 h1 h2 T B → T * l2 = l1 * B) → Q (.ref q) H := fun h => k q l1 l2 H pq.at_ (bits_le pq.bt (by decide)) (bits_le pq.bb (by decide)) h (Same.refl _)
    refine ⟨_, rfl, rfl, _, rfl, ite3 (fun z1 => ?_) (fun z1 => ?_)⟩
    · refine ⟨_, rfl, lowK fun T B lp => ?_⟩
      have z1 := dec_t z1
      have z1 := V.int.inj z1
      rcases lp with ⟨_, _, rfl, rfl⟩ | ⟨kk, st, cl⟩
      · rfl
      · obtain ⟨e1, e2⟩ := Lz st
        rw [e2, e1] at z1
        have z1 : kL qs' kk = 0 := z1
        rcases cl with ⟨e, rfl, _⟩ | ⟨_, _, h, _⟩ | ⟨h, _⟩
        · have : T = l1 := by omega
          rw [this]
        · exact absurd z1 h
        · exact absurd z1 h
    refine ⟨_, rfl, _, rfl, q, q', [l1, l2], [h1, h2], rfl, rfl, TL, SqT.of pq'.at_, _, rfl, ite3 (fun z2 => ?_) (fun z2 => ?_)⟩
    · have z2 : [l1, l2] = [h1, h2] := of_decide_eq_true (by simpa using z2)
      cases z2
      refine ⟨_, rfl, lowK fun T B lp => ?_⟩
      rcases lp with ⟨_, _, rfl, rfl⟩ | ⟨kk, st, cl⟩
      · rfl
      · have := st.lt
        omega
    have z2 : ¬ [l1, l2] = [h1, h2] := of_decide_eq_false (by simpa using z2)
    rcases ins with ⟨rfl, rfl⟩ | ⟨kk, st⟩
    · exact absurd rfl z2
    obtain ⟨e1, e2⟩ := Lz st
    have e0 := st.fl hl hh
    refine ⟨_, rfl, _, rfl, l, p, qs, t, b, rfl, L, g1, pl, fun rp H1 f1 s1 => ?_⟩
    have B := pt_bits (t := t) L hb pl.bb
    have PT := SqT.of (K := K) f1
    have d0 := s1 _ _ c0.1
    have x1 := bits_sub B.1 (bits_le (bits_mul c0.2.1 bb) (show 110 ≤ 262 by decide))
    have x2 := bits_sub B.2 (bits_le (bits_mul c0.2.2 bb) (show 110 ≤ 262 by decide))
    refine ⟨_, rfl, rp, _, _, _, rfl, rfl, PT, rfl, _, rfl, _, _, _, _, rfl, rfl, SqT.of d0, rfl, _, rfl, rp, _, _, _, rfl, rfl, PT, rfl, _, _, rfl, rfl, cm c0.2.1 bb (by decide) (by decide), _, _, rfl, rfl, _, rfl, _, _, rfl, rfl, cm x1 w1 (by decide) (by decide), _, rfl, rp, _, _, _, rfl, rfl, PT, rfl, _, rfl, _, _, _, _, rfl, rfl, SqT.of d0, rfl, _, rfl, rp, _, _, _, rfl, rfl, PT, rfl, _, _, rfl, rfl, cm c0.2.2 bb (by decide) (by decide), _, _, rfl, rfl, _, rfl, _, _, rfl, rfl, cm x2 w2 (by decide) (by decide), _, _, rfl, rfl, ?_⟩
    have TL1 := SqT.of (K := K) (s1 _ _ pq.at_)
    have y1 : bits ((l1 / l2) * ((qs'.getD (min ((l1 / l2).toNat + 1) (qs'.length - 1)) (0, 0, 0)).2.1 - (qs'.getD (l1 / l2).toNat (0, 0, 0)).2.1) * ((qs'.getD (min ((l1 / l2).toNat + 1) (qs'.length - 1)) (0, 0, 0)).2.1 - (qs'.getD (l1 / l2).toNat (0, 0, 0)).2.1)) ≤ 1000 := bits_le (bits_mul (bits_mul (bits_small (by omega) (by omega) : bits (l1 / l2) ≤ 10) w1) w1) (by decide)
    have bq : bits (l1 / l2) ≤ 10 := bits_small (by omega) (by omega)
    have bL := bits_add (bits_mul w1 w1) (bits_mul w2 w2)
    have bA := bits_add (bits_mul x1 w1) (bits_mul x2 w2)
    refine ⟨_, rfl, q, _, _, _, rfl, rfl, TL1, rfl, _, rfl, q, _, _, _, rfl, rfl, TL1, rfl, _, _, rfl, rfl, dvl, _, rfl, _, _, rfl, rfl, cm bq bL (by decide) (by decide), _, rfl, rp, _, _, _, rfl, rfl, PT, rfl, _, _, rfl, rfl, cm (bits_mul bq bL) bb (by decide) (by decide), _, rfl, _, _, rfl, rfl, _, rfl, _, rfl, rp, _, _, _, rfl, rfl, PT, rfl, _, _, rfl, rfl, cm bL bb (by decide) (by decide), sz (by simp), fun fo H2 s2 f2 _ => ?_⟩
    have bF0 := bits_le (bits_add (bits_le (bits_mul (bits_mul bq bL) bb) (show 173 ≤ 320 by decide)) (bits_le bA (show 315 ≤ 320 by decide))) (show 321 ≤ 5000 by decide)
    have bF1 := bits_le (bits_mul bL bb) (show 163 ≤ 5000 by decide)
    have f2' : H2 fo = some (.tup [.int ((kk : Int) * kL qs' kk * b + kA (ptX qs t b) (ptY qs t b) b qs' kk), .int (kL qs' kk * b)]) := by
      rw [f2, e2, e1, e0]
      rfl
    rw [e2, e1, e0] at bF0
    rw [e2, e1] at bF1
    have bF0 : bits ((kk : Int) * kL qs' kk * b + kA (ptX qs t b) (ptY qs t b) b qs' kk) ≤ 5000 := bF0
    have bF1 : bits (kL qs' kk * b) ≤ 5000 := bF1
    have S2 := s1.trans s2
    have pq2 := pq.mono S2
    have pq2' := pq'.mono S2
    have lw : ∀ {u : Int}, bits u ≤ 200 → bits u ≤ 5000 := fun h => bits_le h (by decide)
    have one : ∀ {T B : Int} {G : Prop}, LPc (ptX qs t b) (ptY qs t b) b qs' l1 l2 h1 h2 T B → (Cl (kL qs' kk) (kA (ptX qs t b) (ptY qs t b) b qs' kk) b (l1 - (kk : Int) * l2) l2 (h1 - (kk : Int) * h2) h2 (T - (kk : Int) * B) B → G) → G := fun lp h => by
      rcases lp with ⟨rfl, rfl, _⟩ | ⟨k2, st2, cl⟩
      · exact absurd rfl z2
      · have ek : k2 = kk := by
          have := (Lz st2).1
          omega
        subst ek
        exact h cl
    have cA : ((kk : Int) * kL qs' kk * b + kA (ptX qs t b) (ptY qs t b) b qs' kk) * l2 < l1 * (kL qs' kk * b) ↔ kA (ptX qs t b) (ptY qs t b) b qs' kk * l2 < (l1 - (kk : Int) * l2) * (kL qs' kk * b) := by
      generalize kA (ptX qs t b) (ptY qs t b) b qs' kk = al
      generalize kL qs' kk = LL
      have : ((kk : Int) * LL * b + al) * l2 - l1 * (LL * b) = al * l2 - (l1 - (kk : Int) * l2) * (LL * b) := by grind
      omega
    have cB : h1 * (kL qs' kk * b) < ((kk : Int) * kL qs' kk * b + kA (ptX qs t b) (ptY qs t b) b qs' kk) * h2 ↔ (h1 - (kk : Int) * h2) * (kL qs' kk * b) < kA (ptX qs t b) (ptY qs t b) b qs' kk * h2 := by
      generalize kA (ptX qs t b) (ptY qs t b) b qs' kk = al
      generalize kL qs' kk = LL
      have : h1 * (LL * b) - ((kk : Int) * LL * b + al) * h2 = (h1 - (kk : Int) * h2) * (LL * b) - al * h2 := by grind
      omega
    have nL : kL qs' kk ≠ 0 := fun z => by
      have z1 := dec_f z1
      refine z1 ?_
      rw [e2, e1]
      exact congrArg V.int z
    refine ⟨_, rfl, _, rfl, fo, q, _, _, l1, l2, rfl, f2', pq2.at_, ⟨bF0, bF1, lw pq.bt, lw pq.bb⟩, _, rfl, ite3 (fun h3 => ?_) (fun h3 => ?_)⟩
    · have h3 := cA.mp (dec_t h3)
      refine ⟨_, rfl, k q l1 l2 H2 pq2.at_ (lw pq.bt) (lw pq.bb) (fun T B lp => one lp fun cl => ?_) S2⟩
      rcases cl with ⟨e, rfl, _⟩ | ⟨_, _, _, h, _⟩ | ⟨_, h, _⟩
      · have : T = l1 := by omega
        rw [this]
      · exact absurd h3 h
      · exact absurd h3 h
    have h3 : ¬ _ := fun z => dec_f h3 (cA.mpr z)
    refine ⟨_, rfl, _, rfl, q', fo, h1, h2, _, _, rfl, pq2'.at_, f2', ⟨lw pq'.bt, lw pq'.bb, bF0, bF1⟩, _, rfl, ite3 (fun h4 => ?_) (fun h4 => ?_)⟩
    · have h4 := cB.mp (dec_t h4)
      refine ⟨_, rfl, k q' h1 h2 H2 pq2'.at_ (lw pq'.bt) (lw pq'.bb) (fun T B lp => one lp fun cl => ?_) S2⟩
      rcases cl with ⟨e, rfl, h | h⟩ | ⟨e, rfl, _, h, _⟩ | ⟨_, _, h, _⟩
      · exact absurd h nL
      · exact absurd h h3
      · have : T = h1 := by omega
        rw [this]
      · exact absurd h4 h
    have h4 : ¬ _ := fun z => dec_f h4 (cB.mpr z)
    refine ⟨_, rfl, k fo _ _ H2 f2' bF0 bF1 (fun T B lp => one lp fun cl => ?_) S2⟩
    rcases cl with ⟨e, rfl, h | h⟩ | ⟨e, rfl, _, _, h⟩ | ⟨_, _, _, h⟩
    · exact absurd h nL
    · exact absurd h h3
    · exact absurd h h4
    · generalize kA (ptX qs t b) (ptY qs t b) b qs' kk = al at *
      generalize kL qs' kk = LL at *
      grind
theorem S_law_right : FnScope ["one", "x", "other", "low", "high", "numbers", "found", "number", "square"] ["one", "x", "other", "low", "high", "numbers"] (defScope (top 43)) := ⟨rfl, rfl, rfl, by decide +kernel, rfl, by decide +kernel, by decide +kernel⟩
theorem fn_law_right {C : Addr} (D_law_right : Df K mg "_law_right" (top 43)) (F_least_along : Fx P w K mg base "least_along" ["one", "x", "other", "low", "high"] 6 [] (spLeast C)) (F_law_lowest : Fn P w K mg base "_law_lowest" ["found"] 2 spLow) (F_law_same : Fn P w K mg base "_law_same" ["found", "due"] 1 spLSame) (F_law_lowest_place : Fn P w K mg base "_law_lowest_place" ["one", "x", "other", "low", "high"] 2 spLP) (F_law_square : Fn P w K mg base "_law_square" ["one", "x", "other", "y"] 2 spLSq) (F_law_amid : Fn P w K mg base "_law_amid" ["low", "high", "number"] 2 spAmid) (F_law_before : Fn P w K mg base "_law_before" ["a", "b"] 1 spLs) (T : Txt mg) : Fn P w K mg base "_law_right" ["one", "x", "other", "low", "high", "numbers"] 7 (spRgt K) := by
  refine D_law_right.fn S_law_right (fun _ _ _ _ _ _ us hl => match us, hl with | [_, _, _, _, _, _], _ => rfl) (fun vs H Q E h => ?_) (fun f cdv A outer s H vs Q E hr h => ?_)
  · obtain ⟨l, p, l', q, q', pn, qs, qs', t, b, l1, l2, h1, h2, ns, rfl, _⟩ := h
    rfl
  · obtain ⟨l, p, l', q, q', pn, qs, qs', t, b, l1, l2, h1, h2, ns, rfl, L, L', g1, g1', pl, bb, pq, b2, pq', b4, ins, hle, en, hn, fin⟩ := h
    refine ⟨_, (pss_cons (ps_set (i := 6) S_law_right.nd rfl (Or.inl rfl) (pe_fx0 F_least_along (hr.mono (by decide)) (by rfl) (pa_cons (pv 0) (pa_cons (pv 1) (pa_cons (pv 2) (pa_cons (pv 3) (pa_cons (pv 4) pa_nil))))))) (pss_cons (ps_if (pw_or (pt_not (pt_val (pe_callB call_isinst (by rfl) T.z_isinstance bt_isinstance (pa_cons (pv 6) (pa_cons (pe_ty T.z_tuple bt_tuple) pa_nil))))) (pw_or (pt_cmpR op_ne (pe_callB call_len_seq (by rfl) T.z_len bt_len (pa_cons (pv 6) pa_nil)) pe_int (nomark _)) (pw_or (pt_not (pt_val (pe_fn F_law_lowest (hr.mono (by decide)) (by rfl) (pa_cons (pe_ix ix_tup (pv 6) pe_int (fun _ _ => rfl)) pa_nil)))) (pw_or1 (pt_not (pt_val (pe_fn F_law_lowest (hr.mono (by decide)) (by rfl) (pa_cons (pe_ix ix_tup (pv 6) pe_int (fun _ _ => rfl)) pa_nil)))))))).pt (pss_one (ps_ret pe_bl)) pss_nil) (pss_cons (ps_if (pt_not (pt_val (pe_fn F_law_same (hr.mono (by decide)) (by rfl) (pa_cons (pe_ix ix_tup (pv 6) pe_int (fun _ _ => rfl)) (pa_cons (pe_fn F_law_lowest_place (hr.mono (by decide)) (by rfl) (pa_cons (pv 0) (pa_cons (pv 1) (pa_cons (pv 2) (pa_cons (pv 3) (pa_cons (pv 4) pa_nil)))))) pa_nil))))) (pss_one (ps_ret pe_bl)) pss_nil) (pss_cons (ps_if (pt_not (pt_val (pe_fn F_law_same (hr.mono (by decide)) (by rfl) (pa_cons (pe_ix ix_tup (pv 6) pe_int (fun _ _ => rfl)) (pa_cons (pe_fn F_law_square (hr.mono (by decide)) (by rfl) (pa_cons (pv 0) (pa_cons (pv 1) (pa_cons (pv 2) (pa_cons (pe_ix ix_tup (pv 6) pe_int (fun _ _ => rfl)) pa_nil))))) pa_nil))))) (pss_one (ps_ret pe_bl)) pss_nil) (pss_cons (ps_for PassesOwn.never rfl (pi_list (pv 5)) (pg_name (i := 7) S_law_right.nd rfl (Or.inl rfl)) (pss_cons (ps_set (i := 8) S_law_right.nd rfl (Or.inl rfl) (pe_fn F_law_square (hr.mono (by decide)) (by rfl) (pa_cons (pv 0) (pa_cons (pv 1) (pa_cons (pv 2) (pa_cons (pe_fn F_law_amid (hr.mono (by decide)) (by rfl) (pa_cons (pv 3) (pa_cons (pv 4) (pa_cons (pv 7) pa_nil)))) pa_nil)))))) (pss_one (ps_if (pt_val (pe_fn F_law_before (hr.mono (by decide)) (by rfl) (pa_cons (pv 8) (pa_cons (pe_ix ix_tup (pv 6) pe_int (fun _ _ => rfl)) pa_nil)))) (pss_one (ps_ret pe_bl)) pss_nil)))) (pss_one (ps_ret pe_bl))))))), ?_⟩
    have hb : (0 : Int) < b := pl.low.pos
    refine ⟨_, rfl, _, rfl, _, rfl, _, rfl, _, rfl, l, l', qs, qs', _, _, _, rfl, L, L', g1, g1', pl.th, pq.th, pq'.th, .inr ⟨p, t, b, rfl, pl, .inr ⟨q, l1, l2, rfl, pq, .inr ⟨q', h1, h2, rfl, pq', bb, b2, b4, ins, fun r rs rp sn sw T B H1 f1 gs PL lp r0 r1 fs s1 => ?_⟩⟩⟩⟩
    have FT := SqT.of (K := K) f1
    have hlow : lowV H1 (.ref rs) = true := by rw [lowV_two gs.at_]; exact low_B gs.low
    have hlow2 : lowV H1 (.ref rp) = true := by rw [lowV_two PL.at_]; exact low_B PL.low
    refine ⟨_, rfl, .ref r, "tuple", "tuple", rfl, .tup f1, .inr (.inr (.inl rfl)), _, rfl, iteF ?_⟩
    refine ⟨_, rfl, r, _, rfl, .inr FT, rfl, _, rfl, iteFalse (by simp) ?_⟩
    refine ⟨_, rfl, r, _, _, _, rfl, rfl, FT, rfl, _, rfl, gs.th, _, rfl, iteFalse (by rw [hlow]; rfl) ?_⟩
    refine ⟨_, rfl, r, _, _, _, rfl, rfl, FT, rfl, _, rfl, PL.th, _, rfl, iteFalse (by rw [hlow2]; rfl) ?_⟩
    refine ⟨_, rfl, r, _, _, _, rfl, rfl, FT, rfl, _, rfl, _, rfl, _, rfl, _, rfl, _, rfl, l, p, l', q, q', qs, qs', t, b, l1, l2, h1, h2, rfl, L.mono s1, L'.mono s1, g1, g1', pl.mono s1, bb, pq.mono s1, pq'.mono s1, ins, fun ra f0 fb H2 fa ba bfb hLP s2 => ?_⟩
    have PL2 := PL.mono s2
    refine ⟨rp, ra, T, B, f0, fb, rfl, PL2.at_, fa, ⟨bits_le PL.bt (by decide), bits_le PL.bb (by decide), ba, bfb⟩, _, rfl, iteFalse (by rw [decide_eq_true (hLP T B lp)]; rfl) ?_⟩
    have S2 := s1.trans s2
    have F2 := SqT.of (K := K) (s2 _ _ f1)
    have bsq : ∀ {Hh : Hp} {m1 m2 : Int} {z : Addr}, Plc Hh z m1 m2 (lst_ qs') → bits (sqF qs t b qs' m1 m2) ≤ 5000 ∧ bits (sqD b m2) ≤ 5000 := fun {Hh m1 m2 z} pm => by
      have hm : (0 : Int) < m2 := pm.low.pos
      have Bx := pt_bits (t := t) L hb pl.bb
      have By := pt_bits (t := m1) L' hm pm.bb
      have w262 : ∀ {u : Int}, bits u ≤ 200 → bits u ≤ 262 := fun h => bits_le h (by decide)
      have bx := bits_sub (bits_mul By.1 (w262 pl.bb)) (bits_mul Bx.1 (w262 pm.bb))
      have by' := bits_sub (bits_mul By.2 (w262 pl.bb)) (bits_mul Bx.2 (w262 pm.bb))
      refine ⟨bits_le (bits_add (bits_mul bx bx) (bits_mul by' by')) (by decide), ?_⟩
      have bd := bits_mul pl.bb pm.bb
      exact bits_le (bits_mul bd bd) (by decide)
    refine ⟨_, rfl, r, _, _, _, rfl, rfl, F2, rfl, _, rfl, _, rfl, _, rfl, _, rfl, r, _, _, _, rfl, rfl, F2, rfl, l, p, l', rp, qs, qs', t, b, T, B, rfl, L.mono S2, L'.mono S2, g1, g1', pl.mono S2, PL2, fun rq_ H3 f3 s3 => ?_⟩
    have gs3 := (gs.mono s2).mono s3
    refine ⟨rs, rq_, sn, sw, _, _, rfl, gs3.at_, f3, ⟨bits_le gs.ba (by decide), bits_le gs.bb (by decide), (bsq PL).1, (bsq PL).2⟩, _, rfl, iteFalse (by rw [decide_eq_true (show sn * sqD b B = sqF qs t b qs' T B * sw by have := fs.eq; omega)]; rfl) ?_⟩
    have S3 := S2.trans s3
    refine ⟨_, rfl, pn, rfl, ⟨_, SqL.of (S3 _ _ en)⟩, for_list (K := K) (a := pn) (xs := ns.map V.int) (fun _ σ H4 => ∃ z7 z8, σ = [some (.ref l), some (.ref p), some (.ref l'), some (.ref q), some (.ref q'), some (.ref pn), some (.ref r), z7, z8] ∧ Same H3 H4)
      ⟨_, _, rfl, Same.refl _⟩ (fun i σ H4 _ ⟨_, _, _, sm⟩ => SqL.of (sm _ _ (S3 _ _ en))) ?_ ?_⟩
    · rintro i o σ H4 hi ⟨z7, z8, rfl, sm⟩
      obtain ⟨c, _, rfl⟩ := List.mem_map.mp (List.mem_of_getElem? hi)
      have S4 := S3.trans sm
      have h20 : lst_ qs' ≤ 20 := by unfold lst_; omega
      refine ⟨_, rfl, _, rfl, _, rfl, _, rfl, _, rfl, _, rfl, q, q', l1, l2, h1, h2, c, _, rfl, pq.mono S4, b2, pq'.mono S4, b4, h20, hle, fun rm m1 m2 H5 pm a1 a2 s5 => ?_⟩
      have S5 := S4.trans s5
      refine ⟨l, p, l', rm, qs, qs', t, b, m1, m2, rfl, L.mono S5, L'.mono S5, g1, g1', pl.mono S5, pm, fun rz H6 f6 s6 => ?_⟩
      have G6 := ((gs3.mono sm).mono s5).mono s6
      have R6 := (s2.trans (s3.trans (sm.trans (s5.trans s6)))) _ _ f1
      refine ⟨_, rfl, _, rfl, r, _, _, _, rfl, rfl, SqT.of R6, rfl, rz, rs, _, _, sn, sw, rfl, f6, G6.at_, ⟨(bsq pm).1, (bsq pm).2, bits_le gs.ba (by decide), bits_le gs.bb (by decide)⟩, _, rfl, iteFalse ?_ ⟨_, _, rfl, sm.trans (s5.trans s6)⟩⟩
      exact decide_eq_false (min_ok hb pq.low pq'.low PL.low pm.low lp a1 a2 fs r0 r1)
    · rintro σ H4 ⟨z7, z8, rfl, sm⟩
      exact fin H4 (S3.trans sm)
theorem S_law_part : FnScope ["line", "numbers", "last", "number", "some"] ["line", "numbers"] (defScope (top 38)) := ⟨rfl, rfl, rfl, by decide +kernel, rfl, by decide +kernel, by decide +kernel⟩
theorem fn_law_part (D_law_part : Df K mg "_law_part" (top 38)) (F_law_place : Fn P w K mg base "_law_place" ["line", "way", "number"] 2 spPlaceL) (T : Txt mg) : Fn P w K mg base "_law_part" ["line", "numbers"] 3 (spPart K) := by
  refine D_law_part.fn S_law_part (fun _ _ _ _ _ _ us hl => match us, hl with | [_, _], _ => rfl) (fun vs H Q E h => ?_) (fun f cdv A outer s H vs Q E hr h => ?_)
  · obtain ⟨l, pn, qs, ns, rfl, _⟩ := h
    rfl
  · obtain ⟨l, pn, qs, ns, rfl, L, g1, en, hn, nn, q⟩ := h
    have hll : (qs.map fun (q : Addr × Int × Int) => V.ref q.1).length = qs.length := List.length_map _
    have CN : CompN (cxOf CX0 P w K mg base ["line", "numbers", "last", "number", "some"] "_law_part" (defScope (top 38)) f cdv A outer s H E).nox (setScope ((defBody (top 38)).getD 3 (.Pass ⟨0, 0, 0, 0⟩))) [("numbers", s.heap.objs.size + 2), ("line", s.heap.objs.size + 1)] "k" [("line", 0), ("numbers", 1)] :=
      ⟨by rfl, rfl, by decide +kernel, by decide +kernel, rfl, (fun p hp => by simp only [List.mem_cons, List.not_mem_nil, or_false] at hp; rcases hp with rfl | rfl <;> rfl), by rfl, by decide +kernel, (fun p hp => by simp only [List.mem_cons, List.not_mem_nil, or_false] at hp; rcases hp with rfl | rfl <;> exact ⟨rfl, rfl, .inr (.inl rfl), rfl, rfl⟩), ⟨rfl, rfl⟩, rfl⟩
    have CM2 : CompM (cxOf CX0 P w K mg base ["line", "numbers", "last", "number", "some"] "_law_part" (defScope (top 38)) f cdv A outer s H E).nox (Sp7.retScope ((defBody (top 38)).getD 7 (.Pass ⟨0, 0, 0, 0⟩))) [("number", s.heap.objs.size + 3)] ["top", "bottom"] [("number", 3)] :=
      ⟨by rfl, rfl, by decide +kernel, by decide +kernel, (fun x hx => by simp only [List.mem_cons, List.not_mem_nil, or_false] at hx; rcases hx with rfl | rfl <;> rfl), (fun p hp => by simp only [List.mem_cons, List.not_mem_nil, or_false] at hp; subst hp; rfl), by rfl, by decide +kernel, (fun p hp => by simp only [List.mem_cons, List.not_mem_nil, or_false] at hp; subst hp; exact ⟨rfl, rfl, .inr (.inl rfl), rfl, rfl⟩), ⟨rfl, rfl⟩, rfl⟩
    have R7 : ∃ u, PSs (cxOf CX0 P w K mg base ["line", "numbers", "last", "number", "some"] "_law_part" (defScope (top 38)) f cdv A outer s H E).nox ((defBody (top 38)).drop 7) u ∧ ∀ (H1 : Hp) (k : Nat) (kv : Int) (ekv : kv = (k : Int)) (z2 : Option V) (so p1 p2 : Addr) (t1 b1 t2 b2 : Int), Same H H1 → k + 1 < qs.length → H1 so = some (.lst [.ref p1, .ref p2]) → Pr2 H1 p1 t1 b1 → Pr2 H1 p2 t2 b2 → t1 * b2 ≤ t2 * b1 → u { nx := fun _ H' => Q .non H', rt := Q } [some (.ref l), some (.ref pn), z2, some (.int kv), some (.ref so)] H1 := by
      refine ⟨_, (pss_one (ps_ret (pe_compG rfl CM2 (pi_list (pv 4)) (fun fp s₀ H₀ => (pg_tupK (K := K) (n := 2) rfl rfl (pgs_cons (pg_name (i := 0) CM2.nd rfl (Or.inl rfl) (Or.inr rfl)) (pgs_cons (pg_name (i := 1) CM2.nd rfl (Or.inl rfl) (Or.inr rfl)) pgs_nil)))) (fun fp s₀ H₀ => pts_nil) (fun fp s₀ H₀ => (pe_tupA (pa_cons (pe_op op_add (pe_op op_mulX (pv 2) (pv 1)) (pv 0)) (pa_cons (pv 1) pa_nil))))))), fun H1 k kv ekv z2 so p1 p2 t1 b1 t2 b2 s1 hk eso P1 P2 hle => ?_⟩
      subst ekv
      obtain ⟨ins, hle2⟩ := part_in hk P1.2.1 P2.2.1 P1.2.2.1 P2.2.2.2.1 hle
      have bk : bits (k : Int) ≤ 10 := bits_small (by omega) (by omega)
      have ck : ∀ x : Int, CM (k : Int) x := fun x => CM.l (lt64s (by omega) (by omega))
      refine ⟨_, rfl, so, rfl, ⟨_, SqL.of eso⟩, comp_listG (K := K) (k := 2) (SqL.of eso) (by simp) (fun i v H' => (i = 0 → ∃ r, v = .ref r ∧ H' r = some (.tup [.int ((k : Int) * b1 + t1), .int b1])) ∧ (i = 1 → ∃ r, v = .ref r ∧ H' r = some (.tup [.int ((k : Int) * b2 + t2), .int b2]))) (fun i v H H' st h => ⟨fun e => by obtain ⟨r, e1, e2⟩ := h.1 e; exact ⟨r, e1, st _ _ e2⟩, fun e => by obtain ⟨r, e1, e2⟩ := h.2 e; exact ⟨r, e1, st _ _ e2⟩⟩) ?_ ?_⟩
      · intro i x H2 τ Kc hx s2 hτ kk
        obtain ⟨τ0, τ1, rfl⟩ : ∃ τ0 τ1, τ = [τ0, τ1] := by
          match τ, hτ with
          | [a, b], _ => exact ⟨a, b, rfl⟩
        match i, hx with
        | 0, hx =>
          cases hx
          refine ⟨p1, _, rfl, SqT.of (s2 _ _ P1.1), rfl, _, _, rfl, _, _, rfl, rfl, ⟨[some (.int t1), some (.int b1)], rfl, rfl⟩, ?_⟩
          exact ⟨_, rfl, _, rfl, _, _, rfl, rfl, ck _, _, rfl, _, _, rfl, rfl, _, rfl, sz (by simp), fun r H4 s4 f4 _ => kk _ H4 s4 ⟨fun _ => ⟨r, rfl, f4⟩, fun z => absurd z (by decide)⟩⟩
        | 1, hx =>
          cases hx
          refine ⟨p2, _, rfl, SqT.of (s2 _ _ P2.1), rfl, _, _, rfl, _, _, rfl, rfl, ⟨[some (.int t2), some (.int b2)], rfl, rfl⟩, ?_⟩
          exact ⟨_, rfl, _, rfl, _, _, rfl, rfl, ck _, _, rfl, _, _, rfl, rfl, _, rfl, sz (by simp), fun r H4 s4 f4 _ => kk _ H4 s4 ⟨fun z => absurd z (by decide), fun _ => ⟨r, rfl, f4⟩⟩⟩
        | i + 2, hx => simp at hx
      · intro r zs H2 nr s2 f2 hl hr
        match zs, hl, f2, hr with
        | [v1, v2], _, f2, hr =>
          obtain ⟨r1, rfl, e1⟩ := (hr 0 v1 rfl).1 rfl
          obtain ⟨r2, rfl, e2⟩ := (hr 1 v2 rfl).2 rfl
          have pk : ∀ {z : Addr} {t b : Int}, Pr2 H1 z t b → ∀ {rr : Addr}, H2 rr = some (.tup [.int ((k : Int) * b + t), .int b]) → Plc H2 rr ((k : Int) * b + t) b (lst_ qs) := fun {z t b} hp {rr} e => by
            obtain ⟨_, lw, h0, h1, bt, bb⟩ := hp
            have hb : (0 : Int) < b := lw.pos
            have m0 : 0 ≤ (k : Int) * b := Int.mul_nonneg (by omega) (by omega)
            have m1 : ((k : Int) + 1) * b ≤ lst_ qs * b := Int.mul_le_mul_of_nonneg_right (by unfold lst_; omega) (by omega)
            rw [Int.add_mul, Int.one_mul] at m1
            exact ⟨e, ⟨hb, by rw [gcd_on]; exact lw.one⟩, by omega, by omega, bits_le (bits_add (n := 100) (bits_le (bits_mul bk bb) (by decide)) bt) (by decide), bits_le bb (by decide)⟩
          exact q r r1 r2 _ _ _ _ H2 (s1.trans s2) f2 (pk P1 e1) P1.2.2.2.2.2 (pk P2 e2) P2.2.2.2.2.2 ins hle2
    obtain ⟨u7, hu7, rd7⟩ := R7
    have R6 : ∃ u, PSs (cxOf CX0 P w K mg base ["line", "numbers", "last", "number", "some"] "_law_part" (defScope (top 38)) f cdv A outer s H E).nox ((defBody (top 38)).drop 6) u ∧ ∀ (H1 : Hp) (k : Nat) (kv : Int) (ekv : kv = (k : Int)) (z2 : Option V) (so p1 p2 : Addr) (t1 b1 t2 b2 : Int), Same H H1 → k + 1 < qs.length → H1 so = some (.lst [.ref p1, .ref p2]) → Pr2 H1 p1 t1 b1 → Pr2 H1 p2 t2 b2 → u { nx := fun _ H' => Q .non H', rt := Q } [some (.ref l), some (.ref pn), z2, some (.int kv), some (.ref so)] H1 := by
      refine ⟨_, pss_cons (ps_if (pt_cmpR op_lt (pe_op op_mulX (pe_ix ix_tup (pe_ix ix_list (pv 4) pe_int (fun _ _ => rfl)) pe_int (fun _ _ => rfl)) (pe_ix ix_tup (pe_ix ix_list (pv 4) pe_int (fun _ _ => rfl)) pe_int (fun _ _ => rfl))) (pe_op op_mulX (pe_ix ix_tup (pe_ix ix_list (pv 4) pe_int (fun _ _ => rfl)) pe_int (fun _ _ => rfl)) (pe_ix ix_tup (pe_ix ix_list (pv 4) pe_int (fun _ _ => rfl)) pe_int (fun _ _ => rfl))) (nomark _)) (pss_one (ps_set (i := 4) S_law_part.nd rfl (Or.inl rfl) (pe_lstA (pa_cons (pe_ix ix_list (pv 4) pe_int (fun _ _ => rfl)) (pa_cons (pe_ix ix_list (pv 4) pe_int (fun _ _ => rfl)) pa_nil))))) pss_nil) hu7, fun H1 k kv ekv z2 so p1 p2 t1 b1 t2 b2 s1 hk eso P1 P2 => ?_⟩
      have SO := SqL.of (K := K) eso
      have T1 := SqT.of (K := K) P1.1
      have T2 := SqT.of (K := K) P2.1
      have P1' := P1
      have P2' := P2
      obtain ⟨_, lw1, h01, h11, bt1, bb1⟩ := P1
      obtain ⟨_, lw2, h02, h12, bt2, bb2⟩ := P2
      refine ⟨_, rfl, so, _, _, _, rfl, rfl, SO, rfl, p2, _, _, _, rfl, rfl, T2, rfl, _, rfl, so, _, _, _, rfl, rfl, SO, rfl, p1, _, _, _, rfl, rfl, T1, rfl, _, _, rfl, rfl, CM.b bt2 bb1 (by decide) (by decide), _, rfl, so, _, _, _, rfl, rfl, SO, rfl, p1, _, _, _, rfl, rfl, T1, rfl, _, rfl, so, _, _, _, rfl, rfl, SO, rfl, p2, _, _, _, rfl, rfl, T2, rfl, _, _, rfl, rfl, CM.b bt1 bb2 (by decide) (by decide), _, _, rfl, rfl, _, rfl, ite3 (fun h1 => ?_) (fun h1 => ?_)⟩
      · have h1 : t2 * b1 < t1 * b2 := dec_t h1
        refine ⟨_, rfl, so, _, _, _, rfl, rfl, SO, rfl, _, rfl, so, _, _, _, rfl, rfl, SO, rfl, sz (by simp), fun s2' H2 s2 f2 _ => ?_⟩
        exact rd7 H2 k kv ekv z2 s2' p2 p1 t2 b2 t1 b1 (s1.trans s2) hk f2 (P2'.mono s2) (P1'.mono s2) (by omega)
      · have h1 : ¬ t2 * b1 < t1 * b2 := dec_f h1
        exact rd7 H1 k kv ekv z2 so p1 p2 t1 b1 t2 b2 s1 hk eso P1' P2' (by omega)
    obtain ⟨u6, hu6, rd6⟩ := R6
    refine ⟨_, (pss_cons (ps_set (i := 2) S_law_part.nd rfl (Or.inl rfl) (pe_op op_sub (pe_callB call_len_seq (by rfl) T.z_len bt_len (pa_cons (pv 0) pa_nil)) pe_int)) (pss_cons (ps_if (pt_cmpR op_eq (pv 2) pe_int (nomark _)) (pss_one (ps_ret (pe_lstA (pa_cons (pe_tupA (pa_cons pe_int (pa_cons pe_int pa_nil))) (pa_cons (pe_tupA (pa_cons pe_int (pa_cons pe_int pa_nil))) pa_nil))))) pss_nil) (pss_cons (ps_set (i := 3) S_law_part.nd rfl (Or.inr rfl) (pe_op op_mod (pe_ix ix_list (pv 1) pe_int (fun _ _ => rfl)) (pv 2))) (pss_cons (ps_setCompA (j := 4) rfl CN S_law_part.nd rfl rfl (pi_range1 rfl T.z_range (pa_cons pe_int pa_nil)) (fun fp s₀ H₀ => (pe_fn F_law_place (hr.mono (by decide)) (by rfl) (pa_cons (pe_lstA (pa_cons (pe_ix (ix_listK (K := K) rfl) (pv 1) pe_int (fun _ _ => rfl)) (pa_cons (pe_ix (ix_listK (K := K) rfl) (pv 1) pe_int (fun _ _ => rfl)) pa_nil))) (pa_cons (pe_ix (ix_listK (K := K) rfl) (pv 2) (pe_op op_add pe_int (pe_op op_mulX pe_int (pv 0))) (fun _ _ => rfl)) (pa_cons (pe_ix (ix_listK (K := K) rfl) (pv 2) (pe_op op_add pe_int (pe_op op_mulX pe_int (pv 0))) (fun _ _ => rfl)) pa_nil)))))) (pss_cons (ps_if (pt_cmpR op_eq (pe_op op_mod (pe_op op_fdivP (pe_ix ix_list (pv 1) pe_int (fun _ _ => rfl)) pe_int) pe_int) pe_int (nomark _)) (pss_one (ps_set (i := 4) S_law_part.nd rfl (Or.inl rfl) (pe_lstA (pa_cons (pe_tupA (pa_cons pe_int (pa_cons pe_int pa_nil))) (pa_cons (pe_tupA (pa_cons pe_int (pa_cons pe_int pa_nil))) pa_nil))))) pss_nil) (pss_cons (ps_if (pt_cmpR op_eq (pe_op op_mod (pe_op op_fdivP (pe_ix ix_list (pv 1) pe_int (fun _ _ => rfl)) pe_int) pe_int) pe_int (nomark _)) (pss_one (ps_set (i := 4) S_law_part.nd rfl (Or.inl rfl) (pe_lstA (pa_cons (pe_ix ix_list (pv 4) pe_int (fun _ _ => rfl)) (pa_cons (pe_ix ix_list (pv 4) pe_int (fun _ _ => rfl)) pa_nil))))) pss_nil) hu6)))))), ?_⟩
    have dv16 : (0 : Int) < 16 ∧ bits 16 ≤ 8000 := ⟨by decide, by decide⟩
    have a0 : atI (ns.map V.int) 0 = some (.int ns[0]) := at_int 0 rfl (by omega)
    refine ⟨_, rfl, l, _, rfl, .inl (SqL.of L.lst), _, _, rfl, rfl, ?_⟩
    refine ⟨_, rfl, rfl, _, rfl, ite3 (fun h1 => ?_) (fun h1 => ?_)⟩
    · have h1 : (qs.length : Int) - 1 = 0 := by have := V.int.inj (dec_t h1); omega
      refine ⟨sz (by simp), fun p1 H1 s1 f1 _ => ⟨sz (by simp), fun p2 H2 s2 f2 _ => ⟨sz (by simp), fun r H3 s3 f3 _ => ?_⟩⟩⟩
      have z : ∀ {Hz : Hp} {p : Addr}, Hz p = some (.tup [.int 0, .int 1]) → Plc Hz p 0 1 (lst_ qs) := fun e => ⟨e, ⟨by decide, by decide⟩, by decide, by unfold lst_; omega, by decide, by decide⟩
      exact q r p1 p2 0 1 0 1 H3 (s1.trans (s2.trans s3)) f3 (z ((s2.trans s3) _ _ f1)) (by decide) (z (s3 _ _ f2)) (by decide) (.inl ⟨rfl, rfl⟩) (by decide)
    have h1 : ¬ (qs.length : Int) - 1 = 0 := fun z => dec_f h1 (congrArg V.int (by omega))
    have N0 : (0 : Int) < (((qs.map fun (q : Addr × Int × Int) => V.ref q.1).length : Nat) : Int) - 1 := by omega
    have k0 := Int.emod_nonneg ns[0] (show (((qs.map fun (q : Addr × Int × Int) => V.ref q.1).length : Nat) : Int) - 1 ≠ 0 by omega)
    have k1 := Int.emod_lt_of_pos ns[0] N0
    refine ⟨_, rfl, pn, _, _, _, rfl, rfl, SqL.of en, a0, _, rfl, _, _, rfl, rfl, N0, ?_⟩
    obtain ⟨k, ek⟩ : ∃ a : Nat, ns[0] % ((((qs.map fun (q : Addr × Int × Int) => V.ref q.1).length : Nat) : Int) - 1) = (a : Int) := ⟨(ns[0] % ((((qs.map fun (q : Addr × Int × Int) => V.ref q.1).length : Nat) : Int) - 1)).toNat, by omega⟩
    have hk : k + 1 < qs.length := by omega
    refine ⟨2, rfl, by decide, by decide, comp_rR (by decide) (fun i v H' => ∃ (r : Addr) (t b : Int), v = .ref r ∧ Pr2 H' r t b) (fun i v H H' st ⟨r, t, b, e, h⟩ => ⟨r, t, b, e, h.t st⟩) ?_ ?_⟩
    · intro i H2 Kc hi s2 kk
      obtain ⟨v, hv, av⟩ := Dr.at_crn (qs := qs) (k := 0) (by omega) (by omega)
      have i1 : ((0 : Int) + (i : Int)) * 2 = 2 * (i : Int) := by omega
      have SL := SqL.of (K := K) (L.mono s2).lst
      have SN := SqL.of (K := K) (s2 _ _ en)
      refine ⟨_, rfl, l, _, _, _, rfl, rfl, SL, av, _, rfl, l, _, _, _, rfl, rfl, SL, av, sz (by simp), fun p3 H3 s3 f3 _ => ?_⟩
      have SN3 := SqL.of (K := K) (s3 _ _ (s2 _ _ en))
      refine ⟨_, rfl, _, rfl, _, _, rfl, rfl, CM.l (lt64s (by decide) (by decide)), _, _, rfl, rfl, pn, _, _, _, rfl, rfl, SN3, at_int (1 + 2 * i) (by omega) (by omega), _, rfl, _, rfl, _, _, rfl, rfl, CM.l (lt64s (by decide) (by decide)), _, _, rfl, rfl, pn, _, _, _, rfl, rfl, SN3, at_int (2 + 2 * i) (by omega) (by omega), p3, _, _, _, rfl, f3, by simp, by simp, nn _ (List.getElem_mem _), fun r t b H4 lw t0 t1 bt bb s4 f4 => ?_⟩
      have t1 : t ≤ b := by simpa using t1
      exact kk _ H4 (s3.trans s4) ⟨r, t, b, rfl, f4, lw, t0, t1, bt, bb⟩
    · intro so zs H2 nr s2 f2 hl hr
      match zs, hl, f2, hr with
      | [v1, v2], _, f2, hr =>
      obtain ⟨p1, t1, b1, rfl, P1⟩ := hr 0 v1 rfl
      obtain ⟨p2, t2, b2, rfl, P2⟩ := hr 1 v2 rfl
      have zz : ∀ {Hz : Hp} {p : Addr}, Hz p = some (.tup [.int 0, .int 1]) → Pr2 Hz p 0 1 := fun e => ⟨e, ⟨by decide, by decide⟩, by decide, by decide, by decide, by decide⟩
      have oo : ∀ {Hz : Hp} {p : Addr}, Hz p = some (.tup [.int 1, .int 1]) → Pr2 Hz p 1 1 := fun e => ⟨e, ⟨by decide, by decide⟩, by decide, by decide, by decide, by decide⟩
      have st0 := SqL.of (K := K) (s2 _ _ en)
      refine ⟨_, rfl, pn, _, _, _, rfl, rfl, st0, a0, _, _, rfl, rfl, dv16, _, _, rfl, rfl, (by show (0 : Int) < 4; decide), rfl, _, rfl, ite3 (fun c1 => ?_) (fun c1 => ?_)⟩
      · refine ⟨sz (by simp), fun q1 H3 s3 f3 _ => ⟨sz (by simp), fun q2 H4 s4 f4 _ => ⟨sz (by simp), fun so2 H5 s5 f5 _ => ?_⟩⟩⟩
        have S5 := s2.trans (s3.trans (s4.trans s5))
        have e5 := SqL.of (K := K) (S5 _ _ en)
        refine ⟨_, rfl, pn, _, _, _, rfl, rfl, e5, a0, _, _, rfl, rfl, dv16, _, _, rfl, rfl, (by show (0 : Int) < 4; decide), rfl, _, rfl, ite3 (fun c2 => ?_) (fun c2 => ?_)⟩
        · refine ⟨_, rfl, so2, _, _, _, rfl, rfl, SqL.of f5, rfl, _, rfl, so2, _, _, _, rfl, rfl, SqL.of f5, rfl, sz (by simp), fun so3 H6 s6 f6 _ => ?_⟩
          exact rd6 H6 k _ ek _ so3 q1 q1 0 1 0 1 (S5.trans s6) hk f6 (zz ((s4.trans (s5.trans s6)) _ _ f3)) (zz ((s4.trans (s5.trans s6)) _ _ f3))
        · exact rd6 H5 k _ ek _ so2 q1 q2 0 1 1 1 S5 hk f5 (zz ((s4.trans s5) _ _ f3)) (oo (s5 _ _ f4))
      · refine ⟨_, rfl, pn, _, _, _, rfl, rfl, st0, a0, _, _, rfl, rfl, dv16, _, _, rfl, rfl, (by show (0 : Int) < 4; decide), rfl, _, rfl, ite3 (fun c2 => ?_) (fun c2 => ?_)⟩
        · refine ⟨_, rfl, so, _, _, _, rfl, rfl, SqL.of f2, rfl, _, rfl, so, _, _, _, rfl, rfl, SqL.of f2, rfl, sz (by simp), fun so3 H6 s6 f6 _ => ?_⟩
          exact rd6 H6 k _ ek _ so3 p1 p1 t1 b1 t1 b1 (s2.trans s6) hk f6 (P1.mono s6) (P1.mono s6)
        · exact rd6 H2 k _ ek _ so p1 p2 t1 b1 t2 b2 s2 hk f2 P1 P2
theorem S_law : FnScope ["script", "cell", "numbers", "one", "other", "x", "low", "high", "odd"] ["script"] (defScope (top 44)) := ⟨rfl, rfl, rfl, by decide +kernel, rfl, by decide +kernel, by decide +kernel⟩
theorem fn_law (D_law : Df K mg "law" (top 44)) (F_law_numbers : Fn P w K mg base "_law_numbers" ["cell", "many", "base"] 2 spNumbers) (F_law_line : Fn P w K mg base "_law_line" ["numbers", "sizes"] 1 spLine) (F_law_place : Fn P w K mg base "_law_place" ["line", "way", "number"] 2 spPlaceL) (F_law_part : Fn P w K mg base "_law_part" ["line", "numbers"] 3 (spPart K)) (F_law_right : Fn P w K mg base "_law_right" ["one", "x", "other", "low", "high", "numbers"] 7 (spRgt K)) (F_law_refused : Fn P w K mg base "_law_refused" ["one", "x", "other", "low", "high"] 7 spLRf) (T : Txt mg) : Fn P w K mg base "law" ["script"] 8 (spLaw K) := by
  refine D_law.fn S_law (fun _ _ _ _ _ _ us hl => match us, hl with | [_], _ => rfl) (fun vs H Q E h => ?_) (fun f cdv A outer s H vs Q E hr h => ?_)
  · obtain ⟨sa, ss, rfl, _⟩ := h
    rfl
  · obtain ⟨sa, ss, rfl, hS, hlen, fin⟩ := h
    refine ⟨_, (pss_cons (ps_for PassesOwn.never rfl (pi_list (pe_op op_catA (pe_slice sl_listA (pv 0) po_none (po_some pe_int)) (pe_lstA (pa_cons (pe_callB call_len_seq (by rfl) T.z_len bt_len (pa_cons (pv 0) pa_nil)) pa_nil)))) (pg_name (i := 1) S_law.nd rfl (Or.inl rfl)) (pss_cons (ps_set (i := 2) S_law.nd rfl (Or.inl rfl) (pe_fn F_law_numbers (hr.mono (by decide)) (by rfl) (pa_cons (pv 1) (pa_cons pe_int (pa_cons (pe_op op_pow pe_int pe_int) pa_nil))))) (pss_cons (ps_set (i := 3) S_law.nd rfl (Or.inl rfl) (pe_fn F_law_line (hr.mono (by decide)) (by rfl) (pa_cons (pe_slice sl_listA (pv 2) (po_some pe_int) (po_some pe_int)) (pa_cons pe_int pa_nil)))) (pss_cons (ps_set (i := 4) S_law.nd rfl (Or.inl rfl) (pe_fn F_law_line (hr.mono (by decide)) (by rfl) (pa_cons (pe_slice sl_listA (pv 2) (po_some pe_int) po_none) (pa_cons pe_int pa_nil)))) (pss_cons (ps_set (i := 5) S_law.nd rfl (Or.inl rfl) (pe_fn F_law_place (hr.mono (by decide)) (by rfl) (pa_cons (pv 3) (pa_cons (pe_ix ix_list (pv 2) pe_int (fun _ _ => rfl)) (pa_cons (pe_ix ix_list (pv 2) pe_int (fun _ _ => rfl)) pa_nil))))) (pss_cons (ps_asg (pe_fn F_law_part (hr.mono (by decide)) (by rfl) (pa_cons (pv 4) (pa_cons (pe_slice sl_listA (pv 2) (po_some pe_int) (po_some pe_int)) pa_nil))) (pg_lst rfl (pgs_cons (pg_name (i := 6) S_law.nd rfl (Or.inl rfl)) (pgs_cons (pg_name (i := 7) S_law.nd rfl (Or.inl rfl)) pgs_nil)))) (pss_cons (ps_if (pt_not (pt_val (pe_fn F_law_right (hr.mono (by decide)) (by rfl) (pa_cons (pv 3) (pa_cons (pv 5) (pa_cons (pv 4) (pa_cons (pv 6) (pa_cons (pv 7) (pa_cons (pe_slice sl_listA (pv 2) (po_some pe_int) (po_some pe_int)) pa_nil))))))))) (pss_one (ps_ret pe_bl)) pss_nil) (pss_cons (ps_set (i := 8) S_law.nd rfl (Or.inl rfl) (pe_ix ix_list (pe_lstA (pa_cons pe_non (pa_cons (pe_tupA (pa_cons pe_int (pa_cons pe_int pa_nil))) (pa_cons (pe_lstA (pa_cons pe_int (pa_cons pe_int pa_nil))) (pa_cons (pe_tupA (pa_cons (pe_un un_neg pe_int) (pa_cons pe_int pa_nil))) (pa_cons (pe_tupA (pa_cons pe_int (pa_cons pe_int pa_nil))) (pa_cons pe_int pa_nil))))))) (pe_op op_mod (pe_ix ix_list (pv 2) pe_int (fun _ _ => rfl)) pe_int) (fun _ _ => rfl))) (pss_cons (ps_if (pw_or (pt_not (pt_val (pe_fn F_law_refused (hr.mono (by decide)) (by rfl) (pa_cons (pv 3) (pa_cons (pv 8) (pa_cons (pv 4) (pa_cons (pv 6) (pa_cons (pv 7) pa_nil)))))))) (pw_or1 (pt_not (pt_val (pe_fn F_law_refused (hr.mono (by decide)) (by rfl) (pa_cons (pv 3) (pa_cons (pv 5) (pa_cons (pv 4) (pa_cons (pv 8) (pa_cons (pv 7) pa_nil)))))))))).pt (pss_one (ps_ret pe_bl)) pss_nil) (pss_one (ps_if (pt_not (pt_val (pe_fn F_law_refused (hr.mono (by decide)) (by rfl) (pa_cons (pv 3) (pa_cons (pv 5) (pa_cons (pv 4) (pa_cons (pv 6) (pa_cons (pv 8) pa_nil)))))))) (pss_one (ps_ret pe_bl)) pss_nil))))))))))) (pss_one (ps_ret pe_bl))), ?_⟩
    refine ⟨_, rfl, _, rfl, sa, _, rfl, hS, fun p0 H0 s0 f0 _ => ?_⟩
    refine ⟨_, rfl, sa, _, rfl, .inl (s0.seq hS), sz (by simp), fun p1 H1 s1 f1 _ => ?_⟩
    have lcut := cutV_length (ss.map V.int) none (some 6)
    rw [List.length_map] at lcut
    refine ⟨p0, p1, _, _, rfl, rfl, s1 _ _ f0, f1, sz (by show _ + 1 ≤ 1000; omega), fun p2 H2 s2 f2 _ => ?_⟩
    refine ⟨p2, rfl, ⟨_, SqL.of f2⟩, for_list (K := K) (a := p2) (xs := cutV (ss.map V.int) none (some 6) ++ [.int (((ss.map V.int).length : Nat) : Int)]) (fun _ σ H3 => ∃ z1 z2 z3 z4 z5 z6 z7 z8, σ = [some (.ref sa), z1, z2, z3, z4, z5, z6, z7, z8] ∧ Same H2 H3)
      ⟨_, _, _, _, _, _, _, _, rfl, Same.refl _⟩ (fun i σ H3 _ ⟨_, _, _, _, _, _, _, _, _, sm⟩ => SqL.of (sm _ _ f2)) ?_ ?_⟩
    · rintro i o σ H3 hi ⟨z1, z2, z3, z4, z5, z6, z7, z8, rfl, sm⟩
      obtain ⟨c, rfl⟩ := cells_int hi
      have eb : ((10 : Int) ^ (20 : Int).toNat) = 100000000000000000000 := by decide +kernel
      have bb : bits ((10 : Int) ^ (20 : Int).toNat) ≤ 300 := by rw [eb]; decide +kernel
      refine ⟨_, rfl, _, _, rfl, rfl, ⟨by decide, by decide, by decide⟩, c, 60, _, rfl, by decide, ⟨by rw [eb]; decide, bits_le bb (by decide)⟩, fun pn ns H4 hn hns s4 f4 => ?_⟩
      have nn : ∀ n ∈ ns, 0 ≤ n := fun n h => (hns n h).1
      -- one
      refine ⟨_, rfl, _, rfl, _, rfl, pn, _, rfl, SqL.of f4, fun p5 H5 s5 f5 _ => ?_⟩
      rw [show cutV (ns.map V.int) (some 12) (some 36) = _ from cutm (i := 12) (j := 36) (by omega) (by decide)] at f5
      refine ⟨p5, _, 10, rfl, f5, by decide, by decide, by rw [List.length_take, List.length_drop]; omega, fun l qs H6 L hq1 hq10 s6 => ?_⟩
      have f6 := (s5.trans s6) _ _ f4
      -- other
      refine ⟨_, rfl, _, rfl, pn, _, rfl, SqL.of f6, fun p7 H7 s7 f7 _ => ?_⟩
      rw [show cutV (ns.map V.int) (some 36) none = (ns.drop 36).map V.int from cut_from 36] at f7
      refine ⟨p7, ns.drop 36, 10, rfl, f7, by decide, by decide, by rw [List.length_drop]; omega, fun l' qs' H8 L' hq1' hq10' s8 => ?_⟩
      have f8 := (s7.trans s8) _ _ f6
      have L8 := L.mono (s7.trans s8)
      have hll : (qs.map fun (q : Addr × Int × Int) => V.ref q.1).length = qs.length := List.length_map _
      have g1 : 1 ≤ qs.length ∧ qs.length ≤ 20 := ⟨hq1, by omega⟩
      have g1' : 1 ≤ qs'.length ∧ qs'.length ≤ 20 := ⟨hq1', by omega⟩
      -- x
      refine ⟨_, rfl, _, rfl, pn, _, _, _, rfl, rfl, SqL.of f8, at_int 0 rfl (by omega), _, rfl, pn, _, _, _, rfl, rfl, SqL.of f8, at_int 1 rfl (by omega), l, _, _, _, rfl, L8.lst, by omega, by omega, nn _ (List.getElem_mem _), fun px t b H9 lw t0 t1 bt btb s9 f9 => ?_⟩
      rw [hll] at t1
      have X9 : Plc H9 px t b (lst_ qs) := ⟨f9, lw, t0, t1, bits_le bt (by decide), bits_le btb (by decide)⟩
      have n9 := s9 _ _ f8
      -- low, high
      refine ⟨_, rfl, _, rfl, _, rfl, _, rfl, pn, _, rfl, SqL.of n9, fun p10 H10 s10 f10 _ => ?_⟩
      rw [show cutV (ns.map V.int) (some 2) (some 7) = _ from cutm (i := 2) (j := 7) (by omega) (by decide)] at f10
      refine ⟨l', p10, qs', _, rfl, L'.mono (s9.trans s10), ⟨hq1', hq10'⟩, f10, by rw [List.length_take, List.length_drop]; omega, fun n h => nn n (List.mem_of_mem_drop (List.mem_of_mem_take h)), fun rr pl ph l1 l2 h1 h2 H11 s11 f11 P1 b2 P2 b4 ins hle => ?_⟩
      refine ⟨rr, _, rfl, SqL.of f11, rfl, _, _, rfl, _, _, rfl, rfl, ?_⟩
      have S11 : Same H9 H11 := s10.trans s11
      have n11 := S11 _ _ n9
      have L11 := L8.mono (s9.trans S11)
      have L11' := L'.mono (s9.trans S11)
      have X11 := X9.mono S11
      -- right
      refine ⟨_, rfl, _, rfl, _, rfl, _, rfl, _, rfl, _, rfl, _, rfl, _, rfl, pn, _, rfl, SqL.of n11, fun p12 H12 s12 f12 _ => ?_⟩
      rw [show cutV (ns.map V.int) (some 7) (some 11) = _ from cutm (i := 7) (j := 11) (by omega) (by decide)] at f12
      refine ⟨l, px, l', pl, ph, p12, qs, qs', t, b, l1, l2, h1, h2, _, rfl, L11.mono s12, L11'.mono s12, g1, g1', X11.mono s12, btb, P1.mono s12, b2, P2.mono s12, b4, ins, hle, f12, by rw [List.length_take]; omega, fun H13 s13 => ⟨_, rfl, iteF ?_⟩⟩
      have S13 := s12.trans s13
      have n13 := S13 _ _ n11
      -- odd
      refine ⟨sz (by simp), fun o1 H16 s16 f16 _ => ⟨sz (by simp), fun o2 H17 s17 f17 _ => ⟨_, rfl, sz (by simp), fun o3 H18 s18 f18 _ => ⟨sz (by simp), fun o4 H19 s19 f19 _ => ⟨sz (by simp), fun o5 H20 s20 f20 _ => ?_⟩⟩⟩⟩⟩
      have S20 : Same H13 H20 := s16.trans (s17.trans (s18.trans (s19.trans s20)))
      have n20 := S20 _ _ n13
      have q0 := Int.emod_nonneg ns[11] (show (6 : Int) ≠ 0 by decide)
      have q1 := Int.emod_lt_of_pos ns[11] (show (0 : Int) < 6 by decide)
      obtain ⟨ov, hov, mov⟩ := atI_mem (xs := [V.non, .ref o1, .ref o2, .ref o3, .ref o4, .int 0]) q0 q1
      refine ⟨_, rfl, pn, _, _, _, rfl, rfl, SqL.of n20, at_int 11 rfl (by omega), _, _, rfl, rfl, (by show (0 : Int) < 6; decide), o5, _, _, ov, rfl, rfl, SqL.of f20, hov, ?_⟩
      have fo1 := (s17.trans (s18.trans (s19.trans s20))) _ _ f16
      have fo2 := (s18.trans (s19.trans s20)) _ _ f17
      have fo3 := (s19.trans s20) _ _ f18
      have fo4 := s20 _ _ f19
      have two : ∀ (H' : Hp) (r : Addr) (x y : Int), H' r = some (.tup [.int x, .int y]) → Thing H' (.ref r) := fun H' r x y e => th_tup e fun v hv => by
        simp only [List.mem_cons, List.not_mem_nil, or_false] at hv
        rcases hv with rfl | rfl <;> exact ⟨_, .int _⟩
      have hov2 : Thing H20 ov ∧ ∀ N : Int, N < 10 → placeV N H20 ov = false := by
        simp only [List.mem_cons, List.not_mem_nil, or_false] at mov
        rcases mov with rfl | rfl | rfl | rfl | rfl | rfl
        · exact ⟨th_flat .non (fun p e => nomatch e), fun _ _ => rfl⟩
        · refine ⟨two _ _ _ _ fo1, fun N hN => ?_⟩
          have z : ¬ ((21 : Int) ≤ N * 2) := by omega
          rw [placeV_tup fo1, decide_eq_false z, Bool.and_false, Bool.and_false]
        · exact ⟨th_lst fo2, fun _ _ => by simp only [placeV, fo2]⟩
        · refine ⟨two _ _ _ _ fo3, fun N hN => ?_⟩
          rw [placeV_tup fo3, decide_eq_false (by decide : ¬ (0 : Int) ≤ -1), Bool.false_and, Bool.and_false]
        · refine ⟨two _ _ _ _ fo4, fun N hN => ?_⟩
          rw [placeV_tup fo4, show lowB 0 2 = false by decide, Bool.false_and]
        · exact ⟨th_flat (.int _) (fun p e => nomatch e), fun _ _ => rfl⟩
      have no : placeV (lst_ qs) H20 ov = false ∧ placeV (lst_ qs') H20 ov = false := ⟨hov2.2 _ (by unfold lst_; omega), hov2.2 _ (by unfold lst_; omega)⟩
      have S0 := S13.trans S20
      have L20 := L11.mono S0
      have L20' := L11'.mono S0
      have X20 := X11.mono S0
      have P20 := P1.mono S0
      have P20' := P2.mono S0
      obtain ⟨kd, kn⟩ := hov2.1.kn
      refine ⟨_, rfl, _, rfl, _, rfl, _, rfl, _, rfl, l, l', qs, qs', ov, .ref pl, .ref ph, rfl, L20, L20', g1, g1', hov2.1, P20.th, P20'.th, .inl no.1, fun H21 s21 => ⟨_, rfl, iteF ?_⟩⟩
      refine ⟨_, rfl, _, rfl, _, rfl, _, rfl, _, rfl, l, l', qs, qs', .ref px, ov, .ref ph, rfl, L20.mono s21, L20'.mono s21, g1, g1', (X20.mono s21).th, Thing.mono hov2.1 s21, (P20'.mono s21).th, .inr ⟨px, t, b, rfl, X20.mono s21, .inl (by rw [placeV_same kn s21]; exact no.2)⟩, fun H22 s22 => ⟨_, rfl, iteF ?_⟩⟩
      have S22 := s21.trans s22
      refine ⟨_, rfl, _, rfl, _, rfl, _, rfl, _, rfl, l, l', qs, qs', .ref px, .ref pl, ov, rfl, L20.mono S22, L20'.mono S22, g1, g1', (X20.mono S22).th, (P20.mono S22).th, Thing.mono hov2.1 S22, .inr ⟨px, t, b, rfl, X20.mono S22, .inr ⟨pl, l1, l2, rfl, P20.mono S22, by rw [placeV_same kn S22]; exact no.2⟩⟩, fun H23 s23 => ⟨_, rfl, iteF ?_⟩⟩
      exact ⟨_, _, _, _, _, _, _, _, rfl, sm.trans (s4.trans (s5.trans (s6.trans (s7.trans (s8.trans (s9.trans (S11.trans (S0.trans (S22.trans s23)))))))))⟩
    · rintro σ H3 ⟨z1, z2, z3, z4, z5, z6, z7, z8, rfl, sm⟩
      exact fin H3
end
/-! ### the whole -/
def hNames : List (Str × Nat) := [(Str.ofString "is_whole", 5), (Str.ofString "common_divisor", 6), (Str.ofString "plus", 8), (Str.ofString "minus", 9), (Str.ofString "times", 10), (Str.ofString "over", 11), (Str.ofString "less", 12), (Str.ofString "floor_of", 13), (Str.ofString "is_ratio", 14), (Str.ofString "last_of", 16), (Str.ofString "is_place", 18), (Str.ofString "look_at_place", 19), (Str.ofString "number_at", 20), (Str.ofString "point_at", 21), (Str.ofString "step_from", 22), (Str.ofString "inner_product", 23), (Str.ofString "square_between", 24), (Str.ofString "nearest_part", 25), (Str.ofString "least_along", 26), (Str.ofString "_law_mixed", 28), (Str.ofString "_law_numbers", 29), (Str.ofString "_law_whole", 30), (Str.ofString "_law_common", 31), (Str.ofString "_law_lowest", 32), (Str.ofString "_law_line", 33), (Str.ofString "_law_place", 34), (Str.ofString "_law_point", 35), (Str.ofString "_law_square", 36), (Str.ofString "_law_same", 37), (Str.ofString "_law_part", 38), (Str.ofString "_law_amid", 39), (Str.ofString "_law_before", 40), (Str.ofString "_law_lowest_place", 41), (Str.ofString "_law_refused", 42), (Str.ofString "_law_right", 43), (Str.ofString "law", 44)]
def hNamesD : List (Str × Nat × List V) := [(Str.ofString "ratio", 7, [.int 1])]
def hExc : List Str := [Str.ofString "NoPlace", Str.ofString "NoRatio"]
def hNo : List Str := [Str.ofString "abs", Str.ofString "bool", Str.ofString "int", Str.ofString "isinstance", Str.ofString "len", Str.ofString "max", Str.ofString "min", Str.ofString "range", Str.ofString "tuple"]
def hTup : List (Str × List V) := []
def hFacts (K : PySem.W.Frag) : List (Option (Arguments × List Stmt × Scope × Value)) × List (Option (Arguments × List Stmt × Scope × List V)) × Bool × Bool × List (Option (List V)) := (hNames.map (fun p => Hd.fnFact K p.1), hNamesD.map (fun p => Hd.fnFactD K p.1), hExc.all (Hd.excFact K), hNo.all (Hd.noFact K), hTup.map (fun p => Hd.tupFact K p.1))
def hGood : List (Option (Arguments × List Stmt × Scope × Value)) × List (Option (Arguments × List Stmt × Scope × List V)) × Bool × Bool × List (Option (List V)) := (hNames.map (fun p => some (defArgs (top p.2), defBody (top p.2), defScope (top p.2), .none)), hNamesD.map (fun p => some (defArgs (top p.2.1), defBody (top p.2.1), defScope (top p.2.1), p.2.2)), true, true, hTup.map (fun p => some p.2))
def hView : Program := PySem.W.view PySem.Challenge.pw_oneleash_k11_whole_least_along [44]
def hLoose : List Str := [Str.ofString "LeashError", Str.ofString "NoRatio", Str.ofString "NoPlace", Str.ofString "is_whole", Str.ofString "common_divisor", Str.ofString "ratio", Str.ofString "plus", Str.ofString "minus", Str.ofString "times", Str.ofString "over", Str.ofString "less", Str.ofString "floor_of", Str.ofString "is_ratio", Str.ofString "last_of", Str.ofString "is_place", Str.ofString "look_at_place", Str.ofString "number_at", Str.ofString "point_at", Str.ofString "step_from", Str.ofString "inner_product", Str.ofString "square_between", Str.ofString "nearest_part", Str.ofString "least_along", Str.ofString "_law_mixed", Str.ofString "_law_numbers", Str.ofString "_law_whole", Str.ofString "_law_common", Str.ofString "_law_lowest", Str.ofString "_law_line", Str.ofString "_law_place", Str.ofString "_law_point", Str.ofString "_law_square", Str.ofString "_law_same", Str.ofString "_law_part", Str.ofString "_law_amid", Str.ofString "_law_before", Str.ofString "_law_lowest_place", Str.ofString "_law_refused", Str.ofString "_law_right"]
noncomputable def hRun (w : World) := (PySem.W.openEnds treeTable PySem.Challenge.pw_oneleash_k11_whole_least_along w 100000).map (fun s => (PySem.W.openSeen hView hLoose (importedModules PySem.Challenge.pw_oneleash_k11_whole_least_along.main.body) (fun _ => true) true s, hFacts (Hd.frag s.heap)))
noncomputable def hEnd := some (PySem.W.openGood hView hLoose, hGood)
theorem hRun_self : @hRun = @hRun := rfl
theorem hEnd_self : @hEnd = @hEnd := rfl
set_option maxHeartbeats 0 in
lay_quick K11.hRun K11.hEnd
name_quick hRunQ for K11.hRun by K11.hRun_self
name_quick hEndQ for K11.hEnd by K11.hEnd_self
set_option maxHeartbeats 0 in
theorem hQuick (w : World) : PySem.W.Fast.hRunQ w = PySem.W.Fast.hEndQ := by kernel_rfl
theorem hLeft : PySem.W.LeftO PySem.Challenge.rw_oneleash_k11_whole_least_along.prog hView hLoose (fun _ => true) (PySem.W.Hook.obs (Hd.hook hFacts hGood)) (PySem.W.Hook.val (Hd.hook hFacts hGood)) 100000 := fun w => (congrFun PySem.W.Fast.hRunQ_eq w).trans ((hQuick w).trans PySem.W.Fast.hEndQ_eq.symm)
theorem all_of {P : Program} {w : World} {K : PySem.W.Frag} (FK : hFacts K = hGood) {h : Heap} {mg : Str → Option Value} {fa : Addr} (X : K.In h) (G : h.Ns mainGlobals mg) (hfa : mg "law" = some (.ref fa)) :
    ∃ fd : FuncData, (∀ (s : Shared) (v : Value), BindsTo s fd ⟨[v], []⟩ [("script", v)]) ∧ ∀ base : Heap, K.In base → base.Ns mainGlobals mg → FnOk P w K mg base CX0 8 fa fd ["script"] (spLaw K) := by
  have H0 : (hNames.map (fun p => Hd.fnFact K p.1) : List (Option (Arguments × List Stmt × Scope × Value))) = hNames.map (fun p => some (defArgs (top p.2), defBody (top p.2), defScope (top p.2), .none)) := (congrArg Prod.fst FK)
  have H1 : (hNamesD.map (fun p => Hd.fnFactD K p.1) : List (Option (Arguments × List Stmt × Scope × List V))) = hNamesD.map (fun p => some (defArgs (top p.2.1), defBody (top p.2.1), defScope (top p.2.1), p.2.2)) := (congrArg Prod.fst (congrArg Prod.snd FK))
  have H2 : (hExc.all (Hd.excFact K) : Bool) = true := (congrArg Prod.fst (congrArg Prod.snd (congrArg Prod.snd FK)))
  have H3 : (hNo.all (Hd.noFact K) : Bool) = true := (congrArg Prod.fst (congrArg Prod.snd (congrArg Prod.snd (congrArg Prod.snd FK))))
  have H4 : (hTup.map (fun p => Hd.tupFact K p.1) : List (Option (List V))) = hTup.map (fun p => some p.2) := (congrArg Prod.snd (congrArg Prod.snd (congrArg Prod.snd (congrArg Prod.snd FK))))
  have D_is_whole : Df K mg "is_whole" (top 5) := Hd.df_of X G (Hd.at_map H0 0 rfl)
  have D_common_divisor : Df K mg "common_divisor" (top 6) := Hd.df_of X G (Hd.at_map H0 1 rfl)
  have D_plus : Df K mg "plus" (top 8) := Hd.df_of X G (Hd.at_map H0 2 rfl)
  have D_minus : Df K mg "minus" (top 9) := Hd.df_of X G (Hd.at_map H0 3 rfl)
  have D_times : Df K mg "times" (top 10) := Hd.df_of X G (Hd.at_map H0 4 rfl)
  have D_over : Df K mg "over" (top 11) := Hd.df_of X G (Hd.at_map H0 5 rfl)
  have D_less : Df K mg "less" (top 12) := Hd.df_of X G (Hd.at_map H0 6 rfl)
  have D_floor_of : Df K mg "floor_of" (top 13) := Hd.df_of X G (Hd.at_map H0 7 rfl)
  have D_is_ratio : Df K mg "is_ratio" (top 14) := Hd.df_of X G (Hd.at_map H0 8 rfl)
  have D_last_of : Df K mg "last_of" (top 16) := Hd.df_of X G (Hd.at_map H0 9 rfl)
  have D_is_place : Df K mg "is_place" (top 18) := Hd.df_of X G (Hd.at_map H0 10 rfl)
  have D_look_at_place : Df K mg "look_at_place" (top 19) := Hd.df_of X G (Hd.at_map H0 11 rfl)
  have D_number_at : Df K mg "number_at" (top 20) := Hd.df_of X G (Hd.at_map H0 12 rfl)
  have D_point_at : Df K mg "point_at" (top 21) := Hd.df_of X G (Hd.at_map H0 13 rfl)
  have D_step_from : Df K mg "step_from" (top 22) := Hd.df_of X G (Hd.at_map H0 14 rfl)
  have D_inner_product : Df K mg "inner_product" (top 23) := Hd.df_of X G (Hd.at_map H0 15 rfl)
  have D_square_between : Df K mg "square_between" (top 24) := Hd.df_of X G (Hd.at_map H0 16 rfl)
  have D_nearest_part : Df K mg "nearest_part" (top 25) := Hd.df_of X G (Hd.at_map H0 17 rfl)
  have D_least_along : Df K mg "least_along" (top 26) := Hd.df_of X G (Hd.at_map H0 18 rfl)
  have D_law_mixed : Df K mg "_law_mixed" (top 28) := Hd.df_of X G (Hd.at_map H0 19 rfl)
  have D_law_numbers : Df K mg "_law_numbers" (top 29) := Hd.df_of X G (Hd.at_map H0 20 rfl)
  have D_law_whole : Df K mg "_law_whole" (top 30) := Hd.df_of X G (Hd.at_map H0 21 rfl)
  have D_law_common : Df K mg "_law_common" (top 31) := Hd.df_of X G (Hd.at_map H0 22 rfl)
  have D_law_lowest : Df K mg "_law_lowest" (top 32) := Hd.df_of X G (Hd.at_map H0 23 rfl)
  have D_law_line : Df K mg "_law_line" (top 33) := Hd.df_of X G (Hd.at_map H0 24 rfl)
  have D_law_place : Df K mg "_law_place" (top 34) := Hd.df_of X G (Hd.at_map H0 25 rfl)
  have D_law_point : Df K mg "_law_point" (top 35) := Hd.df_of X G (Hd.at_map H0 26 rfl)
  have D_law_square : Df K mg "_law_square" (top 36) := Hd.df_of X G (Hd.at_map H0 27 rfl)
  have D_law_same : Df K mg "_law_same" (top 37) := Hd.df_of X G (Hd.at_map H0 28 rfl)
  have D_law_part : Df K mg "_law_part" (top 38) := Hd.df_of X G (Hd.at_map H0 29 rfl)
  have D_law_amid : Df K mg "_law_amid" (top 39) := Hd.df_of X G (Hd.at_map H0 30 rfl)
  have D_law_before : Df K mg "_law_before" (top 40) := Hd.df_of X G (Hd.at_map H0 31 rfl)
  have D_law_lowest_place : Df K mg "_law_lowest_place" (top 41) := Hd.df_of X G (Hd.at_map H0 32 rfl)
  have D_law_refused : Df K mg "_law_refused" (top 42) := Hd.df_of X G (Hd.at_map H0 33 rfl)
  have D_law_right : Df K mg "_law_right" (top 43) := Hd.df_of X G (Hd.at_map H0 34 rfl)
  have D_law : Df K mg "law" (top 44) := Hd.df_of X G (Hd.at_map H0 35 rfl)
  have D_ratio : DfD K mg "ratio" (top 7) [.int 1] := Hd.dfd_of X G (Hd.at_map H1 0 rfl)
  have O_NoPlace : ExcC K mg "NoPlace" (Hd.cls K "NoPlace") := Hd.exc_of X G (Hd.at_all H2 0 rfl)
  have O_NoRatio : ExcC K mg "NoRatio" (Hd.cls K "NoRatio") := Hd.exc_of X G (Hd.at_all H2 1 rfl)
  have T : Txt mg := ⟨PySem.W.mg_none_of X G (Hd.no_of (Hd.at_all H3 0 rfl)), PySem.W.mg_none_of X G (Hd.no_of (Hd.at_all H3 1 rfl)), PySem.W.mg_none_of X G (Hd.no_of (Hd.at_all H3 2 rfl)), PySem.W.mg_none_of X G (Hd.no_of (Hd.at_all H3 3 rfl)), PySem.W.mg_none_of X G (Hd.no_of (Hd.at_all H3 4 rfl)), PySem.W.mg_none_of X G (Hd.no_of (Hd.at_all H3 5 rfl)), PySem.W.mg_none_of X G (Hd.no_of (Hd.at_all H3 6 rfl)), PySem.W.mg_none_of X G (Hd.no_of (Hd.at_all H3 7 rfl)), PySem.W.mg_none_of X G (Hd.no_of (Hd.at_all H3 8 rfl))⟩
  refine law_fd h hfa fun base => ?_
  have F_is_whole := fn_is_whole (P := P) (w := w) (base := base) D_is_whole T
  have F_common_divisor := fn_common_divisor (P := P) (w := w) (base := base) D_common_divisor T
  have F_ratio := fn_ratio (P := P) (w := w) (base := base) D_ratio O_NoRatio F_is_whole F_common_divisor
  have F_floor_of := fn_floor_of (P := P) (w := w) (base := base) D_floor_of
  have F_is_ratio := fn_is_ratio (P := P) (w := w) (base := base) D_is_ratio F_is_whole F_common_divisor T
  have F_last_of := fn_last_of (P := P) (w := w) (base := base) D_last_of T
  have F_is_place := fn_is_place (P := P) (w := w) (base := base) D_is_place F_is_ratio F_last_of
  have F_look_at_place := fn_look_at_place (P := P) (w := w) (base := base) D_look_at_place O_NoPlace F_is_place
  have F_plus := fn_plus (P := P) (w := w) (base := base) D_plus F_ratio
  have F_minus := fn_minus (P := P) (w := w) (base := base) D_minus F_ratio
  have F_times := fn_times (P := P) (w := w) (base := base) D_times F_ratio
  have F_over := fn_over (P := P) (w := w) (base := base) D_over F_ratio
  have F_less := fn_less (P := P) (w := w) (base := base) D_less
  have F_law_common := fn_law_common (P := P) (w := w) (base := base) D_law_common
  have F_law_mixed := fn_law_mixed (P := P) (w := w) (base := base) D_law_mixed
  have F_law_numbers := fn_law_numbers (P := P) (w := w) (base := base) D_law_numbers F_law_mixed T
  have F_law_line := fn_law_line (P := P) (w := w) (base := base) D_law_line T
  have F_law_place := fn_law_place (P := P) (w := w) (base := base) D_law_place F_law_common T
  have F_number_at := fn_number_at (P := P) (w := w) (base := base) D_number_at F_ratio
  have F_point_at := fn_point_at (P := P) (w := w) (base := base) D_point_at F_look_at_place F_floor_of F_last_of F_number_at T
  have F_step_from := fn_step_from (P := P) (w := w) (base := base) D_step_from F_minus
  have F_inner_product := fn_inner_product (P := P) (w := w) (base := base) D_inner_product F_plus F_times
  have F_square_between := fn_square_between (P := P) (w := w) (base := base) D_square_between F_step_from F_inner_product
  have F_law_whole := fn_law_whole (P := P) (w := w) (base := base) D_law_whole T
  have F_law_lowest := fn_law_lowest (P := P) (w := w) (base := base) D_law_lowest F_law_whole F_law_common T
  have F_law_point := fn_law_point (P := P) (w := w) (base := base) D_law_point T
  have F_law_square := fn_law_square (P := P) (w := w) (base := base) D_law_square F_law_point
  have F_law_same := fn_law_same (P := P) (w := w) (base := base) D_law_same
  have F_law_before := fn_law_before (P := P) (w := w) (base := base) D_law_before
  have F_nearest_part := fn_nearest_part (P := P) (w := w) (base := base) D_nearest_part F_step_from F_inner_product F_over F_less
  have F_least_along := fn_least_along (P := P) (w := w) (base := base) D_least_along F_point_at F_nearest_part F_plus F_times F_minus F_square_between
  have F_law_refused := fn_law_refused (P := P) (w := w) (base := base) D_law_refused O_NoPlace F_least_along
  have F_law_amid := fn_law_amid (P := P) (w := w) (base := base) D_law_amid F_law_common
  have F_law_lowest_place := fn_law_lowest_place (P := P) (w := w) (base := base) D_law_lowest_place F_law_point F_law_before T
  have F_law_right := fn_law_right (P := P) (w := w) (base := base) D_law_right F_least_along F_law_lowest F_law_same F_law_lowest_place F_law_square F_law_amid F_law_before T
  have F_law_part := fn_law_part (P := P) (w := w) (base := base) D_law_part F_law_place T
  exact fn_law D_law F_law_numbers F_law_line F_law_place F_law_part F_law_right F_law_refused T
end K11
end
open PySem PySem.W PyProof.Rows
set_option maxRecDepth 100000 in
set_option maxHeartbeats 0 in
theorem PySem.Challenge.cw_oneleash_k11_whole_least_along_holds : PySem.Challenge.rw_oneleash_k11_whole_least_along.Holds := by
  w_on; o_law
  refine holds_open (q := K11.hView) (loose := K11.hLoose) (Xt := fun _ => true) (XP := fun _ _ => True) (Yf := Hook.obs (Hd.hook K11.hFacts K11.hGood)) (Ya := Hook.val (Hd.hook K11.hFacts K11.hGood)) (YP := Hook.says (Hd.hook K11.hFacts K11.hGood)) (N := 100000) K11.hLeft (Hook.of _) (Hook.keeps _) (fun _ _ => trivial) (fun _ _ _ _ _ => trivial) (by rfl) (by rfl) (by rfl) (fun _ _ => recFacts_nil rfl) (by rfl) (by first | assumption | decide +kernel) (by decide +kernel) ⟨rfl, rfl, rfl, rfl, rfl, by decide +kernel⟩ ?hw ?hc
  case hw => w_witness2
  exact Hd.law_walk (l := PySem.Challenge.rw_oneleash_k11_whole_least_along) (k := 8) ⟨rfl, by decide, by decide⟩ rfl rfl fun K FK w mg fa h KX G hmg => K11.all_of FK KX G hmg
