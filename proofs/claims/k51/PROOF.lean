import PyProof.Rows.All
import Wide.All
import OpenK.AllK
import Wide.FinOn
import Lean
import PyProof.EqAt
import PyProof.EqKinds
import PyProof.TupleCall
import PyProof.ExcArgsOwn
import KE.KTryMore
import PyProof.NsDelKeeps
import PyProof.ConsumeWalk
import PyProof.ZipIter
import PyProof.WalksEnum
import PyProof.EnumMake
import PyProof.NeKinds
import PySem.Challenge.RW_oneleash_k51_parts_and_short_cuts
section
set_option Elab.async false
set_option linter.all false
set_option maxRecDepth 100000
/-! THE HAND LAYER, for ints, bools, texts, own classes, LISTS and tuples (index, slices, in, append, pop ..), calls, loops. Paste it whole ahead of your own text; what your proof does not reach may be deleted. -/
namespace L2
open PySem PySem.Spec PyProof.Rows

/-- a key: an int or a str -/
abbrev Key := Sum Int Str
def keyIs : Key → Value → Bool
  | .inl k, v => Value.isInt k v
  | .inr x, v => Value.isStrOf x v
def keyH (w : World) : Key → Int
  | .inl k => hashInt k
  | .inr x => hashStr w x
theorem keyIs_shape : ∀ {k : Key} {v : Value}, keyIs k v = true → (∃ i t, k = Sum.inl i ∧ v = Value.int i t) ∨ (∃ x t, k = Sum.inr x ∧ v = Value.str x t)
  | .inl i, v, h => by
    obtain ⟨t, e⟩ := Value.isInt_shape (k := i) (v := v) h
    exact .inl ⟨i, t, rfl, e⟩
  | .inr x, v, h => by
    obtain ⟨t, e⟩ := Value.isStrOf_shape (x := x) (v := v) h
    exact .inr ⟨x, t, rfl, e⟩
theorem keyIs_int (i : Int) (t : Tok) : keyIs (.inl i) (.int i t) = true := by simp [keyIs, Value.isInt]
theorem keyIs_str (x : Str) (t : Tok) : keyIs (.inr x) (.str x t) = true := by simp [keyIs, Value.isStrOf]
theorem key_ll (a b : Int) : decide ((Sum.inl a : Key) = Sum.inl b) = (a == b) := by
  by_cases e : a = b
  · subst e; simp
  · have h : ¬ (Sum.inl a : Key) = Sum.inl b := fun q => e (Sum.inl.inj q)
    rw [decide_eq_false h]
    exact (beq_eq_false_iff_ne.mpr e).symm
theorem key_rr (a b : Str) : decide ((Sum.inr a : Key) = Sum.inr b) = decide (a = b) := by
  by_cases e : a = b
  · subst e; simp
  · have h : ¬ (Sum.inr a : Key) = Sum.inr b := fun q => e (Sum.inr.inj q)
    rw [decide_eq_false h, decide_eq_false e]
theorem key_lr (a : Int) (b : Str) : decide ((Sum.inl a : Key) = Sum.inr b) = false := decide_eq_false (fun q => nomatch q)
theorem key_rl (a : Str) (b : Int) : decide ((Sum.inr a : Key) = Sum.inl b) = false := decide_eq_false (fun q => nomatch q)

def mixKind (prog : Program) (w : World) : PySem.KeyKind prog w Key where
  is := keyIs
  hash := keyH w
  inj := fun v a b ha hb => by
    rcases keyIs_shape ha with ⟨i, t, rfl, rfl⟩ | ⟨x, t, rfl, rfl⟩
    · rcases keyIs_shape hb with ⟨j, u, rfl, e⟩ | ⟨y, u, rfl, e⟩
      · injection e with e1 _; rw [e1]
      · exact nomatch e
    · rcases keyIs_shape hb with ⟨j, u, rfl, e⟩ | ⟨y, u, rfl, e⟩
      · exact nomatch e
      · injection e with e1 _; rw [e1]
  byValue := fun k v h => by
    rcases keyIs_shape h with ⟨i, t, rfl, rfl⟩ | ⟨x, t, rfl, rfl⟩ <;> rfl
  pyHash := fun hv h => by
    rcases keyIs_shape hv with ⟨i, t, rfl, rfl⟩ | ⟨x, t, rfl, rfl⟩
    · exact wpAny_pyHash_int h
    · exact wpAny_pyHash_str h
  eqBool := fun hu hv h => by
    rcases keyIs_shape hu with ⟨i, t, rfl, rfl⟩ | ⟨x, t, rfl, rfl⟩
    · rcases keyIs_shape hv with ⟨j, u, rfl, rfl⟩ | ⟨y, u, rfl, rfl⟩
      · rw [key_ll] at h; exact wpAny_eqBool_int h
      · rw [key_lr] at h; exact SeqAt.EqAt.int_str i t y u _ _ _ _ h
    · rcases keyIs_shape hv with ⟨j, u, rfl, rfl⟩ | ⟨y, u, rfl, rfl⟩
      · rw [key_rl] at h; exact SeqAt.EqAt.str_int x t j u _ _ _ _ h
      · rw [key_rr] at h; exact wpAny_eqBool_str h
  «strs» := fun k x t v h => by
    rcases keyIs_shape h with ⟨i, u, rfl, e⟩ | ⟨y, u, rfl, e⟩
    · exact nomatch e
    · injection e with e1 _
      subst e1
      cases v <;> rfl

theorem mixKind_is (prog : Program) (w : World) (k : Key) (v : Value) : (mixKind prog w).is k v = keyIs k v := rfl
theorem mixKind_int (prog : Program) (w : World) (i : Int) (t : Tok) : (mixKind prog w).is (.inl i) (.int i t) = true := keyIs_int i t
theorem mixKind_str (prog : Program) (w : World) (x : Str) (t : Tok) : (mixKind prog w).is (.inr x) (.str x t) = true := keyIs_str x t
end L2

namespace L2
open PySem PySem.Spec PyProof.Rows

/-- a value, without the heap -/
inductive V where
  | non | bl (b : Bool) | int (i : Int) | str (x : Str) | byt (b : Array UInt8) | flt (b : UInt64) | ref (a : Addr) | ty (n : String)
  deriving DecidableEq

def RelV : V → Value → Prop
  | .non, u => u = Value.none
  | .bl b, u => u = Value.bool b
  | .int i, u => ∃ t, u = Value.int i t
  | .str x, u => ∃ t, u = Value.str x t
  | .byt b, u => ∃ t, u = Value.bytes b t
  | .flt b, u => ∃ t, u = Value.float b t
  | .ref a, u => u = Value.ref a
  | .ty n, u => u = Value.type n

abbrev Vals : List V → List Value → Prop := Paired RelV
theorem Vals.length {xs : List V} {us : List Value} (r : Vals xs us) : xs.length = us.length := Paired.length r
theorem Vals.get : ∀ {xs : List V} {us : List Value} {i : Nat} {x : V}, Vals xs us → xs[i]? = some x → ∃ u, us[i]? = some u ∧ RelV x u
  | _, _, _, _, .nil, e => by simp at e
  | _, _, 0, _, .cons r _, e => by simp at e; subst e; exact ⟨_, rfl, r⟩
  | _, _, i + 1, x, .cons _ t, e => by
    obtain ⟨u, h1, h2⟩ := Vals.get (i := i) (x := x) t (by simpa using e)
    exact ⟨u, by simpa using h1, h2⟩
theorem Vals.set {x : V} {u : Value} (r : RelV x u) : ∀ {xs : List V} {us : List Value} (i : Nat), Vals xs us → Vals (xs.set i x) (us.set i u)
  | _, _, _, .nil => .nil
  | _, _, 0, .cons _ t => .cons r t
  | _, _, i + 1, .cons q t => .cons q (Vals.set r i t)
theorem Vals.append : ∀ {xs ys : List V} {us ws : List Value}, Vals xs us → Vals ys ws → Vals (xs ++ ys) (us ++ ws)
  | _, _, _, _, .nil, s => s
  | _, _, _, _, .cons r t, s => .cons r (Vals.append t s)
theorem Vals.take : ∀ {xs : List V} {us : List Value} (n : Nat), Vals xs us → Vals (xs.take n) (us.take n)
  | _, _, 0, _ => .nil
  | _, _, _ + 1, .nil => .nil
  | _, _, n + 1, .cons r t => .cons r (Vals.take n t)
theorem Vals.drop : ∀ {xs : List V} {us : List Value} (n : Nat), Vals xs us → Vals (xs.drop n) (us.drop n)
  | _, _, 0, r => r
  | _, _, _ + 1, .nil => .nil
  | _, _, n + 1, .cons _ t => Vals.drop n t
theorem Vals.none_of : ∀ {xs : List V} {us : List Value} {i : Nat}, Vals xs us → xs[i]? = none → us[i]? = none := fun {xs us i} r e => by
  have h1 := r.length
  have h2 : xs.length ≤ i := List.getElem?_eq_none_iff.mp e
  exact List.getElem?_eq_none_iff.mpr (by omega)

def RelO : Option V → Option Value → Prop
  | some v, some u => RelV v u
  | none, none => True
  | _, _ => False
def KV {κ : Type} : List (κ × V) → List (κ × Value) → Prop := Paired fun (p : κ × V) (q : κ × Value) => p.1 = q.1 ∧ RelV p.2 q.2

/-- a key of a dict (00_mix): an int or a text -/
def kV : Key → V
  | .inl i => .int i
  | .inr x => .str x

/-- what stands at a tracked address -/
inductive HO where
  /-- a list -/
  | lst (xs : List V)
  /-- a tuple (never changes) -/
  | tup (xs : List V)
  /-- a dict whose keys are ints and texts; one whose keys are tuples of ints and texts (the empty one is both) -/
  | dK (kvs : List (Key × V)) | dT (kvs : List (List Key × V))
  /-- a set of ints: its members, its size -/
  | set (S : Int → Bool) (n : Nat)
  /-- an instance of the class at C, its dict at dx, its attributes -/
  | ins (C dx : Addr) (fs : List (Str × V))
  /-- the dict of the instance at x -/
  | own (x : Addr)
  /-- the dict of an exception -/
  | xd (fs : List (Str × V))
  /-- a bound method, f of x -/
  | met (f x : Addr)
  /-- a range object lo, lo + 1, .. below hi -/
  | rng (lo hi : Int)
  /-- a thing that is known to the object (the script; a dict while a loop walks it): read, never written while it is so -/
  | frz (o : Obj) (u : HO)
  /-- a code object's table -/
  | tbl (ps : Array Value)
  /-- any other thing, by what is true of its one object (a def of one's own: SetO a S n := HO.ext fun h => ..) -/
  | ext (φ : Heap → Prop)

abbrev Hp := Addr → Option HO
def upd (H : Hp) (a : Addr) (o : HO) : Hp := fun b => if b = a then some o else H b
theorem upd_same {H : Hp} {a : Addr} {o : HO} : upd H a o a = some o := by unfold upd; rw [if_pos rfl]
theorem upd_ne {H : Hp} {a b : Addr} {o : HO} (h : b ≠ a) : upd H a o b = H b := by unfold upd; rw [if_neg h]
theorem upd_upd {H : Hp} {a : Addr} {o u : HO} : upd (upd H a o) a u = upd H a u := by
  funext b; unfold upd; split <;> rfl
/-- two objects of different content stand apart -/
theorem ne_of {H : Hp} {a b : Addr} {o u : HO} (h : H a = some o) (h' : H b = some u) (d : o ≠ u) : a ≠ b := by
  intro e; subst e; rw [h] at h'; exact d (Option.some.inj h')
theorem ne_of_none {H : Hp} {a b : Addr} {o : HO} (h : H a = some o) (h' : H b = none) : a ≠ b := by
  intro e; subst e; rw [h] at h'; cases h'

section
variable (P : Program) (w : World)
def ObjOk (H : Hp) (h : Heap) (a : Addr) : HO → Prop
  | .lst xs => xs.length ≤ sizeLine ∧ ∃ (its : List Value) (n : Nat), Vals xs its ∧ h.get? a = some { cls := .type "list", data := .seq its.toArray n }
  | .tup xs => xs.length ≤ sizeLine ∧ ∃ its : List Value, Vals xs its ∧ IsTup h a its.toArray
  | .dK kvs => kvs.length ≤ sizeLine ∧ (a == sysModules) = false ∧ ∃ vs, KV kvs vs ∧ h.DictOf (mixKind P w) a vs
  | .dT kvs => kvs.length ≤ sizeLine ∧ (a == sysModules) = false ∧ ∃ xs : List (List Key × Addr × Value),
      Paired (fun (p : List Key × V) (q : List Key × Addr × Value) => p.1 = q.1 ∧ H q.2.1 = some (.tup (p.1.map kV)) ∧ RelV p.2 q.2.2) kvs xs ∧
      ∃ o es ep, h.get? a = some o ∧ o.ExactDict ∧ o.data = .dict es ep ∧ es.toList = xs.map (entryOfKey (tupleKind (mixKind P w))) ∧ (xs.map (·.1)).Nodup
  | .set S n => h.SetOf (intKind P w) a S n
  | .ins C dx fs => H dx = some (.own a) ∧ fs.length ≤ 1000 ∧ dx ≠ a ∧ h.get? a = some (PySem.W.instObj C dx) ∧
      ∃ mA, h.Ns1 dx mA ∧ (∀ f, RelO (fs.lookup f) (mA f)) ∧ PySem.Within mA (fs.map (·.1))
  | .own _ => ∃ o, h.get? a = some o
  | .xd fs => ∃ mA, h.Ns1 a mA ∧ ∀ f, RelO (fs.lookup f) (mA f)
  | .rng lo hi => ∃ t u v, h.get? a = some { cls := .type "range", data := .fields #[.int lo t, .int hi u, .int 1 v] }
  | .frz o u => h.get? a = some o ∧ ObjOk H h a u
  | .tbl ps => h.get? a = some { cls := .none, data := .fields ps }
  | .met f x => h.get? a = some (PySem.W.methodObj (.ref f) (.ref x))
  | .ext φ => φ h ∧ (∃ o, h.get? a = some o) ∧ ∀ h1 h2 : Heap, φ h1 → (∀ o, h1.get? a = some o → h2.get? a = some o) → φ h2
/-- the abstract heap is held -/
def HOk (H : Hp) (h : Heap) : Prop := ∀ a o, H a = some o → ObjOk P w H h a o
end

section
variable {P : Program} {w : World} {H H' : Hp} {h h' : Heap} {a : Addr} {o : HO}
theorem ObjOk.lt (x : ObjOk P w H h a o) : a < h.objs.size := by
  cases o with
  | lst xs => obtain ⟨_, _, _, _, e⟩ := x; exact Heap.lt_size e
  | tup xs => obtain ⟨_, _, _, p⟩ := x; exact p.lt
  | dK kvs => obtain ⟨_, _, _, _, o, _, _, e, _⟩ := x; exact Heap.lt_size e
  | dT kvs => obtain ⟨_, _, _, _, o, _, _, e, _⟩ := x; exact Heap.lt_size e
  | set S n => obtain ⟨o, _, _, _, e, _⟩ := x; exact Heap.lt_size e
  | ins C dx fs => obtain ⟨_, _, _, e, _⟩ := x; exact Heap.lt_size e
  | own y => obtain ⟨_, e⟩ := x; exact Heap.lt_size e
  | xd fs => obtain ⟨_, ⟨_, _, _, e, _⟩, _⟩ := x; exact Heap.lt_size e
  | rng lo hi => obtain ⟨_, _, _, e⟩ := x; exact Heap.lt_size e
  | frz ob u => obtain ⟨e, _⟩ := x; exact Heap.lt_size e
  | tbl ps => exact Heap.lt_size (show h.get? a = some _ from x)
  | met f y => exact Heap.lt_size (show h.get? a = some _ from x)
  | ext φ => obtain ⟨_, ⟨_, e⟩, _⟩ := x; exact Heap.lt_size e
theorem Paired.mapP {α β : Type} {F G : α → β → Prop} : ∀ {l₁ : List α} {l₂ : List β}, Paired F l₁ l₂ → (∀ a b, F a b → G a b) → Paired G l₁ l₂
  | _, _, .nil, _ => .nil
  | _, _, .cons r t, f => .cons (f _ _ r) (Paired.mapP t f)
theorem Paired.imp' {α β : Type} {F G : α → β → Prop} (f : ∀ a b, F a b → G a b) {l₁ : List α} {l₂ : List β} (r : Paired F l₁ l₂) : Paired G l₁ l₂ := Paired.mapP r f
/-- what an object's description leans on: its own object, its own dict, the tuples -/
theorem ObjOk.stay (x : ObjOk P w H h a o) (k : ∀ b u, (b = a ∨ H b = some (.own a)) → h.get? b = some u → h'.get? b = some u)
    (ho : ∀ b, H b = some (.own a) → H' b = some (.own a)) (ht : ∀ b xs, H b = some (.tup xs) → H' b = some (.tup xs)) : ObjOk P w H' h' a o := by
  induction o with
  | lst xs => obtain ⟨z, its, n, r, e⟩ := x; exact ⟨z, its, n, r, k _ _ (.inl rfl) e⟩
  | tup xs => obtain ⟨z, its, r, ob, e, c⟩ := x; exact ⟨z, its, r, ob, k _ _ (.inl rfl) e, c⟩
  | dK kvs => obtain ⟨z, y, vs, r, ob, es, ep, e, c⟩ := x; exact ⟨z, y, vs, r, ob, es, ep, k _ _ (.inl rfl) e, c⟩
  | dT kvs =>
    obtain ⟨z, y, xs, r, ob, es, ep, e, c⟩ := x
    exact ⟨z, y, xs, Paired.mapP r fun p q z => ⟨z.1, ht _ _ z.2.1, z.2.2⟩, ob, es, ep, k _ _ (.inl rfl) e, c⟩
  | set S n => obtain ⟨ob, es, ep, t, e, c⟩ := x; exact ⟨ob, es, ep, t, k _ _ (.inl rfl) e, c⟩
  | ins C dx fs =>
    obtain ⟨d, z, ne, e, mA, ⟨od, es, ep, e2, c⟩, r⟩ := x
    exact ⟨ho _ d, z, ne, k _ _ (.inl rfl) e, mA, ⟨od, es, ep, k _ _ (.inr d) e2, c⟩, r⟩
  | own y => obtain ⟨ob, e⟩ := x; exact ⟨ob, k _ _ (.inl rfl) e⟩
  | xd fs => obtain ⟨mA, ⟨od, es, ep, e, c⟩, r⟩ := x; exact ⟨mA, ⟨od, es, ep, k _ _ (.inl rfl) e, c⟩, r⟩
  | rng lo hi => obtain ⟨t, u, v, e⟩ := x; exact ⟨t, u, v, k _ _ (.inl rfl) e⟩
  | frz ob u ih => obtain ⟨e, q⟩ := x; exact ⟨k _ _ (.inl rfl) e, ih q⟩
  | tbl ps =>
    have e : h.get? a = some { cls := .none, data := .fields ps } := x
    show h'.get? a = some { cls := .none, data := .fields ps }
    exact k a _ (.inl rfl) e
  | met f y =>
    have e : h.get? a = some (PySem.W.methodObj (.ref f) (.ref y)) := x
    show h'.get? a = some (PySem.W.methodObj (.ref f) (.ref y))
    exact k a _ (.inl rfl) e
  | ext φ => obtain ⟨p, ⟨o, e⟩, st⟩ := x; exact ⟨st _ _ p fun o q => k _ _ (.inl rfl) q, ⟨o, k _ _ (.inl rfl) e⟩, st⟩
theorem HOk.lt (x : HOk P w H h) (e : H a = some o) : a < h.objs.size := (x a o e).lt
theorem HOk.fresh (x : HOk P w H h) (e : h.objs.size ≤ a) : H a = none := by
  cases q : H a with
  | none => rfl
  | some u => exact absurd (Nat.lt_of_lt_of_le (x.lt q) e) (Nat.lt_irrefl _)
/-- every object of the heap is kept -/
theorem HOk.kept (x : HOk P w H h) (k : ∀ b u, h.get? b = some u → h'.get? b = some u) : HOk P w H h' := fun a o e =>
  (x a o e).stay (fun b u _ q => k b u q) (fun _ q => q) fun _ _ q => q
/-- a new object is laid and tracked -/
theorem HOk.laid (x : HOk P w H h) (k : ∀ b u, h.get? b = some u → h'.get? b = some u) (hp : h.objs.size ≤ a) (new : ObjOk P w (upd H a o) h' a o) : HOk P w (upd H a o) h' := fun b u e => by
  have hn := x.fresh hp
  by_cases hb : b = a
  · subst hb; rw [upd_same] at e; cases e; exact new
  · rw [upd_ne hb] at e
    exact (x b u e).stay (fun c v _ q => k c v q) (fun c q => by rw [upd_ne (ne_of_none q hn)]; exact q) fun c xs q => by rw [upd_ne (ne_of_none q hn)]; exact q
end

/-- what may be read as u: it is u, or a known u -/
def Rd (H : Hp) (a : Addr) (u : HO) : Prop := H a = some u ∨ ∃ o, H a = some (.frz o u)
theorem Rd.of {H : Hp} {a : Addr} {u : HO} (h : H a = some u) : Rd H a u := .inl h
theorem Rd.ok {P : Program} {w : World} {H : Hp} {h : Heap} {a : Addr} {u : HO} (r : Rd H a u) (x : HOk P w H h) : ObjOk P w H h a u := by
  rcases r with r | ⟨o, r⟩
  · exact x a u r
  · obtain ⟨_, q⟩ := x a _ r
    exact q
/-- what may be written -/
def Mut : Option HO → Prop
  | some (.lst _) => True
  | some (.dK _) => True
  | some (.dT _) => True
  | some (.set _ _) => True
  | some (.ins _ _ _) => True
  | some (.ext _) => True
  | _ => False
section
variable {P : Program} {w : World} {H : Hp} {h h' : Heap} {x e : Addr} {o' : HO}
/-- the object at e is changed: x itself, or the dict of the instance x -/
theorem HOk.write (ok : HOk P w H h) (mu : Mut (H x)) (he : e = x ∨ H e = some (.own x)) (k : ∀ b u, b ≠ e → h.get? b = some u → h'.get? b = some u) (heo : ∃ u, h'.get? e = some u)
    (new : ObjOk P w (upd H x o') h' x o') : HOk P w (upd H x o') h' := fun b u q => by
  have nown : ∀ c y, H c = some (.own y) → c ≠ x := fun c y r z => by subst z; rw [r] at mu; exact mu
  have ntup : ∀ c xs, H c = some (.tup xs) → c ≠ x := fun c xs r z => by subst z; rw [r] at mu; exact mu
  by_cases hb : b = x
  · subst hb; rw [upd_same] at q; cases q; exact new
  · rw [upd_ne hb] at q
    by_cases hbe : b = e
    · have q' : H b = some (.own x) := by
        rcases he with z | z
        · exact absurd (hbe.trans z) hb
        · rw [hbe]; exact z
      rw [q] at q'; cases q'
      obtain ⟨v, hv⟩ := heo
      exact ⟨v, by rw [hbe]; exact hv⟩
    · refine (ok b u q).stay (fun c v hc r => k c v ?_ r) (fun c r => by rw [upd_ne (nown c b r)]; exact r) fun c xs r => by rw [upd_ne (ntup c xs r)]; exact r
      rcases hc with rfl | hc
      · exact hbe
      · rintro rfl
        rcases he with z | z
        · exact nown c b hc z
        · rw [hc] at z; cases z; exact hb rfl
end

/-! ### kept unless tracked; of the frames at fs (the callers') the slots may change (an exception that passes writes there); of the records at ex (iterators) nothing is said -/
structure Un (fs ex : List Addr) (H H' : Hp) (h h' : Heap) : Prop where
  keep : ∀ b o, h.get? b = some o → H b = none → b ∉ fs → b ∉ ex → h'.get? b = some o
  slot : ∀ b o, h.get? b = some o → H b = none → b ∈ fs → b ∉ ex → ∃ sl, h'.get? b = some { o with slots := sl }
  free : ∀ b o, h.get? b = some o → H b = none → b ∉ ex → H' b = none
  there : ∀ b o, h.get? b = some o → b ∉ ex → ∃ o', h'.get? b = some o'
  tups : ∀ b xs, H b = some (.tup xs) → H' b = some (.tup xs)
  frzs : ∀ b o u, H b = some (.frz o u) → H' b = some (.frz o u)
  tbls : ∀ b ps, H b = some (.tbl ps) → ∃ more, H' b = some (.tbl (ps ++ more))
section
variable {fs fs' ex ex' : List Addr} {H H1 H2 : Hp} {h h1 h2 h' : Heap} {a x e : Addr} {o : HO}
theorem Un.any (u : Un fs ex H H1 h h1) {b : Addr} {ob : Obj} (q : h.get? b = some ob) (n : H b = none) (hx : b ∉ ex) : ∃ sl, h1.get? b = some { ob with slots := sl } := by
  by_cases hb : b ∈ fs
  · exact u.slot b ob q n hb hx
  · exact ⟨ob.slots, u.keep b ob q n hb hx⟩
theorem Un.trans (a : Un fs ex H H1 h h1) (b : Un fs ex H1 H2 h1 h2) : Un fs ex H H2 h h2 where
  keep := fun c ob q n hc hx => b.keep c ob (a.keep c ob q n hc hx) (a.free c ob q n hx) hc hx
  slot := fun c ob q n hc hx => by
    obtain ⟨sl, e1⟩ := a.slot c ob q n hc hx
    obtain ⟨sl', e2⟩ := b.slot c _ e1 (a.free c ob q n hx) hc hx
    exact ⟨sl', e2⟩
  free := fun c ob q n hx => by
    obtain ⟨o', e1⟩ := a.there c ob q hx
    exact b.free c o' e1 (a.free c ob q n hx) hx
  there := fun c ob q hx => by
    obtain ⟨o', e1⟩ := a.there c ob q hx
    exact b.there c o' e1 hx
  tups := fun c xs q => b.tups c xs (a.tups c xs q)
  frzs := fun c ob xs q => b.frzs c ob xs (a.frzs c ob xs q)
  tbls := fun c ps q => by
    obtain ⟨m1, e1⟩ := a.tbls c ps q
    obtain ⟨m2, e2⟩ := b.tbls c _ e1
    exact ⟨m1 ++ m2, by rw [e2, Array.append_assoc]⟩
theorem Un.kept (k : ∀ b u, h.get? b = some u → h'.get? b = some u) : Un fs ex H H h h' :=
  ⟨fun b ob q _ _ _ => k b ob q, fun b ob q _ _ _ => ⟨ob.slots, k b ob q⟩, fun _ _ _ n _ => n, fun b ob q _ => ⟨ob, k b ob q⟩, fun _ _ q => q, fun _ _ _ q => q, fun _ ps q => ⟨#[], by rw [q]; simp⟩⟩
theorem Un.refl : Un fs ex H H h h := Un.kept fun _ _ q => q
theorem Un.laid (k : ∀ b u, h.get? b = some u → h'.get? b = some u) (hp : h.objs.size ≤ a) (hn : H a = none) : Un fs ex H (upd H a o) h h' where
  keep := fun b u q _ _ _ => k b u q
  slot := fun b u q _ _ _ => ⟨u.slots, k b u q⟩
  free := fun b u q n _ => by rw [upd_ne (Nat.ne_of_lt (Nat.lt_of_lt_of_le (Heap.lt_size q) hp))]; exact n
  there := fun b u q _ => ⟨u, k b u q⟩
  tups := fun b xs q => by rw [upd_ne (ne_of_none q hn)]; exact q
  frzs := fun b u xs q => by rw [upd_ne (ne_of_none q hn)]; exact q
  tbls := fun b ps q => ⟨#[], by rw [upd_ne (ne_of_none q hn), q]; simp⟩
theorem Un.write (mu : Mut (H x)) (he : e = x ∨ H e = some (.own x)) (k : ∀ b u, b ≠ e → h.get? b = some u → h'.get? b = some u) (heo : ∃ u, h'.get? e = some u) : Un fs ex H (upd H x o) h h' := by
  have hx : ∀ b, H b = none → b ≠ x := fun b n z => by subst z; rw [n] at mu; exact mu
  have hb : ∀ b, H b = none → b ≠ e := fun b n z => by
    subst z
    rcases he with r | r
    · exact hx b n r
    · rw [n] at r; cases r
  have hm : ∀ b u, H b = some u → ¬ Mut (some u) → b ≠ x := fun b u q nm z => by subst z; rw [q] at mu; exact nm mu
  refine ⟨fun b u q n _ _ => k b u (hb b n) q, fun b u q n _ _ => ⟨u.slots, k b u (hb b n) q⟩, fun b u q n _ => by rw [upd_ne (hx b n)]; exact n, fun b u q _ => ?_,
    fun b xs q => by rw [upd_ne (hm b _ q fun z => z)]; exact q, fun b u xs q => by rw [upd_ne (hm b _ q fun z => z)]; exact q, fun b ps q => ⟨#[], by rw [upd_ne (hm b _ q fun z => z), q]; simp⟩⟩
  by_cases hbe : b = e
  · subst hbe; exact heo
  · exact ⟨u, k b u hbe q⟩
theorem Un.mono (u : Un fs ex H H1 h h1) (hs : ∀ b ∈ fs, b ∈ fs') (hx : ∀ b ∈ ex, b ∈ ex') : Un fs' ex' H H1 h h1 :=
  ⟨fun b ob q n hb he => u.keep b ob q n (fun z => hb (hs b z)) fun z => he (hx b z), fun _ _ q n _ he => u.any q n fun z => he (hx _ z), fun b ob q n he => u.free b ob q n fun z => he (hx b z), fun b ob q he => u.there b ob q fun z => he (hx b z), u.tups, u.frzs, u.tbls⟩
end

/-! ### the heap without what is tracked -/
def trk (h : Heap) (H : Hp) : List Addr := (List.range h.objs.size).filter fun a => (H a).isSome
def hidT (h : Heap) (H : Hp) : Heap := PySem.W.hideAll h (trk h H)
theorem hidT_size (h : Heap) (H : Hp) : (hidT h H).objs.size = h.objs.size := PySem.W.hideAll_size _ _
theorem hidT_get {h : Heap} {H : Hp} {b : Addr} {o : Obj} (e : h.get? b = some o) (n : H b = none) : (hidT h H).get? b = some o :=
  PySem.W.hideAll_get _ e fun hm => by
    have q : (H b).isSome = true := (List.mem_filter.mp hm).2
    rw [n] at q; simp at q
theorem of_hidT {h : Heap} {H : Hp} {b : Addr} {o : Obj} (e : (hidT h H).get? b = some o) : h.get? b = some o ∧ H b = none := by
  have e' : h.get? b = some o := PySem.W.of_hideAll (trk h H) e
  refine ⟨e', ?_⟩
  cases q : H b with
  | none => rfl
  | some x =>
    have hm : b ∈ trk h H := List.mem_filter.mpr ⟨List.mem_range.mpr (Heap.lt_size e'), by simp [q]⟩
    have z : (hidT h H).get? b = none := PySem.W.hideAll_none (trk h H) hm
    rw [z] at e; cases e

/-! ### OpenK's ledger, filled with every new object but one -/
def allNews (g h : Heap) (L : Addr) : List (Addr × Obj) := (List.range h.objs.size).filterMap fun a => if a = L ∨ (g.get? a).isSome = true then none else (h.get? a).map fun o => (a, o)
theorem mem_allNews {g h : Heap} {L a : Addr} {o : Obj} (h1 : a ≠ L) (h2 : g.get? a = none) (h3 : h.get? a = some o) : (a, o) ∈ allNews g h L :=
  List.mem_filterMap.mpr ⟨a, List.mem_range.mpr (Heap.lt_size h3), by simp [h1, h2, h3]⟩
theorem of_mem_allNews {g h : Heap} {L : Addr} {p : Addr × Obj} (hp : p ∈ allNews g h L) : p.1 ≠ L ∧ g.get? p.1 = none ∧ h.get? p.1 = some p.2 := by
  obtain ⟨b, _, e⟩ := List.mem_filterMap.mp hp
  split at e
  · cases e
  · rename_i hn
    cases q : h.get? b with
    | none => rw [q] at e; simp at e
    | some u =>
      rw [q] at e
      simp only [Option.map_some, Option.some.injEq] at e
      subst e
      refine ⟨fun z => hn (.inl z), ?_, q⟩
      show g.get? b = none
      cases r : g.get? b with
      | none => rfl
      | some v => exact (hn (.inr (by simp [r]))).elim
def rest (g h : Heap) (L d : Addr) : List (Addr × Obj) := (allNews g h L).filter fun p => decide (p.1 ≠ d)
theorem rest_ne {g h : Heap} {L d : Addr} : ∀ p ∈ rest g h L d, p.1 ≠ d := fun p hp => of_decide_eq_true (List.mem_filter.mp hp).2
theorem mem_rest {g h : Heap} {L d a : Addr} {o : Obj} (h1 : a ≠ L) (h2 : g.get? a = none) (h3 : h.get? a = some o) (h4 : a ≠ d) : (a, o) ∈ rest g h L d :=
  List.mem_filter.mpr ⟨mem_allNews h1 h2 h3, decide_eq_true h4⟩
theorem news_all {g h : Heap} {L : Addr} : News g L h (allNews g h L) := fun p hp => let ⟨a, b, c⟩ := of_mem_allNews hp; ⟨c, a, b⟩
theorem news_at {g h : Heap} {L d : Addr} {o : Obj} (h1 : d ≠ L) (h2 : g.get? d = none) (h3 : h.get? d = some o) : News g L h ((d, o) :: rest g h L d) := fun p hp => by
  rcases List.mem_cons.mp hp with rfl | hp
  · exact ⟨h3, h1, h2⟩
  · exact news_all p (List.mem_filter.mp hp).1
/-- behind a rule that changed d alone: all else but the frame is kept -/
theorem kept_of_news {g h h' : Heap} {L d : Addr} {m : Str → Option Value} (k : ∀ b o, g.get? b = some o → h.get? b = some o) (F : Fr g L h' m) (N : News g L h' (rest g h L d)) :
    ∀ b o, b ≠ L → b ≠ d → h.get? b = some o → h'.get? b = some o := fun b o h1 h2 e => by
  cases q : g.get? b with
  | some u =>
    have := k b u q
    rw [e] at this; cases this
    exact F.keep b _ q
  | none => exact (N (b, o) (mem_rest h1 q e h2)).1
end L2

namespace L2
open PySem PySem.Spec PyProof.Rows

/-- the module's facts, over the base: the heap at the law's entry without what is tracked there -/
structure Mod (K : PySem.W.Frag) (mg : Str → Option Value) (base : Heap) : Prop where
  kin : K.In base
  glob : base.Ns mainGlobals mg
  blt : ∃ mb, base.Ns builtinsNs mb ∧ ∀ x : Str, x ≠ "__name__" → mb x = bootBuiltins x
  nolimit : base.NoLimit

/-- the context: a def's body (or a comprehension's block) running. base: fixed through the whole law; s₀, H₀: the entry; outer: the frames whose slots others may change (a def's callers); stack: all frames that run;
   ex: iterators that were made ahead of the entry and are walked here (a comprehension's); fn: the names whose cells were made at the entry (a def: all; a comprehension's block: its own); calm: not within an except suite; pn: pins that every state bears; xe: what is wanted of an exception that leaves the code -/
structure Cx where
  prog : Program
  w : World
  K : PySem.W.Frag
  mg : Str → Option Value
  base : Heap
  A : Around
  N : List Str
  s₀ : Shared
  H₀ : Hp
  env : Env
  outer : List Env
  stack : List Env
  ex : List Addr
  fn : Str → Bool
  calm : Bool
  pn : List (Addr × Obj)
  xe : Value → Shared → Prop
/-- the callers' frames -/
def frs (l : List Env) : List Addr := l.filterMap (·.frame)
abbrev Cx.fs (X : Cx) : List Addr := frs X.outer

def Vis (sc : Scope) (x : Str) : Prop := sc.names.lookup x = some .local ∨ sc.names.lookup x = some .cell ∨ sc.names.lookup x = some .free
def Loc (sc : Scope) (x : Str) : Prop := sc.names.lookup x = some .local ∨ sc.names.lookup x = some .cell
def Look (env : Env) (h : Heap) (m : Str → Option Value) (x : Str) (u : Value) : Prop :=
  (env.kindOf x = some .local ∧ m x = some u) ∨ ((env.kindOf x = some .cell ∨ env.kindOf x = some .free) ∧ ∃ c, env.cells.lookup x = some c ∧ h.IsCell c (some u))

structure Cx.Ok (X : Cx) : Prop where
  mod : Mod X.K X.mg X.base
  kind : X.env.scope.kind = .function
  glob : X.env.globals = mainGlobals
  blt : X.env.builtins = builtinsNs
  above : X.s₀.heap.objs.size ≤ X.env.locals
  inj : ∀ x y c, X.env.cells.lookup x = some c → X.env.cells.lookup y = some c → x = y
  has : ∀ x, (X.env.kindOf x = some .cell ∨ X.env.kindOf x = some .free) → ∃ c, X.env.cells.lookup x = some c
  cab : ∀ x c, X.fn x = true → X.env.cells.lookup x = some c → X.s₀.heap.objs.size ≤ c
  hd : X.calm = true → X.A.handled = none
  frames : X.A.frames = some X.stack
  stk : X.stack = X.outer ∨ (X.stack = X.env :: X.outer ∧ X.env.frame = some X.env.locals)
  exf : ∀ b ∈ X.ex, b ≠ X.env.locals ∧ ∀ x c, X.env.cells.lookup x = some c → c ≠ b
  bs : ∀ b o, X.base.get? b = some o → X.s₀.heap.get? b = some o ∧ X.H₀ b = none
  bsz : X.base.objs.size ≤ X.s₀.heap.objs.size
  noex : ∀ b o, X.base.get? b = some o → b ∉ X.ex
  exfs : ∀ b ∈ X.ex, b ∉ X.fs
  funs : X.s₀.heap.FunFrames X.base X.outer
  frf : ∀ b ∈ X.fs, X.H₀ b = none

structure Inv (X : Cx) (pins : List (Addr × Obj)) (σ : List (Option V)) (H : Hp) (s : Shared) : Prop where
  ok : X.Ok
  os : s.os = X.s₀.os
  bare : AllBare s.gens
  base : Un X.fs X.ex X.H₀ H X.s₀.heap s.heap
  loc : ∃ m, s.heap.Ns X.env.locals m ∧ ∀ (i : Nat) (x : Str) (v : V), X.N[i]? = some x → σ[i]? = some (some v) → Vis X.env.scope x → ∃ u, RelV v u ∧ Look X.env s.heap m x u
  cell : ∀ x c, X.env.cells.lookup x = some c → ∃ v, s.heap.IsCell c v
  free : H X.env.locals = none
  freeC : ∀ x c, X.env.cells.lookup x = some c → H c = none
  pin : ∀ p ∈ X.pn ++ pins, s.heap.get? p.1 = some p.2 ∧ H p.1 = none ∧ p.1 ≠ X.env.locals ∧ p.1 ∉ X.fs ∧ ∀ v, p.2.data ≠ .cell v
  hok : HOk X.prog X.w H s.heap
  len : σ.length = X.N.length

section
variable {X : Cx} {pins : List (Addr × Obj)} {σ : List (Option V)} {H H' : Hp} {s : Shared} {h' : Heap}

theorem Cx.Ok.nofr (ok : X.Ok) {b : Addr} {o : Obj} (e : X.base.get? b = some o) : b ∉ X.fs := fun hb => by
  have := (ok.funs.mem hb).1
  rw [e] at this; cases this
theorem Inv.bs (I : Inv X pins σ H s) : ∀ b o, X.base.get? b = some o → s.heap.get? b = some o ∧ H b = none := fun b o e =>
  ⟨I.base.keep b o (I.ok.bs b o e).1 (I.ok.bs b o e).2 (I.ok.nofr e) (I.ok.noex b o e), I.base.free b o (I.ok.bs b o e).1 (I.ok.bs b o e).2 (I.ok.noex b o e)⟩
theorem Inv.bk (I : Inv X pins σ H s) : ∀ b o, X.base.get? b = some o → s.heap.get? b = some o := fun b o e => (I.bs b o e).1
theorem Inv.mod (I : Inv X pins σ H s) : Mod X.K X.mg X.base := I.ok.mod
theorem Inv.kIn (I : Inv X pins σ H s) : X.K.In s.heap := I.ok.mod.kin.keeps I.bk
theorem Inv.nolimit (I : Inv X pins σ H s) : s.heap.NoLimit := I.ok.mod.nolimit.keeps I.bk
/-- the frame over the base: for OpenK's rules (K.In X.base is I.mod.kin) -/
theorem Inv.fr (I : Inv X pins σ H s) : ∃ m, Fr X.base X.env.locals s.heap m :=
  let ⟨m, hn, _⟩ := I.loc
  ⟨m, hn, I.bk, Nat.le_trans I.ok.bsz I.ok.above⟩
theorem Inv.lt (I : Inv X pins σ H s) : X.env.locals < s.heap.objs.size := let ⟨_, hn, _⟩ := I.loc; hn.lt
theorem Inv.sz (I : Inv X pins σ H s) : X.s₀.heap.objs.size ≤ s.heap.objs.size := Nat.le_trans I.ok.above (Nat.le_of_lt I.lt)
theorem Inv.nofs (I : Inv X pins σ H s) {a : Addr} (h : s.heap.objs.size ≤ a) : a ∉ X.fs := fun hb => by
  obtain ⟨_, o, ho, _⟩ := I.ok.funs.mem hb
  exact absurd (Nat.lt_of_lt_of_le (Heap.lt_size ho) (Nat.le_trans I.sz h)) (Nat.lt_irrefl _)
theorem Inv.cne (I : Inv X pins σ H s) : ∀ x c, X.env.cells.lookup x = some c → c ≠ X.env.locals := fun x c e z => by
  obtain ⟨v, o, ho, hd⟩ := I.cell x c e
  obtain ⟨m, ⟨o', es, ep, ho', hd', _⟩, _⟩ := I.loc
  rw [z, ho'] at ho; cases ho; rw [hd'] at hd; cases hd
theorem Inv.funs (I : Inv X pins σ H s) : s.heap.FunFrames X.base X.outer := by
  have all : ∀ (l : List Env), (∀ b ∈ frs l, b ∈ X.fs) → X.s₀.heap.FunFrames X.base l → s.heap.FunFrames X.base l := by
    intro l
    induction l with
    | nil => intro _ _; trivial
    | cons env r ih =>
      intro hs hl
      obtain ⟨hk, ⟨L, o, hf, hn, ho, hd⟩, hr⟩ := hl
      have hL : L ∈ X.fs := hs L (by unfold frs; rw [List.filterMap_cons, hf]; exact List.mem_cons_self)
      obtain ⟨sl, e⟩ := I.base.slot L o ho (I.ok.frf L hL) hL fun z => I.ok.exfs L z hL
      exact ⟨hk, ⟨L, _, hf, hn, e, hd⟩, ih (fun b hb => hs b (by unfold frs; rw [List.filterMap_cons, hf]; exact List.mem_cons_of_mem _ hb)) hr⟩
  exact all X.outer (fun _ hb => hb) I.ok.funs

/-- the frames that run, for a call -/
theorem Inv.stack (I : Inv X pins σ H s) : s.heap.FunFrames X.base X.stack := by
  rcases I.ok.stk with e | ⟨e, hf⟩
  · rw [e]; exact I.funs
  · rw [e]
    obtain ⟨m, hn, _⟩ := I.loc
    refine .cons (by rw [I.ok.kind]; decide) hf hn ?_ I.funs
    exact Heap.get?_none_of_le (Nat.le_trans I.ok.bsz I.ok.above)
theorem Inv.stkSub (I : Inv X pins σ H s) : ∀ b ∈ frs X.stack, b ∈ X.env.locals :: X.fs := fun b hb => by
  rcases I.ok.stk with e | ⟨e, hf⟩
  · rw [e] at hb; exact List.mem_cons_of_mem _ hb
  · rw [e] at hb
    unfold frs at hb
    rw [List.filterMap_cons, hf] at hb
    exact hb
theorem Inv.stkFree (I : Inv X pins σ H s) : ∀ b ∈ frs X.stack, H b = none := fun b hb => by
  rcases List.mem_cons.mp (I.stkSub b hb) with e | hb
  · rw [e]; exact I.free
  · obtain ⟨_, o, ho, _⟩ := I.ok.funs.mem hb
    exact I.base.free b o ho (I.ok.frf b hb) fun z => I.ok.exfs b z hb

/-- THE STEP: the untracked objects but the frame and the records at ch are kept (the callers' frames up to slots), the frame's map is kept, the new abstract heap is held -/
theorem Inv.step {g' : Array GenState} {t' : Nat} {d' : Drawn} {ch : List Addr} (I : Inv X pins σ H s)
    (hch : ∀ b ∈ ch, (b ∈ X.ex ∨ X.s₀.heap.objs.size ≤ b) ∧ b ≠ X.env.locals ∧ (∀ x c, X.env.cells.lookup x = some c → c ≠ b) ∧ ∀ p ∈ X.pn ++ pins, p.1 ≠ b)
    (keep : ∀ b o, b ≠ X.env.locals → b ∉ X.fs → b ∉ ch → s.heap.get? b = some o → H b = none → h'.get? b = some o)
    (slot : ∀ b o, b ≠ X.env.locals → b ∈ X.fs → b ∉ ch → s.heap.get? b = some o → H b = none → ∃ sl, h'.get? b = some { o with slots := sl }) (free : ∀ b o, b ∉ ch → s.heap.get? b = some o → H b = none → H' b = none)
    (there : ∀ b o, b ∉ ch → s.heap.get? b = some o → ∃ o', h'.get? b = some o')
    (tups : ∀ b xs, H b = some (.tup xs) → H' b = some (.tup xs)) (frzs : ∀ b o u, H b = some (.frz o u) → H' b = some (.frz o u)) (tbls : ∀ b ps, H b = some (.tbl ps) → ∃ more, H' b = some (.tbl (ps ++ more)))
    (ns : ∀ m, s.heap.Ns X.env.locals m → h'.Ns X.env.locals m) (hok : HOk X.prog X.w H' h') (hg : AllBare g') :
    Inv X pins σ H' { s with heap := h', gens := g', drawn := d', toks := t' } := by
  have neL : ∀ b o, X.s₀.heap.get? b = some o → b ≠ X.env.locals := fun b o e => Nat.ne_of_lt (Nat.lt_of_lt_of_le (Heap.lt_size e) I.ok.above)
  have neC : ∀ b o, X.s₀.heap.get? b = some o → b ∉ X.ex → b ∉ ch := fun b o e hx hb => by
    rcases (hch b hb).1 with z | z
    · exact hx z
    · exact absurd (Nat.lt_of_lt_of_le (Heap.lt_size e) z) (Nat.lt_irrefl _)
  have cellK : ∀ x c, X.env.cells.lookup x = some c → ∀ v, s.heap.IsCell c v → h'.IsCell c v := fun x c e v ⟨o, ho, hd⟩ => by
    have nch : c ∉ ch := fun z => (hch c z).2.2.1 x c e rfl
    by_cases hc : c ∈ X.fs
    · obtain ⟨sl, q⟩ := slot c o (I.cne x c e) hc nch ho (I.freeC x c e)
      exact ⟨_, q, hd⟩
    · exact ⟨o, keep c o (I.cne x c e) hc nch ho (I.freeC x c e), hd⟩
  refine ⟨I.ok, I.os, hg, ⟨fun b o e n hb hx => ?_, fun b o e n hb hx => ?_, fun b o e n hx => ?_, fun b o e hx => ?_, fun b xs e => tups b xs (I.base.tups b xs e), fun b o xs e => frzs b o xs (I.base.frzs b o xs e), fun b ps e => ?_⟩, ?_, fun x c e => ?_, ?_, fun x c e => ?_, fun p hp => ?_, hok, I.len⟩
  · exact keep b o (neL b o e) hb (neC b o e hx) (I.base.keep b o e n hb hx) (I.base.free b o e n hx)
  · obtain ⟨sl, e1⟩ := I.base.slot b o e n hb hx
    obtain ⟨sl', e2⟩ := slot b _ (neL b o e) hb (neC b o e hx) e1 (I.base.free b o e n hx)
    exact ⟨sl', e2⟩
  · obtain ⟨o', e1⟩ := I.base.there b o e hx
    exact free b o' (neC b o e hx) e1 (I.base.free b o e n hx)
  · obtain ⟨o', e1⟩ := I.base.there b o e hx
    exact there b o' (neC b o e hx) e1
  · obtain ⟨m1, e1⟩ := I.base.tbls b ps e
    obtain ⟨m2, e2⟩ := tbls b _ e1
    exact ⟨m1 ++ m2, by rw [e2, Array.append_assoc]⟩
  · obtain ⟨m, hn, hl⟩ := I.loc
    refine ⟨m, ns m hn, fun i x v e1 e2 e3 => ?_⟩
    obtain ⟨u, r, l⟩ := hl i x v e1 e2 e3
    refine ⟨u, r, ?_⟩
    rcases l with l | ⟨k, c, e, z⟩
    · exact .inl l
    · exact .inr ⟨k, c, e, cellK x c e _ z⟩
  · obtain ⟨v, z⟩ := I.cell x c e
    exact ⟨v, cellK x c e v z⟩
  · obtain ⟨m, ⟨o, _, _, ho, _⟩, _⟩ := I.loc
    exact free _ o (fun z => (hch _ z).2.1 rfl) ho I.free
  · obtain ⟨v, o, ho, hd⟩ := I.cell x c e
    exact free c o (fun z => (hch c z).2.2.1 x c e rfl) ho (I.freeC x c e)
  · obtain ⟨e, n, ne, nf, d⟩ := I.pin p hp
    have nch : p.1 ∉ ch := fun z => (hch p.1 z).2.2.2 p hp rfl
    exact ⟨keep p.1 p.2 ne nf nch e n, free p.1 p.2 nch e n, ne, nf, d⟩
/-- .. where the frame's own object is kept too -/
theorem Inv.un {t' : Nat} (I : Inv X pins σ H s) (u : Un X.fs [] H H' s.heap h') (hok : HOk X.prog X.w H' h') : Inv X pins σ H' { s with heap := h', toks := t' } := by
  obtain ⟨m, ⟨o, es, ep, ho, r⟩, _⟩ := id I.loc
  obtain ⟨sl, hL⟩ := u.any ho I.free (by simp)
  exact I.step (g' := s.gens) (d' := s.drawn) (ch := []) (fun _ z => nomatch z) (fun b o _ hb _ e n => u.keep b o e n hb (by simp)) (fun b o _ hb _ e n => u.slot b o e n hb (by simp)) (fun b o _ e n => u.free b o e n (by simp)) (fun b o _ e => u.there b o e (by simp)) u.tups u.frzs u.tbls (fun m' hm => by
    obtain ⟨o', es', ep', ho', r'⟩ := hm
    rw [ho] at ho'; cases ho'
    exact ⟨_, es', ep', hL, r'⟩) hok I.bare
/-- behind a call (or a comprehension's block): the slots of this frame may have changed too, the records at ch may have turned -/
theorem Inv.call {g' : Array GenState} {t' : Nat} {d' : Drawn} {ch : List Addr} (I : Inv X pins σ H s) (u : Un (frs X.stack) ch H H' s.heap h') (hok : HOk X.prog X.w H' h') (hg : AllBare g')
    (hch : ∀ b ∈ ch, (b ∈ X.ex ∨ X.s₀.heap.objs.size ≤ b) ∧ b ≠ X.env.locals ∧ (∀ x c, X.env.cells.lookup x = some c → c ≠ b) ∧ ∀ p ∈ X.pn ++ pins, p.1 ≠ b) :
    Inv X pins σ H' { s with heap := h', gens := g', drawn := d', toks := t' } := by
  obtain ⟨m, ⟨o, es, ep, ho, r⟩, _⟩ := id I.loc
  obtain ⟨sl, hL⟩ := u.any ho I.free fun z => (hch _ z).2.1 rfl
  exact I.step (ch := ch) hch (fun b o hL hb hc e n => u.keep b o e n (fun z => (List.mem_cons.mp (I.stkSub b z)).elim hL hb) hc) (fun b o _ _ hc e n => u.any e n hc) (fun b o hc e n => u.free b o e n hc) (fun b o hc e => u.there b o e hc) u.tups u.frzs u.tbls (fun m' hm => by
    obtain ⟨o', es', ep', ho', r'⟩ := hm
    rw [ho] at ho'; cases ho'
    exact ⟨_, es', ep', hL, r'⟩) hok hg
/-- an untracked record of ours (an iterator) has turned -/
theorem Inv.turned {t' : Nat} {it : Addr} (I : Inv X pins σ H s) (k : ∀ b o, b ≠ it → s.heap.get? b = some o → h'.get? b = some o) (hn : H it = none) (hL : it ≠ X.env.locals)
    (h1 : it ∈ X.ex ∨ X.s₀.heap.objs.size ≤ it) (h2 : ∀ x c, X.env.cells.lookup x = some c → c ≠ it) (h3 : ∀ p ∈ X.pn ++ pins, p.1 ≠ it) : Inv X pins σ H { s with heap := h', toks := t' } := by
  have nit : ∀ b u, H b = some u → b ≠ it := fun b u e z => by rw [z, hn] at e; cases e
  refine I.step (g' := s.gens) (d' := s.drawn) (ch := [it]) (fun b hb => ?_) (fun b o _ _ hc e _ => k b o (fun z => hc (by simp [z])) e) (fun b o _ _ hc e _ => ⟨o.slots, k b o (fun z => hc (by simp [z])) e⟩) (fun _ _ _ _ n => n)
    (fun b o hc e => ⟨o, k b o (fun z => hc (by simp [z])) e⟩) (fun _ _ e => e) (fun _ _ _ e => e) (fun b ps e => ⟨#[], by rw [e]; simp⟩) (fun m hm => ?_) (fun b u e => ?_) I.bare
  · have e : b = it := by simpa using hb
    subst e
    exact ⟨h1, hL, h2, h3⟩
  · obtain ⟨o, es, ep, ho, r⟩ := hm
    exact ⟨o, es, ep, k _ o (Ne.symm hL) ho, r⟩
  · refine (I.hok b u e).stay (fun c v hc q => k c v ?_ q) (fun _ q => q) fun _ _ q => q
    rcases hc with z | z
    · rw [z]; exact nit b u e
    · exact nit c _ z
theorem Inv.tok (I : Inv X pins σ H s) (t : Nat) : Inv X pins σ H { s with toks := t } := I.un (h' := s.heap) (t' := t) Un.refl I.hok
/-- all objects kept -/
theorem Inv.kept {t' : Nat} (I : Inv X pins σ H s) (k : ∀ b u, s.heap.get? b = some u → h'.get? b = some u) : Inv X pins σ H { s with heap := h', toks := t' } := I.un (Un.kept k) (I.hok.kept k)
/-- a new object laid and tracked -/
theorem Inv.laid {a : Addr} {o : HO} {t' : Nat} (I : Inv X pins σ H s) (k : ∀ b u, s.heap.get? b = some u → h'.get? b = some u) (hp : s.heap.objs.size ≤ a) (new : ObjOk X.prog X.w (upd H a o) h' a o) :
    Inv X pins σ (upd H a o) { s with heap := h', toks := t' } := I.un (Un.laid k hp (I.hok.fresh hp)) (I.hok.laid k hp new)
/-- an object written -/
theorem Inv.write {x e : Addr} {o : HO} {t' : Nat} (I : Inv X pins σ H s) (mu : Mut (H x)) (he : e = x ∨ H e = some (.own x)) (k : ∀ b u, b ≠ e → s.heap.get? b = some u → h'.get? b = some u) (heo : ∃ u, h'.get? e = some u)
    (new : ObjOk X.prog X.w (upd H x o) h' x o) : Inv X pins σ (upd H x o) { s with heap := h', toks := t' } := I.un (Un.write mu he k heo) (I.hok.write mu he k heo new)
/-- forgetting slots, pins -/
theorem Inv.weak {σ' : List (Option V)} (I : Inv X pins σ H s) (hl : σ'.length = σ.length) (w : ∀ (i : Nat) v, σ'[i]? = some (some v) → σ[i]? = some (some v)) : Inv X pins σ' H s :=
  ⟨I.ok, I.os, I.bare, I.base, let ⟨m, hn, hl'⟩ := I.loc; ⟨m, hn, fun i x v e1 e2 e3 => hl' i x v e1 (w i v e2) e3⟩, I.cell, I.free, I.freeC, I.pin, I.hok, hl.trans I.len⟩
theorem Inv.pins_of {pins' : List (Addr × Obj)} (I : Inv X pins σ H s) (h : ∀ p ∈ pins', s.heap.get? p.1 = some p.2 ∧ H p.1 = none ∧ p.1 ≠ X.env.locals ∧ p.1 ∉ X.fs ∧ ∀ v, p.2.data ≠ .cell v) : Inv X pins' σ H s :=
  ⟨I.ok, I.os, I.bare, I.base, I.loc, I.cell, I.free, I.freeC, fun p hp => (List.mem_append.mp hp).elim (fun z => I.pin p (List.mem_append_left _ z)) (h p), I.hok, I.len⟩

theorem nodup_ix {N : List Str} (hN : N.Nodup) {i j : Nat} {x : Str} (a : N[i]? = some x) (b : N[j]? = some x) : i = j := by
  obtain ⟨h1, e1⟩ := List.getElem?_eq_some_iff.mp a
  obtain ⟨h2, e2⟩ := List.getElem?_eq_some_iff.mp b
  exact (List.getElem_inj hN).mp (e1.trans e2.symm)

/-- a name is stored; what changed -/
theorem store_ok2 {M : Model} {A : Around} {E : Value → Shared → Prop} {i : Nat} {x : Str} {v : V} {u : Value} {Q : Unit → Shared → Prop} (I : Inv X pins σ H s) (hN : X.N.Nodup) (hi : X.N[i]? = some x) (hx : Loc X.env.scope x) (r : RelV v u)
    (h : ∀ s', Inv X pins (σ.set i (some v)) H s' → (∃ a, Heap.SameBut a s.heap s'.heap ∧ (a = X.env.locals ∨ X.env.cells.lookup x = some a)) → Q () s') (hf : X.fn x = true ∨ X.env.scope.names.lookup x = some .local := by first | exact .inl rfl | exact .inr rfl | assumption) : wpAny M A (storeName X.env x u) Q E s := by
  obtain ⟨m, hn, hl⟩ := id I.loc
  have hcls : (X.env.scope.kind == .class || (X.env.scope.kind == .module && X.env.locals != X.env.globals)) = false := by rw [I.ok.kind]; rfl
  have hiσ : i < σ.length := by rw [I.len]; exact (List.getElem?_eq_some_iff.mp hi).1
  have cne := I.cne
  have tracked : ∀ {a : Addr} {h' : Heap}, (∃ o, s.heap.get? a = some o ∧ H a = none) → Heap.SameBut a s.heap h' → HOk X.prog X.w H h' := fun {a h'} ha hs b ob e => by
    obtain ⟨_, _, hfree⟩ := ha
    refine (I.hok b ob e).stay (fun c w' hc q => (hs.2 c ?_).trans q) (fun _ q => q) fun _ _ q => q
    rintro rfl
    rcases hc with rfl | hc
    · rw [hfree] at e; cases e
    · rw [hfree] at hc; cases hc
  rcases hx with hk | hk
  · refine wpAny_storeName_local hk hn (fun h' hn' hs => ?_) hcls
    obtain ⟨oL, _, _, hoL, _⟩ := id hn
    refine h _ ⟨I.ok, I.os, I.bare, ⟨fun b o e n hb hx => ?_, fun b o e n hb hx => ?_, I.base.free, fun b o e hx => ?_, I.base.tups, I.base.frzs, I.base.tbls⟩, ⟨_, hn', fun j y v' e1 e2 e3 => ?_⟩, fun y c e => ?_, I.free, I.freeC, fun p hp => ?_, tracked ⟨oL, hoL, I.free⟩ hs, by simpa using I.len⟩ ⟨_, hs, .inl rfl⟩
    · exact (hs.2 b (Nat.ne_of_lt (Nat.lt_of_lt_of_le (Heap.lt_size e) I.ok.above))).trans (I.base.keep b o e n hb hx)
    · obtain ⟨sl, e1⟩ := I.base.slot b o e n hb hx
      exact ⟨sl, (hs.2 b (Nat.ne_of_lt (Nat.lt_of_lt_of_le (Heap.lt_size e) I.ok.above))).trans e1⟩
    · obtain ⟨o', e1⟩ := I.base.there b o e hx
      exact ⟨o', (hs.2 b (Nat.ne_of_lt (Nat.lt_of_lt_of_le (Heap.lt_size e) I.ok.above))).trans e1⟩
    · by_cases hj : j = i
      · subst hj
        rw [hi] at e1; cases e1
        rw [List.getElem?_set_self hiσ] at e2
        cases e2
        exact ⟨u, r, .inl ⟨hk, by simp⟩⟩
      · rw [List.getElem?_set_ne (Ne.symm hj)] at e2
        obtain ⟨u', r', q⟩ := hl j y v' e1 e2 e3
        refine ⟨u', r', ?_⟩
        rcases q with ⟨k, e⟩ | ⟨k, c, e, z⟩
        · refine .inl ⟨k, ?_⟩
          have : y ≠ x := fun e => hj (nodup_ix hN e1 (e ▸ hi))
          simp [this, e]
        · exact .inr ⟨k, c, e, z.sameBut hs (cne y c e)⟩
    · obtain ⟨w', z⟩ := I.cell y c e
      exact ⟨w', z.sameBut hs (cne y c e)⟩
    · obtain ⟨e, n, ne, nf, d⟩ := I.pin p hp
      exact ⟨(hs.2 p.1 ne).trans e, n, ne, nf, d⟩
  · have hfn : X.fn x = true := by
      rcases hf with z | z
      · exact z
      · rw [z] at hk; cases hk
    obtain ⟨c, hc⟩ := I.ok.has x (.inl hk)
    obtain ⟨w', z⟩ := I.cell x c hc
    refine wpAny_storeName_cell I.ok.kind hk hc z (fun h' hc' hs => ?_)
    obtain ⟨oc, hoc, hocd⟩ := id z
    refine h { s with heap := h' } ⟨I.ok, I.os, I.bare, ⟨fun b o e n hb hx => ?_, fun b o e n hb hx => ?_, I.base.free, fun b o e hx => ?_, I.base.tups, I.base.frzs, I.base.tbls⟩, ⟨m, hn.sameBut hs (Ne.symm (cne x c hc)), fun j y v' e1 e2 e3 => ?_⟩, fun y c' e => ?_, I.free, I.freeC, fun p hp => ?_, tracked ⟨oc, hoc, I.freeC x c hc⟩ hs, by simpa using I.len⟩ ⟨c, hs, .inr hc⟩
    · exact (hs.2 b (Nat.ne_of_lt (Nat.lt_of_lt_of_le (Heap.lt_size e) (I.ok.cab x c hfn hc)))).trans (I.base.keep b o e n hb hx)
    · obtain ⟨sl, e1⟩ := I.base.slot b o e n hb hx
      exact ⟨sl, (hs.2 b (Nat.ne_of_lt (Nat.lt_of_lt_of_le (Heap.lt_size e) (I.ok.cab x c hfn hc)))).trans e1⟩
    · obtain ⟨o', e1⟩ := I.base.there b o e hx
      exact ⟨o', (hs.2 b (Nat.ne_of_lt (Nat.lt_of_lt_of_le (Heap.lt_size e) (I.ok.cab x c hfn hc)))).trans e1⟩
    · by_cases hj : j = i
      · subst hj
        rw [hi] at e1; cases e1
        rw [List.getElem?_set_self hiσ] at e2
        cases e2
        exact ⟨u, r, .inr ⟨.inl hk, c, hc, hc'⟩⟩
      · rw [List.getElem?_set_ne (Ne.symm hj)] at e2
        obtain ⟨u', r', q⟩ := hl j y v' e1 e2 e3
        refine ⟨u', r', ?_⟩
        rcases q with q | ⟨k, c', e, z'⟩
        · exact .inl q
        · refine .inr ⟨k, c', e, z'.sameBut hs ?_⟩
          rintro rfl
          exact hj (nodup_ix hN e1 (I.ok.inj _ _ _ e hc ▸ hi))
    · by_cases hcc : c' = c
      · subst hcc; exact ⟨_, hc'⟩
      · obtain ⟨w2, z2⟩ := I.cell y c' e
        exact ⟨w2, z2.sameBut hs hcc⟩
    · obtain ⟨e, n, ne, nf, d⟩ := I.pin p hp
      refine ⟨(hs.2 p.1 ?_).trans e, n, ne, nf, d⟩
      intro q
      rw [q, hoc] at e
      have q' : oc = p.2 := Option.some.inj e
      exact d w' (by rw [← q']; exact hocd)
theorem store_ok {M : Model} {A : Around} {E : Value → Shared → Prop} {i : Nat} {x : Str} {v : V} {u : Value} {Q : Unit → Shared → Prop} (I : Inv X pins σ H s) (hN : X.N.Nodup) (hi : X.N[i]? = some x) (hx : Loc X.env.scope x) (r : RelV v u)
    (h : ∀ s', Inv X pins (σ.set i (some v)) H s' → Q () s') (hf : X.fn x = true ∨ X.env.scope.names.lookup x = some .local := by first | exact .inl rfl | exact .inr rfl | assumption) : wpAny M A (storeName X.env x u) Q E s :=
  store_ok2 I hN hi hx r (fun s' I' _ => h s' I') hf
/-- behind a call or a block, the state as it is -/
theorem Inv.call' {s' : Shared} {ch : List Addr} (I : Inv X pins σ H s) (ho : s'.os = s.os) (u : Un (frs X.stack) ch H H' s.heap s'.heap) (hok : HOk X.prog X.w H' s'.heap) (hg : AllBare s'.gens)
    (hch : ∀ b ∈ ch, (b ∈ X.ex ∨ X.s₀.heap.objs.size ≤ b) ∧ b ≠ X.env.locals ∧ (∀ x c, X.env.cells.lookup x = some c → c ≠ b) ∧ ∀ p ∈ X.pn ++ pins, p.1 ≠ b) : Inv X pins σ H' s' := by
  obtain ⟨h', g', d', t', o'⟩ := s'
  have e : o' = s.os := ho
  subst e
  exact I.call (g' := g') (t' := t') (d' := d') u hok hg hch
end

/-! ### the judgements -/
/-- an exception: its class, its own dict's address (where it has one), the abstract heap behind it -/
abbrev XK := Value → Option Addr → Hp → Prop
abbrev St := List (Option V)
abbrev VK := V → Hp → Prop
/-- an expression's reading; a test's; an argument list's -/
abbrev TE := St → Hp → VK → Prop
abbrev TT := St → Hp → (Bool → Hp → Prop) → Prop
abbrev TA := St → Hp → (List V → Hp → Prop) → Prop
/-- what is wanted behind a statement -/
structure Ends where
  nx : St → Hp → Prop
  rt : VK
  bk : St → Hp → Prop := fun _ _ => False
  ct : St → Hp → Prop := fun _ _ => False
abbrev TS := Ends → St → Hp → Prop

def EP (X : Cx) (pins : List (Addr × Obj)) (σ : St) (Q : VK) (u : Value) (s' : Shared) : Prop := ∃ v H', Inv X pins σ H' s' ∧ RelV v u ∧ Q v H'
def TP (X : Cx) (pins : List (Addr × Obj)) (σ : St) (Q : Bool → Hp → Prop) (b : Bool) (s' : Shared) : Prop := ∃ H', Inv X pins σ H' s' ∧ Q b H'
def AP (X : Cx) (pins : List (Addr × Obj)) (σ : St) (Q : List V → Hp → Prop) (us : List Value) (s' : Shared) : Prop := ∃ vs H', Inv X pins σ H' s' ∧ Vals vs us ∧ Q vs H'
def SP (X : Cx) (pins : List (Addr × Obj)) (D : Ends) (f : Flow) (s' : Shared) : Prop :=
  match f with
  | .next => ∃ σ' H', Inv X pins σ' H' s' ∧ D.nx σ' H'
  | .brk => ∃ σ' H', Inv X pins σ' H' s' ∧ D.bk σ' H'
  | .cont => ∃ σ' H', Inv X pins σ' H' s' ∧ D.ct σ' H'
  | .ret u => ∃ v σ' H', Inv X pins σ' H' s' ∧ RelV v u ∧ D.rt v H'

def PE (X : Cx) (e : Expr) (t : TE) : Prop :=
  ∀ (pins : List (Addr × Obj)) (s : Shared) (σ : St) (H : Hp) (Q : VK), Inv X pins σ H s → t σ H Q → wpAny (model X.prog X.w) X.A (eval e X.env) (EP X pins σ Q) X.xe s
def PT (X : Cx) (e : Expr) (t : TT) : Prop :=
  ∀ (pins : List (Addr × Obj)) (s : Shared) (σ : St) (H : Hp) (Q : Bool → Hp → Prop), Inv X pins σ H s → t σ H Q → wpAny (model X.prog X.w) X.A (isTrue e X.env (eval e X.env)) (TP X pins σ Q) X.xe s
/-- a test whatever its 'whole' is (and, or) -/
def PW (X : Cx) (e : Expr) (t : TT) : Prop :=
  ∀ (whole : Sem Value) (pins : List (Addr × Obj)) (s : Shared) (σ : St) (H : Hp) (Q : Bool → Hp → Prop), Inv X pins σ H s → t σ H Q → wpAny (model X.prog X.w) X.A (isTrue e X.env whole) (TP X pins σ Q) X.xe s
theorem PW.pt {X : Cx} {e : Expr} {t : TT} (h : PW X e t) : PT X e t := h _
/-- an argument list (no star), from the left -/
def PA (X : Cx) (es : List Expr) (t : TA) : Prop :=
  ∀ (pos : Pos) (pins : List (Addr × Obj)) (s : Shared) (σ : St) (H : Hp) (Q : List V → Hp → Prop), Inv X pins σ H s → t σ H Q → wpAny (model X.prog X.w) X.A (spliced (backTo pos (starEach es X.env))) (AP X pins σ Q) X.xe s
def PS (X : Cx) (st : Stmt) (t : TS) : Prop :=
  ∀ (pins : List (Addr × Obj)) (s : Shared) (σ : St) (H : Hp) (D : Ends), Inv X pins σ H s → t D σ H → wpAny (model X.prog X.w) X.A (exec st X.env) (SP X pins D) X.xe s
def PSs (X : Cx) (st : List Stmt) (t : TS) : Prop :=
  ∀ (pins : List (Addr × Obj)) (s : Shared) (σ : St) (H : Hp) (D : Ends), Inv X pins σ H s → t D σ H → wpAny (model X.prog X.w) X.A (execs st X.env) (SP X pins D) X.xe s
/-- weaken the end -/
theorem thn {α : Type} {t : Sem α} {Q Q' : α → Shared → Prop} {M : Model} {A : Around} {E : Value → Shared → Prop} {s : Shared} (h : wpAny M A t Q E s) (hQ : ∀ a s, Q a s → Q' a s) : wpAny M A t Q' E s := wpAny_mono h hQ fun _ _ x => x
end L2

namespace L2
open PySem PySem.Spec PyProof.Rows
section
variable {X : Cx}

/-- two expressions in a row -/
theorem bin {a b : Expr} {ta tb : TE} (ha : PE X a ta) (hb : PE X b tb) {pins : List (Addr × Obj)} {s : Shared} {σ : St} {H : Hp} {R : V → V → Hp → Prop} (I : Inv X pins σ H s) (h : ta σ H fun x H1 => tb σ H1 fun y H2 => R x y H2)
    {α : Type} {Q : α → Shared → Prop} {f : Value → Value → Sem α}
    (hf : ∀ v u s2 x y H2, Inv X pins σ H2 s2 → RelV x v → RelV y u → R x y H2 → wpAny (model X.prog X.w) X.A (f v u) Q X.xe s2) :
    wpAny (model X.prog X.w) X.A (eval a X.env) (fun v s₁ => wpAny (model X.prog X.w) X.A (eval b X.env) (fun u s₂ => wpAny (model X.prog X.w) X.A (f v u) Q X.xe s₂) X.xe s₁) X.xe s := by
  refine thn (ha pins s σ H _ I h) fun v s1 ⟨x, H1, I1, r1, q1⟩ => ?_
  refine thn (hb pins s1 σ H1 _ I1 q1) fun u s2 ⟨y, H2, I2, r2, q2⟩ => ?_
  exact hf v u s2 x y H2 I2 r1 r2 q2

/-! ### names and constants -/
def tVar (i : Nat) : TE := fun σ H Q => ∃ v, σ[i]? = some (some v) ∧ Q v H
def tC (v : V) : TE := fun _ H Q => Q v H
theorem pe_var {i : Nat} {x : Str} {pos : Pos} (hN : X.N[i]? = some x) (hv : Vis X.env.scope x) (hd : (x == ("__debug__" : Str)) = false := by decide) (hcd : (x == ("__classdict__" : Str)) = false := by decide) : PE X (.Name x pos) (tVar i) := by
  intro pins s σ H Q I h
  obtain ⟨v, e, h⟩ := h
  obtain ⟨m, hn, hl⟩ := I.loc
  obtain ⟨u, r, l⟩ := hl i x v hN e hv
  have fin : EP X pins σ Q u s := ⟨v, H, I, r, h⟩
  rcases l with ⟨hk, hm⟩ | ⟨hk, c, hc, hcell⟩
  · exact wpAny_Name (wpAny_loadName_local I.ok.kind hk hn hm fin) hd
  · rcases hk with hk | hk
    · exact wpAny_Name (wpAny_loadName_cell I.ok.kind hk hc hcell fin) hd
    · exact wpAny_Name (wpAny_loadName_free I.ok.kind hk hc hcell fin hcd) hd
theorem pe_int {i j pos} : PE X (.Constant (.int i) j pos) (tC (.int i)) := fun _ _ _ H _ I h => wpAny_Constant_int ⟨.int i, H, I.tok _, ⟨_, rfl⟩, h⟩
theorem pe_bl {b j pos} : PE X (.Constant (.bool b) j pos) (tC (.bl b)) := fun _ _ _ H _ I h => Constant_bool ⟨.bl b, H, I, rfl, h⟩
theorem pe_non {j pos} : PE X (.Constant .none j pos) (tC .non) := fun _ _ _ H _ I h => Constant_none ⟨.non, H, I, rfl, h⟩
theorem pe_str {x j pos} : PE X (.Constant (.str x) j pos) (tC (.str x)) := fun _ _ _ H _ I h => Calls.Constant_str ⟨.str x, H, I.tok _, ⟨_, rfl⟩, h⟩

/-- a global name of the def -/
def Gl (X : Cx) (x : Str) : Prop := X.env.kindOf x = some .globalImplicit
theorem ld_glob {E : Value → Shared → Prop} {pins : List (Addr × Obj)} {s : Shared} {σ : St} {H : Hp} {x : Str} {u : Value} {pos : Pos} {Q : Value → Shared → Prop} (I : Inv X pins σ H s) (hg : Gl X x) (hm : X.mg x = some u) (h : Q u s)
    (hd : (x == ("__debug__" : Str)) = false := by decide) : wpAny (model X.prog X.w) X.A (eval (.Name x pos) X.env) Q E s :=
  Calls.Name_function_global I.ok.kind hg (Calls.loadGlobal_global (by rw [I.ok.glob]; exact I.mod.glob.keeps I.bk) hm h) hd
theorem ld_blt {E : Value → Shared → Prop} {pins : List (Addr × Obj)} {s : Shared} {σ : St} {H : Hp} {x : Str} {u : Value} {pos : Pos} {Q : Value → Shared → Prop} (I : Inv X pins σ H s) (hg : Gl X x) (hm : X.mg x = none) (hv : bootBuiltins x = some u) (h : Q u s)
    (hn : x ≠ "__name__" := by decide) (hd : (x == ("__debug__" : Str)) = false := by decide) : wpAny (model X.prog X.w) X.A (eval (.Name x pos) X.env) Q E s := by
  obtain ⟨mb, h1, h2⟩ := I.mod.blt
  exact Calls.Name_function_global I.ok.kind hg (Calls.loadGlobal_builtin (by rw [I.ok.glob]; exact I.mod.glob.keeps I.bk) hm (by rw [I.ok.blt]; exact h1.keeps I.bk) ((h2 x hn).trans hv) h) hd
/-- a module's constant, a class, a function, as a value -/
theorem pe_glob {x : Str} {v : V} {u : Value} {pos : Pos} (hg : Gl X x) (hm : X.mg x = some u) (r : RelV v u) (hd : (x == ("__debug__" : Str)) = false := by decide) : PE X (.Name x pos) (tC v) :=
  fun _ _ _ H _ I h => ld_glob I hg hm ⟨v, H, I, r, h⟩ hd
theorem pe_bltn {x : Str} {v : V} {u : Value} {pos : Pos} (hg : Gl X x) (hm : X.mg x = none) (hv : bootBuiltins x = some u) (r : RelV v u) (hn : x ≠ "__name__" := by decide) (hd : (x == ("__debug__" : Str)) = false := by decide) : PE X (.Name x pos) (tC v) :=
  fun _ _ _ H _ I h => ld_blt I hg hm hv ⟨v, H, I, r, h⟩ hn hd

/-! ### arithmetic -/
/-- two ints -/
def t2I (ta tb : TE) (k : Int → Int → Hp → Prop) : St → Hp → Prop := fun σ H => ta σ H fun x H1 => tb σ H1 fun y H2 => ∃ i j, x = .int i ∧ y = .int j ∧ k i j H2
def tAdd (ta tb : TE) : TE := fun σ H Q => t2I ta tb (fun i j H2 => Q (.int (i + j)) H2) σ H
def tSub (ta tb : TE) : TE := fun σ H Q => t2I ta tb (fun i j H2 => Q (.int (i - j)) H2) σ H
/-- the left factor below 2^64 -/
def tMul (ta tb : TE) : TE := fun σ H Q => t2I ta tb (fun i j H2 => (-(2 ^ 64) < i ∧ i < 2 ^ 64) ∧ Q (.int (i * j)) H2) σ H
variable {a b : Expr} {ta tb : TE} {pos : Pos}
theorem pe_add (ha : PE X a ta) (hb : PE X b tb) : PE X (.BinOp a .Add b pos) (tAdd ta tb) := by
  intro pins s σ H Q I h
  refine wpAny_BinOp (bin ha hb I h fun v u s2 x y H2 I2 rx ry q => ?_)
  obtain ⟨i, j, rfl, rfl, q⟩ := q
  obtain ⟨t, rfl⟩ := rx
  obtain ⟨t', rfl⟩ := ry
  exact add_int ⟨.int _, H2, I2.tok _, ⟨_, rfl⟩, q⟩
theorem pe_sub (ha : PE X a ta) (hb : PE X b tb) : PE X (.BinOp a .Sub b pos) (tSub ta tb) := by
  intro pins s σ H Q I h
  refine wpAny_BinOp (bin ha hb I h fun v u s2 x y H2 I2 rx ry q => ?_)
  obtain ⟨i, j, rfl, rfl, q⟩ := q
  obtain ⟨t, rfl⟩ := rx
  obtain ⟨t', rfl⟩ := ry
  exact sub_int ⟨.int _, H2, I2.tok _, ⟨_, rfl⟩, q⟩
theorem pe_mul (ha : PE X a ta) (hb : PE X b tb) : PE X (.BinOp a .Mult b pos) (tMul ta tb) := by
  intro pins s σ H Q I h
  refine wpAny_BinOp (bin ha hb I h fun v u s2 x y H2 I2 rx ry q => ?_)
  obtain ⟨i, j, rfl, rfl, ⟨q1, q2⟩, q⟩ := q
  obtain ⟨t, rfl⟩ := rx
  obtain ⟨t', rfl⟩ := ry
  exact mul_int ⟨.int _, H2, I2.tok _, ⟨_, rfl⟩, q⟩ (.of_left (intBits_le_64 q1 q2))

/-! ### comparisons -/
def PC (X : Cx) (op : CmpOp) (a b : Expr) (t : TE) : Prop :=
  ∀ (pins : List (Addr × Obj)) (s : Shared) (σ : St) (H : Hp) (Q : VK), Inv X pins σ H s → t σ H Q →
    wpAny (model X.prog X.w) X.A (eval a X.env) (fun v s₁ => wpAny (model X.prog X.w) X.A (eval b X.env) (fun u s₂ => wpAny (model X.prog X.w) X.A (compareOp op v u) (EP X pins σ Q) X.xe s₂) X.xe s₁) X.xe s
theorem nobehind (b : Expr) {op : CmpOp} (h : op ≠ .In) (h2 : op ≠ .NotIn) : behindInMarks op b = false := by
  have e1 : (op == CmpOp.In) = false := by cases op <;> first | rfl | exact absurd rfl h
  have e2 : (op == CmpOp.NotIn) = false := by cases op <;> first | rfl | exact absurd rfl h2
  cases b <;> simp [behindInMarks, e1, e2]
def tCmp (p : Int → Int → Bool) (ta tb : TE) : TE := fun σ H Q => t2I ta tb (fun i j H2 => Q (.bl (p i j)) H2) σ H
abbrev tLt : TE → TE → TE := tCmp fun i j => decide (i < j)
abbrev tLe : TE → TE → TE := tCmp fun i j => decide (i ≤ j)
abbrev tGt : TE → TE → TE := tCmp fun i j => decide (j < i)
abbrev tGe : TE → TE → TE := tCmp fun i j => decide (j ≤ i)
abbrev tEqI : TE → TE → TE := tCmp fun i j => decide (i = j)
abbrev tNeI : TE → TE → TE := tCmp fun i j => !decide (i = j)
/-- a comparison of two ints, by its rule -/
theorem pc_int {op : CmpOp} {p : Int → Int → Bool} (ha : PE X a ta) (hb : PE X b tb)
    (rule : ∀ (i j : Int) (t u : Tok) (Q : Value → Shared → Prop) (s : Shared), Q (.bool (p i j)) s → wpAny (model X.prog X.w) X.A (compareOp op (.int i t) (.int j u)) Q X.xe s) : PC X op a b (tCmp p ta tb) := by
  intro pins s σ H Q I h
  refine bin ha hb I h fun v u s2 x y H2 I2 rx ry q => ?_
  obtain ⟨i, j, rfl, rfl, q⟩ := q
  obtain ⟨t, rfl⟩ := rx
  obtain ⟨t', rfl⟩ := ry
  exact rule i j t t' _ s2 ⟨.bl _, H2, I2, rfl, q⟩
theorem pc_lt (ha : PE X a ta) (hb : PE X b tb) : PC X .Lt a b (tLt ta tb) := pc_int ha hb fun _ _ _ _ _ _ h => lt_int h
theorem pc_le (ha : PE X a ta) (hb : PE X b tb) : PC X .LtE a b (tLe ta tb) := pc_int ha hb fun _ _ _ _ _ _ h => le_int h
theorem pc_gt (ha : PE X a ta) (hb : PE X b tb) : PC X .Gt a b (tGt ta tb) := pc_int ha hb fun _ _ _ _ _ _ h => gt_int h
theorem pc_ge (ha : PE X a ta) (hb : PE X b tb) : PC X .GtE a b (tGe ta tb) := pc_int ha hb fun _ _ _ _ _ _ h => ge_int h
theorem pc_eqI (ha : PE X a ta) (hb : PE X b tb) : PC X .Eq a b (tEqI ta tb) := pc_int ha hb fun _ _ _ _ _ _ h => eq_int (by rw [Bool.beq_eq_decide_eq]; exact h)
theorem pc_neI (ha : PE X a ta) (hb : PE X b tb) : PC X .NotEq a b (tNeI ta tb) := pc_int ha hb fun _ _ _ _ _ _ h => ne_int (by rw [bne, Bool.beq_eq_decide_eq]; exact h)
/-- is None -/
def tIsN (ta : TE) : TE := fun σ H Q => ta σ H fun x H1 => Q (.bl (decide (x = .non))) H1
def tNotN (ta : TE) : TE := fun σ H Q => ta σ H fun x H1 => Q (.bl (!decide (x = .non))) H1
theorem RelV.none_iff {x : V} {v : Value} (r : RelV x v) : (v == Value.none) = decide (x = .non) := by
  cases x with
  | non => cases r; rfl
  | bl _ => cases r; rfl
  | int _ => obtain ⟨t, rfl⟩ := r; rfl
  | str _ => obtain ⟨t, rfl⟩ := r; rfl
  | byt _ => obtain ⟨t, rfl⟩ := r; rfl
  | flt _ => obtain ⟨t, rfl⟩ := r; rfl
  | ref _ => cases r; rfl
  | ty _ => cases r; rfl
theorem pc_isN {j pos'} (ha : PE X a ta) : PC X .Is a (.Constant .none j pos') (tIsN ta) := by
  intro pins s σ H Q I h
  refine thn (ha pins s σ H _ I h) fun v s1 ⟨x, H1, I1, r1, q1⟩ => ?_
  exact Constant_none (is_none_gen ⟨.bl _, H1, I1, by rw [r1.none_iff]; rfl, q1⟩)
theorem pc_notN {j pos'} (ha : PE X a ta) : PC X .IsNot a (.Constant .none j pos') (tNotN ta) := by
  intro pins s σ H Q I h
  refine thn (ha pins s σ H _ I h) fun v s1 ⟨x, H1, I1, r1, q1⟩ => ?_
  exact Constant_none (isnot_none_gen ⟨.bl _, H1, I1, by rw [r1.none_iff]; rfl, q1⟩)
/-- a comparison as a value, as a test -/
def tB (t : TE) : TT := fun σ H Q => t σ H fun x H1 => ∃ c, x = .bl c ∧ Q c H1
theorem pe_cmp {op : CmpOp} {t : TE} (h : PC X op a b t) (h1 : behindInMarks op b = false := by first | exact nobehind _ (by decide) (by decide) | rfl) : PE X (.Compare a [op] [b] pos) t := fun pins s σ H Q I hw => wpAny_Compare1 (h pins s σ H Q I hw) h1
theorem pt_cmp {op : CmpOp} {t : TE} (h : PC X op a b t) (h1 : behindInMarks op b = false := by first | exact nobehind _ (by decide) (by decide) | rfl) : PT X (.Compare a [op] [b] pos) (tB t) := by
  intro pins s σ H Q I hw
  refine wpAny_isTrue_Compare1 (thn (h pins s σ H _ I hw) fun v s1 h1 => thn h1 fun u s2 h2 => thn h2 fun c s3 ⟨x, H1, I1, r1, q1⟩ => ?_) h1
  obtain ⟨d, rfl, q⟩ := q1
  cases r1
  exact wpAny_truthy_bool ⟨H1, I1, q⟩
/-- an expression whose value is a bool, as a test -/
theorem pt_val {e : Expr} {t : TE} (h : PE X e t) (he : ∀ whole, isTrue e X.env whole = (do let v ← whole; standAt e.pos; holding [v] (truthy v)) := by intro _; rfl) : PT X e (tB t) := by
  intro pins s σ H Q I hw
  refine isTrue_plain (thn (h pins s σ H _ I hw) fun v s1 ⟨x, H1, I1, r1, q1⟩ => ?_) (he _)
  obtain ⟨d, rfl, q⟩ := q1
  cases r1
  exact wpAny_truthy_bool ⟨H1, I1, q⟩

/-! ### and, or, not -/
variable {tA tB' : TT} {rest : List Expr}
def tAnd (t u : TT) : TT := fun σ H Q => t σ H fun c H1 => if c = true then u σ H1 Q else Q false H1
def tOr (t u : TT) : TT := fun σ H Q => t σ H fun c H1 => if c = true then Q true H1 else u σ H1 Q
def tNot (t : TT) : TT := fun σ H Q => t σ H fun c H1 => Q (!c) H1
theorem pw_and1 (ha : PT X a tA) : PW X (.BoolOp .And [a] pos) tA := by
  intro wh pins s σ H Q I h
  refine isTrue_and (thn (ha pins s σ H Q I h) fun c s1 e => ?_)
  cases c with
  | true => exact isTrue_and_nil e
  | false => exact e
theorem pw_or1 (ha : PT X a tA) : PW X (.BoolOp .Or [a] pos) tA := by
  intro wh pins s σ H Q I h
  refine isTrue_or (thn (ha pins s σ H Q I h) fun c s1 e => ?_)
  cases c with
  | false => exact isTrue_or_nil e
  | true => exact e
theorem pw_and (ha : PT X a tA) (hb : PW X (.BoolOp .And (b :: rest) pos) tB') : PW X (.BoolOp .And (a :: b :: rest) pos) (tAnd tA tB') := by
  intro wh pins s σ H Q I h
  refine isTrue_and (thn (ha pins s σ H _ I h) fun c s1 ⟨H1, I1, q1⟩ => ?_)
  cases c with
  | true => exact hb wh pins s1 σ H1 Q I1 q1
  | false => exact ⟨H1, I1, q1⟩
theorem pw_or (ha : PT X a tA) (hb : PW X (.BoolOp .Or (b :: rest) pos) tB') : PW X (.BoolOp .Or (a :: b :: rest) pos) (tOr tA tB') := by
  intro wh pins s σ H Q I h
  refine isTrue_or (thn (ha pins s σ H _ I h) fun c s1 ⟨H1, I1, q1⟩ => ?_)
  cases c with
  | true => exact ⟨H1, I1, q1⟩
  | false => exact hb wh pins s1 σ H1 Q I1 q1
theorem pt_not (ha : PT X a tA) : PT X (.UnaryOp .Not a pos) (tNot tA) := by
  intro pins s σ H Q I h
  exact isTrue_not (ha pins s σ H (fun c H1 => Q (!c) H1) I h)
/-- .. as values (bools) -/
def tAndV (ta tb : TE) : TE := fun σ H Q => ta σ H fun x H1 => ∃ c, x = .bl c ∧ if c = true then tb σ H1 Q else Q (.bl false) H1
def tOrV (ta tb : TE) : TE := fun σ H Q => ta σ H fun x H1 => ∃ c, x = .bl c ∧ if c = true then Q (.bl true) H1 else tb σ H1 Q
def tNotV (ta : TE) : TE := fun σ H Q => ta σ H fun x H1 => ∃ c, x = .bl c ∧ Q (.bl (!c)) H1
theorem pe_one {op} {t : TE} (h : PE X a t) : PE X (.BoolOp op [a] pos) t := fun pins s σ H Q I hw => BoolOp_one (h pins s σ H Q I hw)
theorem pe_and (ha : PE X a ta) (hb : PE X (.BoolOp .And (b :: rest) pos) tb) : PE X (.BoolOp .And (a :: b :: rest) pos) (tAndV ta tb) := by
  intro pins s σ H Q I h
  refine BoolOp_and (thn (ha pins s σ H _ I h) fun v s1 ⟨x, H1, I1, r1, q1⟩ => ?_)
  obtain ⟨c, rfl, q1⟩ := q1
  cases r1
  refine wpAny_truthy_bool ?_
  cases c with
  | true => exact hb pins s1 σ H1 Q I1 q1
  | false => exact ⟨.bl false, H1, I1, rfl, q1⟩
theorem pe_or (ha : PE X a ta) (hb : PE X (.BoolOp .Or (b :: rest) pos) tb) : PE X (.BoolOp .Or (a :: b :: rest) pos) (tOrV ta tb) := by
  intro pins s σ H Q I h
  refine BoolOp_or (thn (ha pins s σ H _ I h) fun v s1 ⟨x, H1, I1, r1, q1⟩ => ?_)
  obtain ⟨c, rfl, q1⟩ := q1
  cases r1
  refine wpAny_truthy_bool ?_
  cases c with
  | false => exact hb pins s1 σ H1 Q I1 q1
  | true => exact ⟨.bl true, H1, I1, rfl, q1⟩
theorem pe_not (ha : PE X a ta) : PE X (.UnaryOp .Not a pos) (tNotV ta) := by
  intro pins s σ H Q I h
  refine UnaryOp_ (thn (ha pins s σ H _ I h) fun v s1 ⟨x, H1, I1, r1, q1⟩ => ?_)
  obtain ⟨c, rfl, q1⟩ := q1
  cases r1
  exact not_of (wpAny_truthy_bool ⟨.bl (!c), H1, I1, rfl, q1⟩)
/-- a if t else b -/
def tIf (t : TT) (ta tb : TE) : TE := fun σ H Q => t σ H fun c H1 => if c = true then ta σ H1 Q else tb σ H1 Q
theorem pe_ifExp {c : Expr} (hc : PT X c tA) (ha : PE X a ta) (hb : PE X b tb) : PE X (.IfExp c a b pos) (tIf tA ta tb) := by
  intro pins s σ H Q I h
  refine wpAny_IfExp (thn (hc pins s σ H _ I h) fun d s1 ⟨H1, I1, q1⟩ => ?_)
  cases d with
  | true => exact ha pins s1 σ H1 Q I1 q1
  | false => exact hb pins s1 σ H1 Q I1 q1
end
end L2

namespace L2
open PySem PySem.Spec PyProof.Rows

/-! ### a list, a tuple that is read: tracked, frozen, or an object of the module -/
def SqL (K : PySem.W.Frag) (H : Hp) (a : Addr) (xs : List V) : Prop :=
  Rd H a (.lst xs) ∨
    ∃ (o : Obj) (its : Array Value) (n : Nat), K.lookup a = some o ∧ o.cls = .type "list" ∧ o.dict = none ∧ o.data = .seq its n ∧ its.size ≤ sizeLine ∧ Vals xs its.toList
def SqT (K : PySem.W.Frag) (H : Hp) (a : Addr) (xs : List V) : Prop :=
  Rd H a (.tup xs) ∨
    ∃ (o : Obj) (its : Array Value) (n : Nat), K.lookup a = some o ∧ o.cls = .type "tuple" ∧ o.data = .seq its n ∧ its.size ≤ sizeLine ∧ Vals xs its.toList
def absV : Value → Option V
  | .none => some .non
  | .bool b => some (.bl b)
  | .int i _ => some (.int i)
  | .str x _ => some (.str x)
  | .bytes b _ => some (.byt b)
  | .float b _ => some (.flt b)
  | .ref a => some (.ref a)
  | .type n => some (.ty n)
  | _ => none
theorem RelV.abs {x : V} {u : Value} (r : RelV x u) : absV u = some x := by
  cases x with
  | non => cases r; rfl
  | bl _ => cases r; rfl
  | int _ => obtain ⟨t, rfl⟩ := r; rfl
  | str _ => obtain ⟨t, rfl⟩ := r; rfl
  | byt _ => obtain ⟨t, rfl⟩ := r; rfl
  | flt _ => obtain ⟨t, rfl⟩ := r; rfl
  | ref _ => cases r; rfl
  | ty _ => cases r; rfl
theorem RelV.inj {x y : V} {u : Value} (r : RelV x u) (q : RelV y u) : x = y := Option.some.inj (r.abs.symm.trans q.abs)
theorem Vals.inj : ∀ {xs ys : List V} {us : List Value}, Vals xs us → Vals ys us → xs = ys
  | _, _, _, .nil, .nil => rfl
  | _, _, _, .cons r t, .cons r' t' => by rw [r.inj r', Vals.inj t t']
section
variable {X : Cx} {pins : List (Addr × Obj)} {σ : St} {H : Hp} {s : Shared} {a : Addr} {xs ys : List V}
theorem SqL.of {K : PySem.W.Frag} (h : H a = some (.lst xs)) : SqL K H a xs := .inl (.inl h)
theorem SqT.of {K : PySem.W.Frag} (h : H a = some (.tup xs)) : SqT K H a xs := .inl (.inl h)
theorem Inv.list (I : Inv X pins σ H s) (h : SqL X.K H a xs) : ∃ its : List Value, Vals xs its ∧ PlainL s.heap a its.toArray ∧ xs.length ≤ sizeLine := by
  rcases h with h | ⟨o, its, n, hk, hc, hd, hs, hz, r⟩
  · obtain ⟨z, its, n, r, e⟩ := h.ok I.hok
    exact ⟨its, r, ⟨_, n, e, rfl, rfl, rfl⟩, z⟩
  · refine ⟨its.toList, r, ⟨o, n, I.kIn a o hk, hc, hd, by simpa using hs⟩, ?_⟩
    have e := r.length
    simp only [Array.length_toList] at e
    omega
theorem Inv.tuple (I : Inv X pins σ H s) (h : SqT X.K H a xs) : ∃ its : List Value, Vals xs its ∧ IsTup s.heap a its.toArray ∧ xs.length ≤ sizeLine := by
  rcases h with h | ⟨o, its, n, hk, hc, hs, hz, r⟩
  · obtain ⟨z, its, r, p⟩ := h.ok I.hok
    exact ⟨its, r, p, z⟩
  · refine ⟨its.toList, r, ⟨o, I.kIn a o hk, hc, n, by simpa using hs⟩, ?_⟩
    have e := r.length
    simp only [Array.length_toList] at e
    omega
theorem Inv.list_inj (I : Inv X pins σ H s) (h : SqL X.K H a xs) (h' : SqL X.K H a ys) : xs = ys := by
  obtain ⟨its, r, ⟨o, n, e, _, _, d⟩, _⟩ := I.list h
  obtain ⟨its', r', ⟨o', n', e', _, _, d'⟩, _⟩ := I.list h'
  rw [e] at e'; cases e'
  rw [d] at d'
  injection d' with d1 _
  have : its = its' := by simpa using congrArg Array.toList d1
  subst this
  exact r.inj r'
theorem Inv.tuple_inj (I : Inv X pins σ H s) (h : SqT X.K H a xs) (h' : SqT X.K H a ys) : xs = ys := by
  obtain ⟨its, r, ⟨o, e, _, n, d⟩, _⟩ := I.tuple h
  obtain ⟨its', r', ⟨o', e', _, n', d'⟩, _⟩ := I.tuple h'
  rw [e] at e'; cases e'
  rw [d] at d'
  injection d' with d1 _
  have : its = its' := by simpa using congrArg Array.toList d1
  subst this
  exact r.inj r'
end

/-! ### another wish about exceptions -/
abbrev Cx.wish (X : Cx) (E : Value → Shared → Prop) : Cx := { X with xe := E }
/-- no exception leaves -/
abbrev Cx.nox (X : Cx) : Cx := X.wish fun _ _ => False
theorem Cx.Ok.wish {X : Cx} (ok : X.Ok) (E : Value → Shared → Prop) : (X.wish E).Ok :=
  ⟨ok.mod, ok.kind, ok.glob, ok.blt, ok.above, ok.inj, ok.has, ok.cab, ok.hd, ok.frames, ok.stk, ok.exf, ok.bs, ok.bsz, ok.noex, ok.exfs, ok.funs, ok.frf⟩
theorem Cx.Ok.unwish {X : Cx} {E : Value → Shared → Prop} (ok : (X.wish E).Ok) : X.Ok :=
  ⟨ok.mod, ok.kind, ok.glob, ok.blt, ok.above, ok.inj, ok.has, ok.cab, ok.hd, ok.frames, ok.stk, ok.exf, ok.bs, ok.bsz, ok.noex, ok.exfs, ok.funs, ok.frf⟩
section
variable {X : Cx} {pins : List (Addr × Obj)} {σ : St} {H : Hp} {s : Shared} {E : Value → Shared → Prop}
theorem Inv.wish (I : Inv X pins σ H s) (E : Value → Shared → Prop) : Inv (X.wish E) pins σ H s := ⟨I.ok.wish E, I.os, I.bare, I.base, I.loc, I.cell, I.free, I.freeC, I.pin, I.hok, I.len⟩
theorem Inv.unwish (I : Inv (X.wish E) pins σ H s) : Inv X pins σ H s := ⟨I.ok.unwish, I.os, I.bare, I.base, I.loc, I.cell, I.free, I.freeC, I.pin, I.hok, I.len⟩
theorem SP.unwish {D : Ends} {f : Flow} {s' : Shared} (h : SP (X.wish E) pins D f s') : SP X pins D f s' := by
  cases f with
  | next => obtain ⟨σ', H', I, q⟩ := h; exact ⟨σ', H', I.unwish, q⟩
  | brk => obtain ⟨σ', H', I, q⟩ := h; exact ⟨σ', H', I.unwish, q⟩
  | cont => obtain ⟨σ', H', I, q⟩ := h; exact ⟨σ', H', I.unwish, q⟩
  | ret u => obtain ⟨v, σ', H', I, r, q⟩ := h; exact ⟨v, σ', H', I.unwish, r, q⟩
theorem PE.nox {e : Expr} {t : TE} (h : PE X.nox e t) : PE X e t := fun pins s σ H Q I hw =>
  wpAny_mono (h pins s σ H Q (I.wish _) hw) (fun _ _ ⟨v, H', I', r, q⟩ => ⟨v, H', I'.unwish, r, q⟩) fun _ _ z => False.elim z
theorem PT.nox {e : Expr} {t : TT} (h : PT X.nox e t) : PT X e t := fun pins s σ H Q I hw =>
  wpAny_mono (h pins s σ H Q (I.wish _) hw) (fun _ _ ⟨H', I', q⟩ => ⟨H', I'.unwish, q⟩) fun _ _ z => False.elim z
theorem PSs.nox {st : List Stmt} {t : TS} (h : PSs X.nox st t) : PSs X st t := fun pins s σ H D I hw =>
  wpAny_mono (h pins s σ H D (I.wish _) hw) (fun _ _ q => q.unwish) fun _ _ z => False.elim z
end

/-! ### blocks and small statements -/
section
variable {X : Cx} {st : Stmt} {rest : List Stmt} {t u : TS} {e : Expr} {te : TE} {pos : Pos}
def tNext : TS := fun D σ H => D.nx σ H
def tSeq (t u : TS) : TS := fun D σ H => t { D with nx := u D } σ H
theorem pss_nil : PSs X [] tNext := fun _ _ σ H _ I h => wpAny_execs_nil ⟨σ, H, I, h⟩
theorem pss_cons (h1 : PS X st t) (h2 : PSs X rest u) : PSs X (st :: rest) (tSeq t u) := by
  intro pins s σ H D I h
  refine wpAny_execs_cons (thn (h1 pins s σ H { D with nx := u D } I h) fun f s1 q => ?_)
  cases f with
  | next =>
    obtain ⟨σ', H', I', q⟩ := q
    exact h2 pins s1 σ' H' D I' q
  | ret v => exact q
  | brk => exact q
  | cont => exact q
theorem pss_one (h1 : PS X st t) : PSs X [st] t := by
  intro pins s σ H D I h
  refine wpAny_execs_cons (thn (h1 pins s σ H D I h) fun f s1 q => ?_)
  cases f with
  | next => exact wpAny_execs_nil q
  | ret v => exact q
  | brk => exact q
  | cont => exact q
def tBreak : TS := fun D σ H => D.bk σ H
def tCont : TS := fun D σ H => D.ct σ H
theorem ps_pass : PS X (.Pass pos) tNext := fun _ _ σ H _ I h => wpAny_Pass ⟨σ, H, I, h⟩
theorem ps_break : PS X (.Break pos) tBreak := fun _ _ σ H _ I h => wpAny_Break ⟨σ, H, I, h⟩
theorem ps_continue : PS X (.Continue pos) tCont := fun _ _ σ H _ I h => wpAny_Continue ⟨σ, H, I, h⟩
/-- in a def's body nothing is shown -/
theorem Inv.quiet {pins : List (Addr × Obj)} {σ : St} {H : Hp} {s : Shared} (I : Inv X pins σ H s) : interactive X.env = false := by simp [interactive, I.ok.kind]
/-- a docstring -/
theorem ps_doc {x j pos pos'} : PS X (.Expr (.Constant (.str x) j pos) pos') tNext := fun _ s σ H _ I h => wpAny_Expr (Calls.Constant_str (show SP X _ _ .next { s with toks := s.toks + 1 } from ⟨σ, H, I.tok _, h⟩)) I.quiet
/-- an expression whose value is dropped -/
def tDrop (te : TE) : TS := fun D σ H => te σ H fun _ H1 => D.nx σ H1
theorem ps_expr (he : PE X e te) (hs : swapsWith e none pos.line X.env = pure false := by rfl) : PS X (.Expr e pos) (tDrop te) := by
  intro pins s σ H D I h
  exact wpAny_Expr_any (thn (he pins s σ H _ I h) fun v s1 ⟨x, H1, I1, r1, q1⟩ => ⟨σ, H1, I1, q1⟩) I.quiet hs
def tRet (te : TE) : TS := fun D σ H => te σ H D.rt
theorem ps_ret (he : PE X e te) : PS X (.Return (some e) pos) (tRet te) := by
  intro pins s σ H D I h
  exact wpAny_Return_some (thn (he pins s σ H _ I h) fun v s1 ⟨x, H1, I1, r1, q1⟩ => ⟨x, σ, H1, I1, r1, q1⟩)
def tRetN : TS := fun D _ H => D.rt .non H
theorem ps_retN : PS X (.Return none pos) tRetN := fun _ _ σ H _ I h => wpAny_Return_none ⟨.non, σ, H, I, rfl, h⟩
def tIfS (c : TT) (t u : TS) : TS := fun D σ H => c σ H fun b H1 => if b = true then t D σ H1 else u D σ H1
theorem ps_if {c : Expr} {a b : List Stmt} {tc : TT} (hc : PT X c tc) (ha : PSs X a t) (hb : PSs X b u) : PS X (.If c a b pos) (tIfS tc t u) := by
  intro pins s σ H D I h
  refine wpAny_If (thn (hc pins s σ H _ I h) fun d s1 ⟨H1, I1, q1⟩ => ?_)
  cases d with
  | true => exact ha pins s1 σ H1 D I1 q1
  | false => exact hb pins s1 σ H1 D I1 q1
/-- code that the proof never comes to -/
def tNever : TS := fun _ _ _ => False
theorem ps_never : PS X st tNever := fun _ _ _ _ _ _ h => h.elim
theorem pss_never {sts : List Stmt} : PSs X sts tNever := fun _ _ _ _ _ _ h => h.elim
end

/-! ### targets -/
abbrev TG := V → St → Hp → (St → Hp → Prop) → Prop
abbrev TGs := List V → St → Hp → (St → Hp → Prop) → Prop
def PG (X : Cx) (target : Expr) (t : TG) : Prop :=
  ∀ (pins : List (Addr × Obj)) (s : Shared) (σ : St) (H : Hp) (v : V) (u : Value) (Q : St → Hp → Prop), Inv X pins σ H s → RelV v u → t v σ H Q →
    wpAny (model X.prog X.w) X.A (assign target X.env u) (fun _ s' => ∃ σ' H', Inv X pins σ' H' s' ∧ Q σ' H') X.xe s
/-- several targets, one after another -/
def PGs (X : Cx) (ts : List Expr) (t : TGs) : Prop :=
  ∀ (pins : List (Addr × Obj)) (s : Shared) (σ : St) (H : Hp) (vs : List V) (us : List Value) (Q : St → Hp → Prop), Inv X pins σ H s → Vals vs us → t vs σ H Q →
    wpAny (model X.prog X.w) X.A (assignInOrder ((assignEach ts X.env).map (·.2)) us) (fun _ s' => ∃ σ' H', Inv X pins σ' H' s' ∧ Q σ' H') X.xe s
/-- o[i] = v, by values -/
abbrev TSet := V → V → V → Hp → (Hp → Prop) → Prop
def PSet (X : Cx) (t : TSet) : Prop :=
  ∀ (pins : List (Addr × Obj)) (s : Shared) (σ : St) (H : Hp) (o i v : V) (ov iv u : Value) (Q : Hp → Prop), Inv X pins σ H s → RelV o ov → RelV i iv → RelV v u → t o i v H Q →
    wpAny (model X.prog X.w) X.A (setItem ov iv u) (fun _ s' => ∃ H', Inv X pins σ H' s' ∧ Q H') X.xe s
/-- a op= b, by values -/
abbrev TIp := V → V → Hp → VK → Prop
def PIp (X : Cx) (op : Operator) (t : TIp) : Prop :=
  ∀ (pins : List (Addr × Obj)) (s : Shared) (σ : St) (H : Hp) (x y : V) (v u : Value) (Q : VK), Inv X pins σ H s → RelV x v → RelV y u → t x y H Q →
    wpAny (model X.prog X.w) X.A (inplaceOp op v u) (EP X pins σ Q) X.xe s
section
variable {X : Cx} {pos : Pos}
def gName (i : Nat) : TG := fun v σ H Q => Q (σ.set i (some v)) H
theorem pg_name {i : Nat} {x : Str} (hN : X.N.Nodup) (hi : X.N[i]? = some x) (hx : Loc X.env.scope x) (hf : X.fn x = true ∨ X.env.scope.names.lookup x = some .local := by first | exact .inl rfl | exact .inr rfl | assumption) : PG X (.Name x pos) (gName i) := by
  intro pins s σ H v u Q I r h
  exact wpAny_assign_Name (store_ok I hN hi hx r (fun s' I' => ⟨_, H, I', h⟩) hf)
def gNil : TGs := fun vs σ H Q => vs = [] ∧ Q σ H
def gCons (t : TG) (u : TGs) : TGs := fun vs σ H Q => ∃ v r, vs = v :: r ∧ t v σ H fun σ' H' => u r σ' H' Q
theorem pgs_nil : PGs X [] gNil := by
  intro pins s σ H vs us Q I r h
  obtain ⟨e, h⟩ := h
  subst e
  cases r
  exact assignInOrder_nil ⟨σ, H, I, h⟩
theorem pgs_cons {e : Expr} {es : List Expr} {t : TG} {u : TGs} (h1 : PG X e t) (h2 : PGs X es u)
    (hs : (assignEach (e :: es) X.env).map (·.2) = assign e X.env :: (assignEach es X.env).map (·.2) := by rfl) : PGs X (e :: es) (gCons t u) := by
  intro pins s σ H vs us Q I r h
  obtain ⟨v, vr, e1, h⟩ := h
  subst e1
  cases r with
  | cons r rr =>
    rw [hs]
    refine assignInOrder_cons (thn (h1 pins s σ H _ _ _ I r h) fun _ s1 ⟨σ1, H1, I1, q1⟩ => ?_)
    exact h2 pins s1 σ1 H1 _ _ Q I1 rr q1
/-- (a, b, ..) = a tuple of that length -/
def gTup (K : PySem.W.Frag) (n : Nat) (t : TGs) : TG := fun v σ H Q => ∃ a xs, v = .ref a ∧ SqT K H a xs ∧ xs.length = n ∧ t xs σ H Q
theorem pg_tup {es : List Expr} {k : Nat} {t : TGs} {n : Nat} (hc : X.calm = true) (h : PGs X es t)
    (hn : (assignEach es X.env).length = n := by rfl) (hst : (assignEach es X.env).findIdx? (·.1) = none := by rfl) : PG X (.Tuple es k pos) (gTup X.K n t) := by
  intro pins s σ H v u Q I r hw
  obtain ⟨a, xs, e1, hq, hl, hw⟩ := hw
  subst e1
  cases r
  obtain ⟨its, rv, ht, hz⟩ := I.tuple hq
  refine assign_Tuple_tuple (I.ok.hd hc) ht (by simp [hn, ← hl, rv.length]) hst fun h' hx => ?_
  have I1 : Inv X pins σ H { s with heap := h' } := I.kept (t' := s.toks) fun b o e => hx b o (Nat.ne_of_lt (Heap.lt_size e)) e
  exact h pins _ σ H xs _ Q I1 (by simpa using rv) hw
/-- o[i] = .. -/
def gSub (to ti : TE) (t : TSet) : TG := fun v σ H Q => to σ H fun o H1 => ti σ H1 fun i H2 => t o i v H2 fun H3 => Q σ H3
theorem pg_sub {o i : Expr} {to ti : TE} {t : TSet} (ho : PE X o to) (hi : PE X i ti) (hs : PSet X t)
    (ha : ∀ v, assign (.Subscript o i pos) X.env v = (do
      let ov ← holding [v] (eval o X.env)
      let iv ← holding [v, ov] (eval i X.env)
      standAt pos
      holding [v, ov, iv] (setItem ov iv v)
      release [v, ov, iv] []) := by intro _; rfl) : PG X (.Subscript o i pos) (gSub to ti t) := by
  intro pins s σ H v u Q I r h
  rw [ha]
  refine wpAny_bind (wpAny_holding (thn (ho pins s σ H _ I h) fun ov s1 ⟨x, H1, I1, r1, q1⟩ => ?_))
  refine wpAny_bind (wpAny_holding (thn (hi pins s1 σ H1 _ I1 q1) fun iv s2 ⟨y, H2, I2, r2, q2⟩ => ?_))
  refine wpAny_bind (wpAny_standAt (wpAny_bind (wpAny_holding (thn (hs pins s2 σ H2 x y v ov iv u _ I2 r1 r2 r q2) fun _ s3 ⟨H3, I3, q3⟩ => ?_))))
  exact wpAny_release ⟨σ, H3, I3, q3⟩
/-- target = value -/
def tAsg (te : TE) (g : TG) : TS := fun D σ H => te σ H fun x H1 => g x σ H1 D.nx
theorem ps_asg {tg e : Expr} {te : TE} {g : TG} (he : PE X e te) (hg : PG X tg g) (hs : swapsWithSole [tg] e pos.line X.env = pure false := by rfl) (hw : swappedStores [tg] e X.env = pure none := by rfl)
    (h1 : (assignEach [tg] X.env).map (·.2) = [assign tg X.env] := by rfl) : PS X (.Assign [tg] e pos) (tAsg te g) := by
  intro pins s σ H D I h
  refine wpAny_Assign_stores (thn (he pins s σ H _ I h) fun v s1 ⟨x, H1, I1, r1, q1⟩ => ?_) hs hw
  rw [h1]
  exact thn (hg pins s1 σ H1 x v _ I1 r1 q1) fun _ s2 q => q
/-- name = value -/
theorem ps_set {i : Nat} {x : Str} {e : Expr} {te : TE} {pos' : Pos} (hN : X.N.Nodup) (hi : X.N[i]? = some x) (hx : Loc X.env.scope x) (he : PE X e te) (hs : swapsWith e (some (.Name x pos')) pos.line X.env = pure false := by rfl) (hf : X.fn x = true ∨ X.env.scope.names.lookup x = some .local := by first | exact .inl rfl | exact .inr rfl | assumption) :
    PS X (.Assign [.Name x pos'] e pos) (tAsg te (gName i)) := by
  intro pins s σ H D I h
  refine wpAny_Assign_Name (thn (he pins s σ H _ I h) fun v s1 ⟨y, H1, I1, r1, q1⟩ => ?_) hs
  exact store_ok I1 hN hi hx r1 (fun s2 I2 => ⟨_, H1, I2, q1⟩) hf
/-- a, b = x, y with plain local names: stored from the right; the pair itself is not tracked (the opening rows as in PyProof/Rows/TupAssign.lean:23) -/
def tPar (i j : Nat) (ta : TA) : TS := fun D σ H => ta σ H fun vs H1 => ∃ v w, vs = [v, w] ∧ D.nx ((σ.set i (some v)).set j (some w)) H1
theorem ps_par {i j : Nat} {x y : Str} {a b : Expr} {ta : TA} {px py pt : Pos} {kt k2 pt2} (hc : X.calm = true) (hN : X.N.Nodup) (hi : X.N[i]? = some x) (hj : X.N[j]? = some y) (hij : i ≠ j)
    (hx : X.env.scope.names.lookup x = some .local) (hy : X.env.scope.names.lookup y = some .local) (ha : PA X [a, b] ta)
    (hw : swappedStores [.Tuple [.Name x px, .Name y py] kt pt] (.Tuple [a, b] k2 pt2) X.env = pure (some [x, y]))
    (hs : swapsWithSole [.Tuple [.Name x px, .Name y py] kt pt] (.Tuple [a, b] k2 pt2) pos.line X.env = pure false := by rfl) :
    PS X (.Assign [.Tuple [.Name x px, .Name y py] kt pt] (.Tuple [a, b] k2 pt2) pos) (tPar i j ta) := by
  intro pins s σ H D I h
  rw [exec_Assign_arm]
  refine wpAny_bind (wpAny_standAt ?_)
  rw [hs]
  refine wpAny_bind (wpAny_pure ?_)
  rw [if_neg (by decide)]
  refine wpAny_bind (Tuple_ (thn (ha _ pins s σ H _ I h) fun us s1 ⟨vs, H1, I1, r1, q1⟩ => ?_))
  obtain ⟨v, w, e1, q1⟩ := q1
  subst e1
  obtain ⟨u1, u2, rfl, rv, rw'⟩ : ∃ u1 u2, us = [u1, u2] ∧ RelV v u1 ∧ RelV w u2 := by
    cases r1 with
    | cons p q =>
      cases q with
      | cons p' q' =>
        cases q'
        exact ⟨_, _, rfl, p, p'⟩
  refine wpAny_newObj_type ?_ (by show 2 ≤ sizeLine; decide)
  have I2 : Inv X pins σ H1 { s1 with heap := s1.heap.push { cls := .type "tuple", data := .seq [u1, u2].toArray } } := I1.kept (t' := s1.toks) fun b o e => Heap.get?_push_of_some _ e
  rw [hw]
  refine wpAny_bind (wpAny_pure ?_)
  show wpAny (model X.prog X.w) X.A (do rule "assign.swapped-stores"; let items ← unpackItems (.ref s1.heap.objs.size) 2 none; assignInOrder [fun v => bindName X.env y v, fun v => bindName X.env x v] items.reverse; pure Flow.next) _ _ _
  refine wpAny_bind (wpAny_rule (wpAny_bind (unpackItems_tuple (items := #[u1, u2]) (I.ok.hd hc) (IsTup.new s1.heap _) fun h' hx' => ?_)))
  have I3 := I2.kept (h' := h') (t' := s1.toks) fun b o e => hx' b o (Nat.ne_of_lt (Heap.lt_size e)) e
  show wpAny _ _ (assignInOrder [fun v => bindName X.env y v, fun v => bindName X.env x v] [u2, u1] >>= fun _ => pure Flow.next) _ _ _
  refine wpAny_bind (assignInOrder_cons (wpAny_bindName (store_ok I3 hN hj (.inl hy) rw' (fun s2 I4 => ?_) (.inr hy))))
  refine assignInOrder_cons (wpAny_bindName (store_ok I4 hN hi (.inl hx) rv (fun s3 I5 => assignInOrder_nil (wpAny_pure ?_)) (.inr hx)))
  rw [List.set_comm _ _ (Ne.symm hij)] at I5
  exact ⟨_, H1, I5, q1⟩
/-- name op= e -/
def tAug (i : Nat) (te : TE) (ti : TIp) : TS := fun D σ H => ∃ x, σ[i]? = some (some x) ∧ te σ H fun y H1 => ti x y H1 fun z H2 => D.nx (σ.set i (some z)) H2
theorem ps_aug {i : Nat} {x : Str} {e : Expr} {te : TE} {op : Operator} {ti : TIp} {pos' : Pos} (hN : X.N.Nodup) (hi : X.N[i]? = some x) (hx : Loc X.env.scope x) (he : PE X e te) (ho : PIp X op ti) (hf : X.fn x = true ∨ X.env.scope.names.lookup x = some .local := by first | exact .inl rfl | exact .inr rfl | assumption) :
    PS X (.AugAssign (.Name x pos') op e pos) (tAug i te ti) := by
  intro pins s σ H D I h
  obtain ⟨v, e1, h⟩ := h
  obtain ⟨m, hn, hl⟩ := I.loc
  have vis : Vis X.env.scope x := by rcases hx with k | k; exact .inl k; exact .inr (.inl k)
  obtain ⟨u, r, l⟩ := hl i x v hi e1 vis
  refine wpAny_AugAssign_Name ?_
  have go : wpAny (model X.prog X.w) X.A (eval e X.env) (fun w s₂ => wpAny (model X.prog X.w) X.A (inplaceOp op u w) (fun r s₃ => wpAny (model X.prog X.w) X.A (storeName X.env x r) (fun _ => SP X pins D .next) X.xe s₃) X.xe s₂) X.xe s := by
    refine thn (he pins s σ H _ I h) fun w s1 ⟨y, H1, I1, r1, q1⟩ => ?_
    refine thn (ho pins s1 σ H1 v y u w _ I1 r r1 q1) fun z s2 ⟨zv, H2, I2, r2, q2⟩ => ?_
    exact store_ok I2 hN hi hx r2 (fun s3 I3 => ⟨_, H2, I3, q2⟩) hf
  rcases l with ⟨hk, hm⟩ | ⟨hk, c, hc, hcell⟩
  · exact wpAny_loadName_local I.ok.kind hk hn hm go
  · rcases hk with hk | hk
    · exact wpAny_loadName_cell I.ok.kind hk hc hcell go
    · rcases hx with k | k
      · have : X.env.scope.names.lookup x = some .free := hk
        rw [k] at this; cases this
      · have : X.env.scope.names.lookup x = some .free := hk
        rw [k] at this; cases this
/-- o[i] op= e -/
def tAugS (to ti te : TE) (tget : V → V → Hp → VK → Prop) (tip : TIp) (tset : TSet) : TS := fun D σ H => to σ H fun o H1 => ti σ H1 fun i H2 => tget o i H2 fun x H3 => te σ H3 fun y H4 => tip x y H4 fun z H5 => tset o i z H5 fun H6 => D.nx σ H6
/-- o[i], by values -/
def PGet (X : Cx) (t : V → V → Hp → VK → Prop) : Prop :=
  ∀ (pins : List (Addr × Obj)) (s : Shared) (σ : St) (H : Hp) (o i : V) (ov iv : Value) (Q : VK), Inv X pins σ H s → RelV o ov → RelV i iv → t o i H Q →
    wpAny (model X.prog X.w) X.A (getItem ov iv) (EP X pins σ Q) X.xe s
theorem ps_augS {o i e : Expr} {to ti te : TE} {tget : V → V → Hp → VK → Prop} {tip : TIp} {tset : TSet} {op : Operator} {tpos : Pos} (ho : PE X o to) (hi : PE X i ti) (hg : PGet X tget) (he : PE X e te) (hp : PIp X op tip) (hs : PSet X tset)
    (ha : ∀ ov iv new, augStore i ov iv new = (do holding [new, ov, iv] (setItem ov iv new); release [new, ov, iv] []; pure .next) := by intros; rfl) : PS X (.AugAssign (.Subscript o i tpos) op e pos) (tAugS to ti te tget tip tset) := by
  intro pins s σ H D I h
  refine wpAny_AugAssign_SubscriptAny (thn (ho pins s σ H _ I h) fun ov s1 ⟨x1, H1, I1, r1, q1⟩ => ?_) ha
  refine thn (hi pins s1 σ H1 _ I1 q1) fun iv s2 ⟨x2, H2, I2, r2, q2⟩ => ?_
  refine thn (hg pins s2 σ H2 x1 x2 ov iv _ I2 r1 r2 q2) fun old s3 ⟨x3, H3, I3, r3, q3⟩ => ?_
  refine thn (he pins s3 σ H3 _ I3 q3) fun v s4 ⟨x4, H4, I4, r4, q4⟩ => ?_
  refine thn (hp pins s4 σ H4 x3 x4 old v _ I4 r3 r4 q4) fun new s5 ⟨x5, H5, I5, r5, q5⟩ => ?_
  exact thn (hs pins s5 σ H5 x1 x2 x5 ov iv new _ I5 r1 r2 r5 q5) fun _ s6 ⟨H6, I6, q6⟩ => ⟨σ, H6, I6, q6⟩
/-- ints -/
def ipI (f : Int → Int → Int) : TIp := fun x y H Q => ∃ i j, x = .int i ∧ y = .int j ∧ Q (.int (f i j)) H
theorem ip_add : PIp X .Add (ipI fun i j => i + j) := by
  intro pins s σ H x y v u Q I r1 r2 h
  obtain ⟨i, j, e1, e2, q⟩ := h
  subst e1; subst e2
  obtain ⟨t, rfl⟩ := r1
  obtain ⟨t', rfl⟩ := r2
  exact iadd_int ⟨.int _, H, I.tok _, ⟨_, rfl⟩, q⟩
theorem ip_sub : PIp X .Sub (ipI fun i j => i - j) := by
  intro pins s σ H x y v u Q I r1 r2 h
  obtain ⟨i, j, e1, e2, q⟩ := h
  subst e1; subst e2
  obtain ⟨t, rfl⟩ := r1
  obtain ⟨t', rfl⟩ := r2
  exact isub_int ⟨.int _, H, I.tok _, ⟨_, rfl⟩, q⟩
end

/-! ### while -/
section
variable {X : Cx} {pos : Pos}
/-- the invariant W with its measure -/
def tWhile (c : TT) (tb : TS) : TS := fun D σ H => ∃ W : Nat → St → Hp → Prop, (∃ m, W m σ H) ∧ ∀ m σ H, W m σ H →
  c σ H fun b H1 => if b = true then ∃ N : St → Hp → Prop, (∀ σ' H', N σ' H' → ∃ m', m' < m ∧ W m' σ' H') ∧ tb { D with nx := N, ct := N, bk := D.nx } σ H1 else D.nx σ H1
theorem ps_while {c : Expr} {body : List Stmt} {tc : TT} {tb : TS} (hp : PassesOwn (model X.prog X.w) X.A X.env X.xe) (hc : PT X c tc) (hb : PSs X body tb) : PS X (.While c body [] pos) (tWhile tc tb) := by
  intro pins s σ H D I h
  obtain ⟨W, ⟨m0, w0⟩, turn⟩ := h
  refine wpAny_While (codeAny_whileLoop (fun n s' => ∃ σ' H', Inv X pins σ' H' s' ∧ W n σ' H') ?_ m0 ⟨σ, H, I, w0⟩)
  rintro n s1 ⟨σ1, H1, I1, w1⟩
  refine wpAny_passesOwn hp (thn (hc pins s1 σ1 H1 _ I1 (turn n σ1 H1 w1)) fun b s2 ⟨H2, I2, q2⟩ => ?_)
  cases b with
  | true =>
    obtain ⟨N, hN, q2⟩ := q2
    rw [if_pos rfl]
    refine wpAny_passesOwn hp (thn (hb pins s2 σ1 H2 _ I2 q2) fun f s3 q3 => ?_)
    cases f with
    | next =>
      obtain ⟨σ3, H3, I3, n3⟩ := q3
      obtain ⟨m', hm, w3⟩ := hN σ3 H3 n3
      exact ⟨m', hm, σ3, H3, I3, w3⟩
    | cont =>
      obtain ⟨σ3, H3, I3, n3⟩ := q3
      obtain ⟨m', hm, w3⟩ := hN σ3 H3 n3
      exact ⟨m', hm, σ3, H3, I3, w3⟩
    | brk => exact q3
    | ret v => exact q3
  | false =>
    rw [if_neg Bool.false_ne_true]
    exact wpAny_execs_nil ⟨σ1, H2, I2, q2⟩
end

/-! ### what a loop or a comprehension walks -/
/-- at turn i: it yields x (the heap may grow), or it stops -/
structure It where
  go : Nat → Hp → Prop
  yld : Nat → Hp → V → Hp → Prop
  stop : Nat → Hp → Prop
/-- the iterator's own objects may turn: they are not the frame's, not pinned, younger than the entry (or a comprehension's own) -/
def FpOk (X : Cx) (pins : List (Addr × Obj)) (H : Hp) (b : Addr) : Prop :=
  H b = none ∧ b ≠ X.env.locals ∧ b ∉ X.fs ∧ (b ∈ X.ex ∨ X.s₀.heap.objs.size ≤ b) ∧ (∀ x c, X.env.cells.lookup x = some c → c ≠ b) ∧ ∀ p ∈ X.pn ++ pins, p.1 ≠ b
theorem Inv.fpOk {X : Cx} {pins : List (Addr × Obj)} {σ : St} {H H' : Hp} {s : Shared} {b : Addr} (I : Inv X pins σ H s) (hb : s.heap.objs.size ≤ b) (hn : H' b = none) : FpOk X pins H' b := by
  refine ⟨hn, Nat.ne_of_gt (Nat.lt_of_lt_of_le I.lt hb), I.nofs hb, .inr (Nat.le_trans I.sz hb), fun x c e z => ?_, fun p hp z => ?_⟩
  · obtain ⟨v, q⟩ := I.cell x c e
    exact absurd (Nat.lt_of_lt_of_le q.lt (by rw [z]; exact hb)) (Nat.lt_irrefl _)
  · exact absurd (Nat.lt_of_lt_of_le (Heap.lt_size (I.pin p hp).1) (by rw [z]; exact hb)) (Nat.lt_irrefl _)
structure Turn (P : Program) (w : World) (K : PySem.W.Frag) (tg : Expr) (J : It) (fp : List Addr) (it : Addr) (tn : Nat → Heap → Prop) : Prop where
  mem : it ∈ fp
  obj : ∀ i h, tn i h → ∀ b ∈ fp, ∃ o, h.get? b = some o ∧ ∀ v, o.data ≠ .cell v
  keep : ∀ i h h', tn i h → (∀ b ∈ fp, ∀ o, h.get? b = some o → h'.get? b = some o) → tn i h'
  item : ∀ (X : Cx), X.prog = P → X.w = w → X.K = K → X.calm = true → ∀ (i : Nat) (pins : List (Addr × Obj)) (s : Shared) (σ : St) (H : Hp) (E : Value → Shared → Prop), Inv X pins σ H s → (∀ b ∈ fp, FpOk X pins H b) → tn i s.heap → J.go i H →
    wpAny (model P w) X.A (pyNext (.ref it)) (fun r s1 => ∃ u, r = some u ∧
      wpAny (model P w) X.A (letOwnedTupleGo tg (.ref it) u) (fun _ s2 => ∃ x H', Inv X pins σ H' s2 ∧ RelV x u ∧ J.yld i H x H' ∧ tn (i + 1) s2.heap ∧ ∀ b ∈ fp, H' b = none) E s1) E s
  done : ∀ (X : Cx), X.prog = P → X.w = w → X.K = K → X.calm = true → ∀ (i : Nat) (pins : List (Addr × Obj)) (s : Shared) (σ : St) (H : Hp) (E : Value → Shared → Prop), Inv X pins σ H s → (∀ b ∈ fp, FpOk X pins H b) → tn i s.heap → J.stop i H →
    wpAny (model P w) X.A (pyNext (.ref it)) (fun r s1 => r = none ∧ Inv X pins σ H s1) E s
  self : ∀ (A : Around) (i : Nat) (s : Shared) (Q : Value → Shared → Prop) (E : Value → Shared → Prop), tn i s.heap → Q (.ref it) s → wpAny (model P w) A (pyIter (.ref it)) Q E s
abbrev TI := St → Hp → (It → Hp → Prop) → Prop
/-- an iterator has come -/
def PIE (X : Cx) (pins : List (Addr × Obj)) (σ : St) (tg : Expr) (R : It → Hp → Prop) (itv : Value) (s2 : Shared) : Prop :=
  ∃ (it : Addr) (fp : List Addr) (tn : Nat → Heap → Prop) (J : It) (H' : Hp), itv = .ref it ∧ Inv X pins σ H' s2 ∧ Turn X.prog X.w X.K tg J fp it tn ∧ tn 0 s2.heap ∧ (∀ b ∈ fp, FpOk X pins H' b) ∧ R J H'
def PI (X : Cx) (tg iter : Expr) (wi : TI) : Prop :=
  ∀ (pins : List (Addr × Obj)) (s : Shared) (σ : St) (H : Hp) (R : It → Hp → Prop), Inv X pins σ H s → wi σ H R →
    wpAny (model X.prog X.w) X.A (eval iter X.env) (fun v s1 => wpAny (model X.prog X.w) X.A (pyIter v) (PIE X pins σ tg R) X.xe s1) X.xe s

/-- the step ahead of the store is nothing for an iterator that keeps no tuple -/
theorem go_of {M : Model} {A : Around} {E : Value → Shared → Prop} {s : Shared} {tg : Expr} {it : Addr} {u : Value} {o : Obj} {n : String} {vs : Array Value} {Q : Unit → Shared → Prop} (ho : s.heap.get? it = some o) (hc : o.cls = .type n) (hd : o.data = .fields vs)
    (hn : ["enumerate", "zip", "dict_itemiterator", "dict_reverseitemiterator", "odict_iterator", "itertools.zip_longest", "itertools.pairwise"].contains n = false) (hQ : Q () s) : wpAny M A (letOwnedTupleGo tg (.ref it) u) Q E s := by
  unfold letOwnedTupleGo
  cases tg <;> first
    | exact wpAny_pure hQ
    | (cases u <;> first
        | exact wpAny_pure hQ
        | (refine wpAny_bind (wpAny_load ho ?_)
           rw [hc, hd]
           show wpAny M A (if (["enumerate", "zip", "dict_itemiterator", "dict_reverseitemiterator", "odict_iterator", "itertools.zip_longest", "itertools.pairwise"].contains n && vs[0]? == some (rawInt _)) = true then _ else _) Q E s
           rw [if_neg (by intro h; rw [hn, Bool.false_and] at h; cases h)]
           exact wpAny_pure hQ))

/-- the list at a, as it stands at each turn (a loop may append to it) -/
def Itl (K : PySem.W.Frag) (a : Addr) : It :=
  ⟨fun i H => ∃ xs x, SqL K H a xs ∧ xs[i]? = some x, fun i H x H' => H' = H ∧ ∀ xs, SqL K H a xs → xs[i]? = some x, fun i H => ∃ xs, SqL K H a xs ∧ xs.length ≤ i⟩
def Itt (K : PySem.W.Frag) (a : Addr) : It :=
  ⟨fun i H => ∃ xs x, SqT K H a xs ∧ xs[i]? = some x, fun i H x H' => H' = H ∧ ∀ xs, SqT K H a xs → xs[i]? = some x, fun i H => ∃ xs, SqT K H a xs ∧ xs.length ≤ i⟩
/-- lo, lo + 1, .. (n of them) -/
def Itr (lo : Int) (n : Nat) : It := ⟨fun i _ => i < n, fun i H x H' => H' = H ∧ x = .int (lo + i), fun i _ => n ≤ i⟩
theorem turn_list {P : Program} {w : World} {K : PySem.W.Frag} {tg : Expr} (a it : Addr) : Turn P w K tg (Itl K a) [it] it (fun i h => h.IsListIter it a i) where
  mem := by simp
  obj := fun i h st b hb => by
    have e : b = it := by simpa using hb
    subst e
    obtain ⟨o, e, c, d⟩ := st
    exact ⟨o, e, fun v z => by rw [d] at z; cases z⟩
  keep := fun i h h' st k => st.at fun o e => k it (by simp) o e
  item := by
    intro X hP hw hK hc i pins s σ H E I hf st hg
    subst hP hw hK
    obtain ⟨xs, x, hq, hx⟩ := hg
    obtain ⟨its, rv, p, hz⟩ := I.list hq
    obtain ⟨u, hu, ru⟩ := rv.get hx
    obtain ⟨f0, f1, f2, f3, f4, f5⟩ := hf it (by simp)
    refine wpAny_pyNext_list_item st p.isList (x := u) (by simpa using hu) fun h' st' sb => ?_
    have I1 : Inv X pins σ H { s with heap := h' } := I.turned (t' := s.toks) (fun b o hb e => (sb.2 b hb).trans e) f0 f1 f3 f4 f5
    obtain ⟨o, e, c, d⟩ := id st'
    exact ⟨u, rfl, go_of (s := { s with heap := h' }) e c d (by decide) ⟨x, H, I1, ru, ⟨rfl, fun ys hy => by rw [I.list_inj hy hq]; exact hx⟩, st', fun b hb => (hf b hb).1⟩⟩
  done := by
    intro X hP hw hK hc i pins s σ H E I hf st hg
    subst hP hw hK
    obtain ⟨xs, hq, hx⟩ := hg
    obtain ⟨its, rv, p, hz⟩ := I.list hq
    obtain ⟨f0, f1, f2, f3, f4, f5⟩ := hf it (by simp)
    have hl := rv.length
    exact wpAny_pyNext_list_end (I.ok.hd hc) st p.isList (by simp; omega) fun h' eb => ⟨rfl, I.turned (t' := s.toks) (fun b o hb e => eb b o hb e) f0 f1 f3 f4 f5⟩
  self := fun _ _ _ _ _ st h => wpAny_pyIter_listiter st h
theorem turn_tuple {P : Program} {w : World} {K : PySem.W.Frag} {tg : Expr} (a it : Addr) : Turn P w K tg (Itt K a) [it] it (fun i h => h.IsTupleIter it a i) where
  mem := by simp
  obj := fun i h st b hb => by
    have e : b = it := by simpa using hb
    subst e
    obtain ⟨o, e, c, d⟩ := st
    exact ⟨o, e, fun v z => by rw [d] at z; cases z⟩
  keep := fun i h h' st k => st.at fun o e => k it (by simp) o e
  item := by
    intro X hP hw hK hc i pins s σ H E I hf st hg
    subst hP hw hK
    obtain ⟨xs, x, hq, hx⟩ := hg
    obtain ⟨its, rv, p, hz⟩ := I.tuple hq
    obtain ⟨u, hu, ru⟩ := rv.get hx
    obtain ⟨f0, f1, f2, f3, f4, f5⟩ := hf it (by simp)
    refine wpAny_pyNext_tuple_item st (show s.heap.IsTuple a its.toArray from p) (x := u) (by simpa using hu) fun h' st' sb => ?_
    have I1 : Inv X pins σ H { s with heap := h' } := I.turned (t' := s.toks) (fun b o hb e => (sb.2 b hb).trans e) f0 f1 f3 f4 f5
    obtain ⟨o, e, c, d⟩ := id st'
    exact ⟨u, rfl, go_of (s := { s with heap := h' }) e c d (by decide) ⟨x, H, I1, ru, ⟨rfl, fun ys hy => by rw [I.tuple_inj hy hq]; exact hx⟩, st', fun b hb => (hf b hb).1⟩⟩
  done := by
    intro X hP hw hK hc i pins s σ H E I hf st hg
    subst hP hw hK
    obtain ⟨xs, hq, hx⟩ := hg
    obtain ⟨its, rv, p, hz⟩ := I.tuple hq
    obtain ⟨f0, f1, f2, f3, f4, f5⟩ := hf it (by simp)
    have hl := rv.length
    exact wpAny_pyNext_tuple_end (I.ok.hd hc) st (show s.heap.IsTuple a its.toArray from p) (by simp; omega) fun h' eb => ⟨rfl, I.turned (t' := s.toks) (fun b o hb e => eb b o hb e) f0 f1 f3 f4 f5⟩
  self := fun _ _ _ _ _ st h => wpAny_pyIter_tupleiter st h
theorem turn_range {P : Program} {w : World} {K : PySem.W.Frag} {tg : Expr} (it : Addr) (lo : Int) (n : Nat) : Turn P w K tg (Itr lo n) [it] it (fun i h => IsRangeIter h it (lo + (i : Nat) * 1) ((n : Int) - (i : Nat)) 1) where
  mem := by simp
  obj := fun i h st b hb => by
    have e : b = it := by simpa using hb
    subst e
    exact ⟨_, st, fun v z => by
      have z' : Data.fields _ = Data.cell v := z
      cases z'⟩
  keep := fun i h h' st k => k it (by simp) _ st
  item := by
    intro X hP hw hK hc i pins s σ H E I hf st hg
    subst hP hw hK
    obtain ⟨f0, f1, f2, f3, f4, f5⟩ := hf it (by simp)
    have W := Walks.range (prog := X.prog) (w := X.w) (I.ok.hd hc) it lo 1 n
    refine W.item i s _ _ hg st fun v h' tk hv st' kk => ?_
    obtain ⟨t, rfl⟩ := hv
    have I1 : Inv X pins σ H { s with heap := h', toks := tk } := I.turned (fun b o hb e => kk b o (by simpa using hb) e) f0 f1 f3 f4 f5
    refine ⟨_, rfl, go_of (s := { s with heap := h', toks := tk }) (n := "range_iterator") st' rfl rfl (by decide) ⟨.int (lo + i), H, I1, ⟨t, ?_⟩, ⟨rfl, rfl⟩, st', fun b hb => (hf b hb).1⟩⟩
    rw [Int.mul_one]
  done := by
    intro X hP hw hK hc i pins s σ H E I hf st hg
    subst hP hw hK
    obtain ⟨f0, f1, f2, f3, f4, f5⟩ := hf it (by simp)
    exact wpAny_pyNext_range_end (I.ok.hd hc) st (by have : n ≤ i := hg; omega) fun h' eb => ⟨rfl, I.turned (t' := s.toks) (fun b o hb e => eb b o hb e) f0 f1 f3 f4 f5⟩
  self := fun _ _ _ _ _ st h => wpAny_pyIter_rangeiter st h
end L2

namespace L2
open PySem PySem.Spec PyProof.Rows
section
variable {X : Cx} {tg : Expr}
def iList (K : PySem.W.Frag) (tl : TE) : TI := fun σ H R => tl σ H fun x H1 => ∃ a, x = .ref a ∧ (∃ xs, SqL K H1 a xs) ∧ R (Itl K a) H1
def iTup (K : PySem.W.Frag) (tl : TE) : TI := fun σ H R => tl σ H fun x H1 => ∃ a, x = .ref a ∧ (∃ xs, SqT K H1 a xs) ∧ R (Itt K a) H1
theorem pi_list {l : Expr} {tl : TE} (hl : PE X l tl) : PI X tg l (iList X.K tl) := by
  intro pins s σ H R I h
  refine thn (hl pins s σ H _ I h) fun v s1 ⟨x, H1, I1, r1, q1⟩ => ?_
  obtain ⟨a, e, ⟨xs, hq⟩, q⟩ := q1
  subst e
  cases r1
  obtain ⟨its, rv, p, hz⟩ := I1.list hq
  refine wpAny_pyIter_list p.isList ?_
  refine ⟨s1.heap.objs.size, [s1.heap.objs.size], _, _, H1, rfl, I1.kept (t' := s1.toks) fun b o e => Heap.get?_push_of_some _ e, turn_list a _, ⟨_, Heap.get?_push_size _ rfl, rfl, rfl⟩, fun b hb => ?_, q⟩
  have e : b = s1.heap.objs.size := by simpa using hb
  subst e
  exact I1.fpOk (Nat.le_refl _) (I1.hok.fresh (Nat.le_refl _))
theorem pi_tup {l : Expr} {tl : TE} (hl : PE X l tl) : PI X tg l (iTup X.K tl) := by
  intro pins s σ H R I h
  refine thn (hl pins s σ H _ I h) fun v s1 ⟨x, H1, I1, r1, q1⟩ => ?_
  obtain ⟨a, e, ⟨xs, hq⟩, q⟩ := q1
  subst e
  cases r1
  obtain ⟨its, rv, p, hz⟩ := I1.tuple hq
  refine wpAny_pyIter_tuple (show s1.heap.IsTuple a its.toArray from p) ?_
  refine ⟨s1.heap.objs.size, [s1.heap.objs.size], _, _, H1, rfl, I1.kept (t' := s1.toks) fun b o e => Heap.get?_push_of_some _ e, turn_tuple a _, ⟨_, Heap.get?_push_size _ rfl, rfl, rfl⟩, fun b hb => ?_, q⟩
  have e : b = s1.heap.objs.size := by simpa using hb
  subst e
  exact I1.fpOk (Nat.le_refl _) (I1.hok.fresh (Nat.le_refl _))
/-- a range object just made, walked -/
theorem range_it {pins : List (Addr × Obj)} {σ : St} {H : Hp} {s : Shared} {R : It → Hp → Prop} {E : Value → Shared → Prop} {lo hi : Int} {t u v : Tok} {tk : Nat} (I : Inv X pins σ H s) (h1 : -(2 ^ 62) ≤ lo) (h2 : lo < 2 ^ 62) (h3 : -(2 ^ 62) ≤ hi) (h4 : hi < 2 ^ 62)
    (q : R (Itr lo (hi - lo).toNat) H) : wpAny (model X.prog X.w) X.A (pyIter (.ref s.heap.objs.size)) (PIE X pins σ tg R) E { s with heap := s.heap.push { cls := .type "range", data := .fields #[.int lo t, .int hi u, .int 1 v] }, toks := tk } := by
  refine wpAny_pyIter_range (IsRange.new ..) (small_one h1 h2 h3 h4) ?_
  have I1 : Inv X pins σ H { s with heap := s.heap.push { cls := .type "range", data := .fields #[.int lo t, .int hi u, .int 1 v] }, toks := tk } := I.kept fun b o e => Heap.get?_push_of_some _ e
  refine ⟨(s.heap.push { cls := .type "range", data := .fields #[.int lo t, .int hi u, .int 1 v] }).objs.size, [(s.heap.push { cls := .type "range", data := .fields #[.int lo t, .int hi u, .int 1 v] }).objs.size], _, _, H, rfl,
    I1.kept (t' := tk) fun b o e => Heap.get?_push_of_some _ e, turn_range _ lo (hi - lo).toNat, ?_, fun b hb => ?_, q⟩
  · have e1 : lo + ((0 : Nat) : Int) * 1 = lo := by simp
    have e2 : (((hi - lo).toNat : Nat) : Int) - ((0 : Nat) : Int) = Builtin.Range.rangeSize lo hi 1 := by rw [rangeSize_one]; split <;> omega
    show IsRangeIter _ _ (lo + ((0 : Nat) : Int) * 1) ((((hi - lo).toNat : Nat) : Int) - ((0 : Nat) : Int)) 1
    rw [e1, e2]
    exact Heap.get?_push_size _ rfl
  · have e : b = (s.heap.push { cls := .type "range", data := .fields #[.int lo t, .int hi u, .int 1 v] }).objs.size := by simpa using hb
    subst e
    exact I1.fpOk (Nat.le_refl _) (I1.hok.fresh (Nat.le_refl _))
def iRng1 (ta : TA) : TI := fun σ H R => ta σ H fun vs H1 => ∃ j : Int, vs = [.int j] ∧ -(2 ^ 62) ≤ j ∧ j < 2 ^ 62 ∧ R (Itr 0 j.toNat) H1
def iRng2 (ta : TA) : TI := fun σ H R => ta σ H fun vs H1 => ∃ i j : Int, vs = [.int i, .int j] ∧ (-(2 ^ 62) ≤ i ∧ i < 2 ^ 62 ∧ -(2 ^ 62) ≤ j ∧ j < 2 ^ 62) ∧ R (Itr i (j - i).toNat) H1
theorem pi_range1 {a : Expr} {ta : TA} {p pos : Pos} (hg : Gl X "range") (hm : X.mg "range" = none) (ha : PA X [a] ta) (hs : starEach [a] X.env = [(false, eval a X.env)] := by rfl) : PI X tg (.Call (.Name "range" p) [a] [] pos) (iRng1 ta) := by
  intro pins s σ H R I h
  refine Call_ (ld_blt I hg hm boot_range (PyProof.Rows.callWith_type1 (thn (ha pos pins s σ H _ I h) fun us s1 ⟨vs, H1, I1, r1, q1⟩ => ?_) hs rfl))
  obtain ⟨j, e, q1, q2, q⟩ := q1
  subst e
  cases r1 with
  | cons r rr =>
    cases rr
    obtain ⟨t, rfl⟩ := r
    exact call_range_1 (range_it I1 (by omega) (by omega) q1 q2 (by simpa using q))
theorem pi_range2 {a b : Expr} {ta : TA} {p pos : Pos} (hg : Gl X "range") (hm : X.mg "range" = none) (ha : PA X [a, b] ta) (hs : starEach [a, b] X.env = [(false, eval a X.env), (false, eval b X.env)] := by rfl) (hs2 : starEach [b] X.env = [(false, eval b X.env)] := by rfl) :
    PI X tg (.Call (.Name "range" p) [a, b] [] pos) (iRng2 ta) := by
  intro pins s σ H R I h
  refine Call_ (ld_blt I hg hm boot_range (PyProof.Rows.callWith_type1 (thn (ha pos pins s σ H _ I h) fun us s1 ⟨vs, H1, I1, r1, q1⟩ => ?_) (by rw [hs, hs2]) (by rw [hs2]; rfl)))
  obtain ⟨i, j, e, ⟨q1, q2, q3, q4⟩, q⟩ := q1
  subst e
  cases r1 with
  | cons r rr =>
    cases rr with
    | cons r' rr =>
      cases rr
      obtain ⟨t, rfl⟩ := r
      obtain ⟨t', rfl⟩ := r'
      exact call_range_2 (range_it I1 q1 q2 q3 q4 q)

/-! ### for -/
/-- W: the invariant by the turn and a measure; N: what the body is to reach -/
def tFor (wi : TI) (g : TG) (tb : TS) : TS := fun D σ H => wi σ H fun J H1 => ∃ W : Nat → Nat → St → Hp → Prop, (∃ m, W 0 m σ H1) ∧ ∀ i m σ H, W i m σ H →
  (J.stop i H ∧ D.nx σ H) ∨ (J.go i H ∧ ∃ N : St → Hp → Prop, (∀ σ' H', N σ' H' → ∃ m', m' < m ∧ W (i + 1) m' σ' H') ∧ ∀ x H', J.yld i H x H' → g x σ H' fun σ2 H2 => tb { D with nx := N, ct := N, bk := D.nx } σ2 H2)
/-- the records at fp as they stand -/
def pinsAt (fp : List Addr) (h : Heap) : List (Addr × Obj) := fp.filterMap fun b => (h.get? b).map fun o => (b, o)
theorem mem_pinsAt {fp : List Addr} {h : Heap} {b : Addr} {o : Obj} (hb : b ∈ fp) (e : h.get? b = some o) : (b, o) ∈ pinsAt fp h := List.mem_filterMap.mpr ⟨b, hb, by rw [e]; rfl⟩
theorem of_pinsAt {fp : List Addr} {h : Heap} {p : Addr × Obj} (hp : p ∈ pinsAt fp h) : p.1 ∈ fp ∧ h.get? p.1 = some p.2 := by
  obtain ⟨b, hb, e⟩ := List.mem_filterMap.mp hp
  cases q : h.get? b with
  | none => rw [q] at e; cases e
  | some o =>
    rw [q] at e
    have e' : (b, o) = p := Option.some.inj e
    subst e'
    exact ⟨hb, q⟩
theorem Inv.pinned {pins : List (Addr × Obj)} {σ : St} {H : Hp} {s : Shared} {fp : List Addr} (I : Inv X pins σ H s) (hf : ∀ b ∈ fp, FpOk X pins H b) (ho : ∀ b ∈ fp, ∃ o, s.heap.get? b = some o ∧ ∀ v, o.data ≠ .cell v) : Inv X (pins ++ pinsAt fp s.heap) σ H s :=
  I.pins_of fun p hp => (List.mem_append.mp hp).elim (fun z => I.pin p (List.mem_append_right _ z)) fun z => by
    obtain ⟨hb, e⟩ := of_pinsAt z
    obtain ⟨f0, f1, f2, _⟩ := hf p.1 hb
    obtain ⟨o, e', d⟩ := ho p.1 hb
    rw [e] at e'; cases e'
    exact ⟨e, f0, f1, f2, d⟩
theorem Inv.unpinned {pins pl : List (Addr × Obj)} {σ : St} {H : Hp} {s : Shared} (I : Inv X (pins ++ pl) σ H s) : Inv X pins σ H s := I.pins_of fun p hp => I.pin p (List.mem_append_right _ (List.mem_append_left _ hp))
theorem ps_for {iter : Expr} {body : List Stmt} {wi : TI} {g : TG} {tb : TS} {pos : Pos} (hp : PassesOwn (model X.prog X.w) X.A X.env X.xe) (hc : X.calm = true) (hi : PI X tg iter wi) (hg : PG X tg g) (hb : PSs X body tb)
    (hs : ∀ x, foldedSetIterable iter X.env x = pure x := by intro _; rfl) : PS X (.For tg iter body [] pos) (tFor wi g tb) := by
  intro pins s σ H D I h
  refine wpAny_For (thn (hi pins s σ H _ I h) fun v s1 h1 => thn h1 fun itv s2 h2 => ?_) hs
  obtain ⟨it, fp, tn, J, H2, e, I2, T, st2, f2, W, ⟨m0, w0⟩, turn⟩ := h2
  subst e
  -- what stays true of the iterator's objects through the loop
  have stat : ∀ {H' : Hp}, (∀ b ∈ fp, H' b = none) → ∀ b ∈ fp, FpOk X pins H' b := fun hn b hb => ⟨hn b hb, (f2 b hb).2⟩
  refine codeAny_forLoop_any (fun n s' => ∃ i σ' H', Inv X pins σ' H' s' ∧ tn i s'.heap ∧ (∀ b ∈ fp, H' b = none) ∧ W i n σ' H') ?_ m0 ⟨0, σ, H2, I2, st2, fun b hb => (f2 b hb).1, w0⟩
  rintro n s3 ⟨i, σ3, H3, I3, st3, fr3, w3⟩
  rcases turn i n σ3 H3 w3 with ⟨stop, qn⟩ | ⟨go, N, hN, step⟩
  · refine wpAny_passesOwn hp (thn (T.done X rfl rfl rfl hc i pins s3 σ3 H3 X.xe I3 (stat fr3) st3 stop) fun r s4 ⟨hr, I4⟩ => ?_)
    subst hr
    exact wpAny_execs_nil ⟨σ3, H3, I4, qn⟩
  · refine wpAny_passesOwn hp (thn (T.item X rfl rfl rfl hc i pins s3 σ3 H3 X.xe I3 (stat fr3) st3 go) fun r s4 ⟨u, hr, h4⟩ => ?_)
    subst hr
    refine wpAny_passesOwn hp (thn h4 fun _ s5 ⟨x, H5, I5, r5, y5, st5, fr5⟩ => ?_)
    have I5' := I5.pinned (stat fr5) (T.obj _ _ st5)
    refine wpAny_passesOwn hp (thn (hg _ s5 σ3 H5 x u _ I5' r5 (step x H5 y5)) fun _ s6 ⟨σ6, H6, I6, q6⟩ => ?_)
    refine wpAny_passesOwn hp (thn (hb _ s6 σ6 H6 _ I6 q6) fun f s7 q7 => ?_)
    have again : ∀ {σ7 : St} {H7 : Hp}, Inv X (pins ++ pinsAt fp s5.heap) σ7 H7 s7 → N σ7 H7 → ∃ m, m < n ∧ ∃ i σ' H', Inv X pins σ' H' s7 ∧ tn i s7.heap ∧ (∀ b ∈ fp, H' b = none) ∧ W i m σ' H' := fun {σ7 H7} I7 n7 => by
      obtain ⟨m', hm, w7⟩ := hN σ7 H7 n7
      refine ⟨m', hm, i + 1, σ7, H7, I7.unpinned, T.keep _ _ _ st5 fun b hb o e => (I7.pin (b, o) (List.mem_append_right _ (List.mem_append_right _ (mem_pinsAt hb e)))).1, fun b hb => ?_, w7⟩
      obtain ⟨o, e, d⟩ := T.obj _ _ st5 b hb
      exact (I7.pin (b, o) (List.mem_append_right _ (List.mem_append_right _ (mem_pinsAt hb e)))).2.1
    cases f with
    | next => obtain ⟨σ7, H7, I7, n7⟩ := q7; exact again I7 n7
    | cont => obtain ⟨σ7, H7, I7, n7⟩ := q7; exact again I7 n7
    | brk => obtain ⟨σ7, H7, I7, q7⟩ := q7; exact ⟨σ7, H7, I7.unpinned, q7⟩
    | ret v => obtain ⟨x7, σ7, H7, I7, r7, q7⟩ := q7; exact ⟨x7, σ7, H7, I7.unpinned, r7, q7⟩
end

/-! ### the forms one uses -/
/-- over a list that the body leaves as it is -/
theorem for_list {K : PySem.W.Frag} {a : Addr} {xs : List V} {g : TG} {tb : TS} {D : Ends} {σ : St} {H : Hp} (Pv : Nat → St → Hp → Prop) (h0 : Pv 0 σ H) (hl : ∀ i σ H, i ≤ xs.length → Pv i σ H → SqL K H a xs)
    (hs : ∀ i x σ H, xs[i]? = some x → Pv i σ H → g x σ H fun σ2 H2 => tb { D with nx := Pv (i + 1), ct := Pv (i + 1), bk := D.nx } σ2 H2) (hd : ∀ σ H, Pv xs.length σ H → D.nx σ H) :
    ∃ W : Nat → Nat → St → Hp → Prop, (∃ m, W 0 m σ H) ∧ ∀ i m σ H, W i m σ H →
      ((Itl K a).stop i H ∧ D.nx σ H) ∨ ((Itl K a).go i H ∧ ∃ N : St → Hp → Prop, (∀ σ' H', N σ' H' → ∃ m', m' < m ∧ W (i + 1) m' σ' H') ∧ ∀ x H', (Itl K a).yld i H x H' → g x σ H' fun σ2 H2 => tb { D with nx := N, ct := N, bk := D.nx } σ2 H2) := by
  refine ⟨fun i m σ H => m = xs.length - i ∧ i ≤ xs.length ∧ Pv i σ H, ⟨xs.length, by simp, Nat.zero_le _, h0⟩, ?_⟩
  rintro i m σ H ⟨rfl, hi, p⟩
  have q := hl i σ H hi p
  by_cases hlt : i < xs.length
  · refine .inr ⟨⟨xs, xs[i], q, by simp [hlt]⟩, Pv (i + 1), fun σ' H' p' => ⟨xs.length - (i + 1), by omega, rfl, hlt, p'⟩, fun x H' y => ?_⟩
    obtain ⟨e, y⟩ := y
    subst e
    exact hs i x σ _ (y xs q) p
  · have e : i = xs.length := by omega
    subst e
    exact .inl ⟨⟨xs, q, Nat.le_refl _⟩, hd σ H p⟩
theorem for_tup {K : PySem.W.Frag} {a : Addr} {xs : List V} {g : TG} {tb : TS} {D : Ends} {σ : St} {H : Hp} (Pv : Nat → St → Hp → Prop) (h0 : Pv 0 σ H) (hl : ∀ i σ H, i ≤ xs.length → Pv i σ H → SqT K H a xs)
    (hs : ∀ i x σ H, xs[i]? = some x → Pv i σ H → g x σ H fun σ2 H2 => tb { D with nx := Pv (i + 1), ct := Pv (i + 1), bk := D.nx } σ2 H2) (hd : ∀ σ H, Pv xs.length σ H → D.nx σ H) :
    ∃ W : Nat → Nat → St → Hp → Prop, (∃ m, W 0 m σ H) ∧ ∀ i m σ H, W i m σ H →
      ((Itt K a).stop i H ∧ D.nx σ H) ∨ ((Itt K a).go i H ∧ ∃ N : St → Hp → Prop, (∀ σ' H', N σ' H' → ∃ m', m' < m ∧ W (i + 1) m' σ' H') ∧ ∀ x H', (Itt K a).yld i H x H' → g x σ H' fun σ2 H2 => tb { D with nx := N, ct := N, bk := D.nx } σ2 H2) := by
  refine ⟨fun i m σ H => m = xs.length - i ∧ i ≤ xs.length ∧ Pv i σ H, ⟨xs.length, by simp, Nat.zero_le _, h0⟩, ?_⟩
  rintro i m σ H ⟨rfl, hi, p⟩
  have q := hl i σ H hi p
  by_cases hlt : i < xs.length
  · refine .inr ⟨⟨xs, xs[i], q, by simp [hlt]⟩, Pv (i + 1), fun σ' H' p' => ⟨xs.length - (i + 1), by omega, rfl, hlt, p'⟩, fun x H' y => ?_⟩
    obtain ⟨e, y⟩ := y
    subst e
    exact hs i x σ _ (y xs q) p
  · have e : i = xs.length := by omega
    subst e
    exact .inl ⟨⟨xs, q, Nat.le_refl _⟩, hd σ H p⟩
theorem for_range {lo : Int} {n : Nat} {g : TG} {tb : TS} {D : Ends} {σ : St} {H : Hp} (Pv : Nat → St → Hp → Prop) (h0 : Pv 0 σ H)
    (hs : ∀ i σ H, i < n → Pv i σ H → g (.int (lo + i)) σ H fun σ2 H2 => tb { D with nx := Pv (i + 1), ct := Pv (i + 1), bk := D.nx } σ2 H2) (hd : ∀ σ H, Pv n σ H → D.nx σ H) :
    ∃ W : Nat → Nat → St → Hp → Prop, (∃ m, W 0 m σ H) ∧ ∀ i m σ H, W i m σ H →
      ((Itr lo n).stop i H ∧ D.nx σ H) ∨ ((Itr lo n).go i H ∧ ∃ N : St → Hp → Prop, (∀ σ' H', N σ' H' → ∃ m', m' < m ∧ W (i + 1) m' σ' H') ∧ ∀ x H', (Itr lo n).yld i H x H' → g x σ H' fun σ2 H2 => tb { D with nx := N, ct := N, bk := D.nx } σ2 H2) := by
  refine ⟨fun i m σ H => m = n - i ∧ i ≤ n ∧ Pv i σ H, ⟨n, by simp, Nat.zero_le _, h0⟩, ?_⟩
  rintro i m σ H ⟨rfl, hi, p⟩
  by_cases hlt : i < n
  · refine .inr ⟨hlt, Pv (i + 1), fun σ' H' p' => ⟨n - (i + 1), by omega, rfl, hlt, p'⟩, fun x H' y => ?_⟩
    obtain ⟨e, y⟩ := y
    subst e y
    exact hs i σ _ hlt p
  · have e : i = n := by omega
    subst e
    exact .inl ⟨Nat.le_refl _, hd σ H p⟩
/-- while, by a word and a measure of the state -/
theorem while_by {c : TT} {tb : TS} {D : Ends} {σ : St} {H : Hp} (Pv : St → Hp → Prop) (μ : St → Hp → Nat) (h0 : Pv σ H)
    (hs : ∀ σ H, Pv σ H → c σ H fun b H1 => if b = true then tb { D with nx := fun σ' H' => Pv σ' H' ∧ μ σ' H' < μ σ H, ct := fun σ' H' => Pv σ' H' ∧ μ σ' H' < μ σ H, bk := D.nx } σ H1 else D.nx σ H1)
    (mono : ∀ σ H Q Q', (∀ b H1, Q b H1 → Q' b H1) → c σ H Q → c σ H Q') : tWhile c tb D σ H := by
  refine ⟨fun m σ H => m = μ σ H ∧ Pv σ H, ⟨_, rfl, h0⟩, ?_⟩
  rintro m σ H ⟨rfl, p⟩
  refine mono σ H _ _ (fun b H1 q => ?_) (hs σ H p)
  cases b with
  | true => exact ⟨_, fun σ' H' ⟨p', l⟩ => ⟨_, l, rfl, p'⟩, q⟩
  | false => exact q
end L2

namespace L2
open PySem PySem.Spec PyProof.Rows

abbrev R2 := V → V → Hp → VK → Prop
/-- a two-place operation on values: f is binaryOp op, inplaceOp op or compareOp op -/
def OpR (X : Cx) (f : Value → Value → Sem Value) (r : R2) : Prop :=
  ∀ (pins : List (Addr × Obj)) (s : Shared) (σ : St) (H : Hp) (x y : V) (v u : Value) (Q : VK), Inv X pins σ H s → RelV x v → RelV y u → r x y H Q →
    wpAny (model X.prog X.w) X.A (f v u) (EP X pins σ Q) X.xe s
/-- a one-place operation -/
def UnR (X : Cx) (f : Value → Sem Value) (r : V → Hp → VK → Prop) : Prop :=
  ∀ (pins : List (Addr × Obj)) (s : Shared) (σ : St) (H : Hp) (x : V) (v : Value) (Q : VK), Inv X pins σ H s → RelV x v → r x H Q →
    wpAny (model X.prog X.w) X.A (f v) (EP X pins σ Q) X.xe s
/-- a call of a value that is known (a builtin, a type) with values -/
def CallR (X : Cx) (f : Value) (r : List V → Hp → VK → Prop) : Prop :=
  ∀ (pins : List (Addr × Obj)) (s : Shared) (σ : St) (H : Hp) (xs : List V) (us : List Value) (Q : VK), Inv X pins σ H s → Vals xs us → r xs H Q →
    wpAny (model X.prog X.w) X.A (call f us) (EP X pins σ Q) X.xe s
/-- a value's truth -/
def TruR (X : Cx) (r : V → Hp → (Bool → Hp → Prop) → Prop) : Prop :=
  ∀ (pins : List (Addr × Obj)) (s : Shared) (σ : St) (H : Hp) (x : V) (v : Value) (Q : Bool → Hp → Prop), Inv X pins σ H s → RelV x v → r x H Q →
    wpAny (model X.prog X.w) X.A (truthy v) (TP X pins σ Q) X.xe s

def tOp (r : R2) (ta tb : TE) : TE := fun σ H Q => ta σ H fun x H1 => tb σ H1 fun y H2 => r x y H2 Q
def tUn (r : V → Hp → VK → Prop) (ta : TE) : TE := fun σ H Q => ta σ H fun x H1 => r x H1 Q
/-- ints in, under C, and a value out -/
def rI (C : Int → Int → Prop) (g : Int → Int → V) : R2 := fun x y H Q => ∃ i j, x = .int i ∧ y = .int j ∧ C i j ∧ Q (g i j) H
def rI0 (g : Int → Int → V) : R2 := fun x y H Q => ∃ i j, x = .int i ∧ y = .int j ∧ Q (g i j) H
def rU (g : Int → V) : V → Hp → VK → Prop := fun x H Q => ∃ i, x = .int i ∧ Q (g i) H

section
variable {X : Cx} {a b c : Expr} {ta tb tc : TE} {pos : Pos}

theorem binT (ha : PE X a ta) (hb : PE X b tb) {pins : List (Addr × Obj)} {s : Shared} {σ : St} {H : Hp} {R : V → V → Hp → Prop} (I : Inv X pins σ H s)
    (h : ta σ H fun x H1 => tb σ H1 fun y H2 => R x y H2) {Q : Value → Shared → Prop} {f : Value → Value → Sem Value}
    (hf : ∀ v u s2 x y H2, Inv X pins σ H2 s2 → RelV x v → RelV y u → R x y H2 → wpAny (model X.prog X.w) X.A (f v u) Q X.xe s2) :
    wpAny (model X.prog X.w) X.A (eval a X.env) (fun v s₁ => wpAny (model X.prog X.w) X.A (eval b X.env) (fun u s₂ => wpAny (model X.prog X.w) X.A (f v u) Q X.xe s₂) X.xe s₁) X.xe s := by
  refine thn (ha pins s σ H _ I h) fun v s1 ⟨x, H1, I1, r1, q1⟩ => ?_
  refine thn (hb pins s1 σ H1 _ I1 q1) fun u s2 ⟨y, H2, I2, r2, q2⟩ => ?_
  exact hf v u s2 x y H2 I2 r1 r2 q2

theorem pe_op {op : Operator} {r : R2} (ho : OpR X (binaryOp op) r) (ha : PE X a ta) (hb : PE X b tb) : PE X (.BinOp a op b pos) (tOp r ta tb) := by
  intro pins s σ H Q I h
  exact wpAny_BinOp (binT ha hb I h fun v u s2 x y H2 I2 rx ry q => ho pins s2 σ H2 x y v u Q I2 rx ry q)
theorem pe_un {op : UnaryOp} {r : V → Hp → VK → Prop} (ho : UnR X (unaryOp op) r) (ha : PE X a ta) : PE X (.UnaryOp op a pos) (tUn r ta) := by
  intro pins s σ H Q I h
  exact UnaryOp_ (thn (ha pins s σ H _ I h) fun v s1 ⟨x, H1, I1, r1, q1⟩ => ho pins s1 σ H1 x v Q I1 r1 q1)
/-- a op= e at a name: the name's slot i -/
theorem augR {op : Operator} {r : R2} (ho : OpR X (inplaceOp op) r) {pins : List (Addr × Obj)} {s : Shared} {σ : St} {H : Hp} {x y : V} {v u : Value} {Q : VK} (I : Inv X pins σ H s)
    (rx : RelV x v) (ry : RelV y u) (q : r x y H Q) : wpAny (model X.prog X.w) X.A (inplaceOp op v u) (EP X pins σ Q) X.xe s := ho pins s σ H x y v u Q I rx ry q

/-! ### ints -/
theorem opI {f : Value → Value → Sem Value} {C : Int → Int → Prop} {g : Int → Int → Int}
    (rule : ∀ (i j : Int) (t u : Tok) (s : Shared) (Q : Value → Shared → Prop) (E : Value → Shared → Prop), C i j → Q (.int (g i j) s.toks) { s with toks := s.toks + 1 } → wpAny (model X.prog X.w) X.A (f (.int i t) (.int j u)) Q E s) :
    OpR X f (rI C fun i j => .int (g i j)) := by
  intro pins s σ H x y v u Q I rx ry h
  obtain ⟨i, j, rfl, rfl, hc, q⟩ := h
  obtain ⟨t, rfl⟩ := rx
  obtain ⟨t', rfl⟩ := ry
  exact rule i j t t' s _ _ hc ⟨.int (g i j), H, I.tok _, ⟨_, rfl⟩, q⟩
theorem opI0 {f : Value → Value → Sem Value} {g : Int → Int → Int}
    (rule : ∀ (i j : Int) (t u : Tok) (s : Shared) (Q : Value → Shared → Prop) (E : Value → Shared → Prop), Q (.int (g i j) s.toks) { s with toks := s.toks + 1 } → wpAny (model X.prog X.w) X.A (f (.int i t) (.int j u)) Q E s) :
    OpR X f (rI0 fun i j => .int (g i j)) := by
  intro pins s σ H x y v u Q I rx ry h
  obtain ⟨i, j, rfl, rfl, q⟩ := h
  obtain ⟨t, rfl⟩ := rx
  obtain ⟨t', rfl⟩ := ry
  exact rule i j t t' s _ _ ⟨.int (g i j), H, I.tok _, ⟨_, rfl⟩, q⟩
theorem opB0 {f : Value → Value → Sem Value} {g : Int → Int → Bool}
    (rule : ∀ (i j : Int) (t u : Tok) (s : Shared) (Q : Value → Shared → Prop) (E : Value → Shared → Prop), Q (.bool (g i j)) s → wpAny (model X.prog X.w) X.A (f (.int i t) (.int j u)) Q E s) :
    OpR X f (rI0 fun i j => .bl (g i j)) := by
  intro pins s σ H x y v u Q I rx ry h
  obtain ⟨i, j, rfl, rfl, q⟩ := h
  obtain ⟨t, rfl⟩ := rx
  obtain ⟨t', rfl⟩ := ry
  exact rule i j t t' s _ _ ⟨.bl (g i j), H, I, rfl, q⟩

def CDiv (i j : Int) : Prop := 0 < j ∧ j < 1073741824
def CDivN (i j : Int) : Prop := j ≠ 0 ∧ j.natAbs < 1073741824
def CPow (i j : Int) : Prop := 0 ≤ j ∧ j ≤ 1000000 ∧ i.natAbs < 2 ^ 64
def CMul (i j : Int) : Prop := (-(2 ^ 64) < i ∧ i < 2 ^ 64) ∨ (-(2 ^ 64) < j ∧ j < 2 ^ 64)
theorem CMul.ok {i j : Int} (h : CMul i j) : IntMulOk i j := by
  rcases h with ⟨h1, h2⟩ | ⟨h1, h2⟩
  · exact .of_left (intBits_le_64 h1 h2)
  · exact .of_right (intBits_le_64 h1 h2)
theorem two_pow_nn (k : Nat) : (0 : Int) ≤ 2 ^ k := by
  rw [two_pow_cast]
  exact Int.natCast_nonneg _

theorem op_add : OpR X (binaryOp .Add) (rI0 fun i j => .int (i + j)) := opI0 fun _ _ _ _ _ _ _ q => add_int q
theorem op_sub : OpR X (binaryOp .Sub) (rI0 fun i j => .int (i - j)) := opI0 fun _ _ _ _ _ _ _ q => sub_int q
theorem op_mul : OpR X (binaryOp .Mult) (rI CMul fun i j => .int (i * j)) := opI fun _ _ _ _ _ _ _ hc q => mul_int q hc.ok
/-- // by a positive divisor -/
theorem op_fdiv : OpR X (binaryOp .FloorDiv) (rI CDiv fun i j => .int (i / j)) := opI fun i j _ _ _ _ _ hc q => by
  have h1 : (0 : Int) < j := hc.1
  have h2 : j < 1073741824 := hc.2
  exact floordiv_int (by omega) (by rw [Int.fdiv_eq_ediv_of_nonneg i (by omega)]; exact q) (.inl (PyProof.noPylong_small (by omega)))
theorem op_fdivN : OpR X (binaryOp .FloorDiv) (rI CDivN fun i j => .int (i.fdiv j)) := opI fun _ _ _ _ _ _ _ hc q => floordiv_int hc.1 q (.inl (PyProof.noPylong_small hc.2))
/-- % by a positive divisor of any size -/
theorem op_mod : OpR X (binaryOp .Mod) (rI (fun _ j => 0 < j) fun i j => .int (i % j)) := opI fun i j _ _ _ _ _ hc q => by
  have h1 : (0 : Int) < j := hc
  exact mod_int' (by omega) (by rw [Int.fmod_eq_emod_of_nonneg i (by omega)]; exact q)
theorem op_modN : OpR X (binaryOp .Mod) (rI (fun _ j => j ≠ 0) fun i j => .int (i.fmod j)) := opI fun _ _ _ _ _ _ _ hc q => mod_int' hc q
theorem op_pow : OpR X (binaryOp .Pow) (rI CPow fun i j => .int (i ^ j.toNat)) := opI fun _ _ _ _ _ _ _ hc q => pow_int_small hc.1 hc.2.1 hc.2.2 q
theorem op_shl : OpR X (binaryOp .LShift) (rI CPow fun i j => .int (i * 2 ^ j.toNat)) := opI fun _ _ _ _ _ _ _ hc q => lshift_int_small hc.1 hc.2.1 hc.2.2 q
theorem op_shr : OpR X (binaryOp .RShift) (rI (fun _ j => 0 ≤ j) fun i j => .int (i / 2 ^ j.toNat)) := opI fun i j _ _ _ _ _ hc q =>
  rshift_int hc (by rw [Int.fdiv_eq_ediv_of_nonneg i (two_pow_nn _)]; exact q)
theorem op_and : OpR X (binaryOp .BitAnd) (rI0 fun i j => .int (Builtin.bitAnd i j)) := opI0 fun _ _ _ _ _ _ _ q => and_int q
theorem op_or : OpR X (binaryOp .BitOr) (rI0 fun i j => .int (Builtin.bitOr i j)) := opI0 fun _ _ _ _ _ _ _ q => or_int q
theorem op_xor : OpR X (binaryOp .BitXor) (rI0 fun i j => .int (Builtin.bitXor i j)) := opI0 fun _ _ _ _ _ _ _ q => xor_int q

theorem iop_add : OpR X (inplaceOp .Add) (rI0 fun i j => .int (i + j)) := opI0 fun _ _ _ _ _ _ _ q => iadd_int q
theorem iop_sub : OpR X (inplaceOp .Sub) (rI0 fun i j => .int (i - j)) := opI0 fun _ _ _ _ _ _ _ q => isub_int q
theorem iop_mul : OpR X (inplaceOp .Mult) (rI CMul fun i j => .int (i * j)) := opI fun _ _ _ _ _ _ _ hc q => imul_int q hc.ok
theorem iop_fdiv : OpR X (inplaceOp .FloorDiv) (rI CDiv fun i j => .int (i / j)) := opI fun i j _ _ _ _ _ hc q => by
  have h1 : (0 : Int) < j := hc.1
  have h2 : j < 1073741824 := hc.2
  exact ifloordiv_int (by omega) (by rw [Int.fdiv_eq_ediv_of_nonneg i (by omega)]; exact q) (.inl (PyProof.noPylong_small (by omega)))
theorem iop_mod : OpR X (inplaceOp .Mod) (rI (fun _ j => 0 < j) fun i j => .int (i % j)) := opI fun i j _ _ _ _ _ hc q => by
  have h1 : (0 : Int) < j := hc
  exact imod_int (by omega) (by rw [Int.fmod_eq_emod_of_nonneg i (by omega)]; exact q)
theorem iop_shl : OpR X (inplaceOp .LShift) (rI CPow fun i j => .int (i * 2 ^ j.toNat)) := opI fun _ _ _ _ _ _ _ hc q => ilshift_int_small hc.1 hc.2.1 hc.2.2 q
theorem iop_shr : OpR X (inplaceOp .RShift) (rI (fun _ j => 0 ≤ j) fun i j => .int (i / 2 ^ j.toNat)) := opI fun i j _ _ _ _ _ hc q =>
  irshift_int hc (by rw [Int.fdiv_eq_ediv_of_nonneg i (two_pow_nn _)]; exact q)
theorem iop_and : OpR X (inplaceOp .BitAnd) (rI0 fun i j => .int (Builtin.bitAnd i j)) := opI0 fun _ _ _ _ _ _ _ q => iand_int q
theorem iop_or : OpR X (inplaceOp .BitOr) (rI0 fun i j => .int (Builtin.bitOr i j)) := opI0 fun _ _ _ _ _ _ _ q => ior_int q
theorem iop_xor : OpR X (inplaceOp .BitXor) (rI0 fun i j => .int (Builtin.bitXor i j)) := opI0 fun _ _ _ _ _ _ _ q => ixor_int q

theorem unI {f : Value → Sem Value} {g : Int → Int}
    (rule : ∀ (i : Int) (t : Tok) (s : Shared) (Q : Value → Shared → Prop) (E : Value → Shared → Prop), Q (.int (g i) s.toks) { s with toks := s.toks + 1 } → wpAny (model X.prog X.w) X.A (f (.int i t)) Q E s) :
    UnR X f (rU fun i => .int (g i)) := by
  intro pins s σ H x v Q I rx h
  obtain ⟨i, rfl, q⟩ := h
  obtain ⟨t, rfl⟩ := rx
  exact rule i t s _ _ ⟨.int (g i), H, I.tok _, ⟨_, rfl⟩, q⟩
theorem un_neg : UnR X (unaryOp .USub) (rU fun i => .int (-i)) := unI fun _ _ _ _ _ q => neg_int q
theorem un_inv : UnR X (unaryOp .Invert) (rU fun i => .int (Builtin.bitNot i)) := unI fun _ _ _ _ _ q => invert_int q

/-! ### bools among ints: n += (a < b) -/
theorem op_add_ib : OpR X (binaryOp .Add) (fun x y H Q => ∃ i k, x = .int i ∧ y = .bl k ∧ Q (.int (i + b2i k)) H) := by
  intro pins s σ H x y v u Q I rx ry h
  obtain ⟨i, k, rfl, rfl, q⟩ := h
  obtain ⟨t, rfl⟩ := rx
  cases ry
  exact add_int_bool ⟨.int (i + b2i k), H, I.tok _, ⟨_, rfl⟩, q⟩
end

/-! ### comparisons -/
/-- the scalars that == tells apart as data does -/
def scal : V → V → Bool
  | .non, .non => true | .non, .int _ => true | .int _, .non => true | .non, .bl _ => true | .bl _, .non => true | .non, .str _ => true | .str _, .non => true
  | .int _, .int _ => true | .bl _, .bl _ => true | .str _, .str _ => true | .byt _, .byt _ => true
  | .int _, .str _ => true | .str _, .int _ => true | .bl _, .str _ => true | .str _, .bl _ => true
  | _, _ => false
def rEq : R2 := fun x y H Q => scal x y = true ∧ Q (.bl (decide (x = y))) H
def rNe : R2 := fun x y H Q => scal x y = true ∧ Q (.bl (!decide (x = y))) H

theorem dec_int {i j : Int} : decide (V.int i = V.int j) = (i == j) := by
  rw [Bool.eq_iff_iff]
  simp
theorem dec_bl {i j : Bool} : decide (V.bl i = V.bl j) = (i == j) := by
  rw [Bool.eq_iff_iff]
  simp
theorem dec_str {i j : Str} : decide (V.str i = V.str j) = (i == j) := by
  rw [Bool.eq_iff_iff]
  simp
theorem dec_byt {i j : Array UInt8} : decide (V.byt i = V.byt j) = (i.toList == j.toList) := by
  rw [Bool.eq_iff_iff]
  cases i
  cases j
  simp

section
variable {X : Cx} {a b c : Expr} {ta tb tc : TE} {pos : Pos}
theorem fin_bl {pins : List (Addr × Obj)} {σ : St} {H : Hp} {s : Shared} {Q : VK} {k k' : Bool} (I : Inv X pins σ H s) (q : Q (.bl k) H) (e : k = k') : EP X pins σ Q (.bool k') s := by
  subst e
  exact ⟨.bl k, H, I, rfl, q⟩
theorem op_eq : OpR X (compareOp .Eq) rEq := by
  intro pins s σ H x y v u Q I rx ry h
  obtain ⟨hs, q⟩ := h
  cases x with
  | non =>
    cases rx
    cases y with
    | non => cases ry; exact PySem.EqNone.eq_none_none (fin_bl I q (by simp))
    | bl j => cases ry; exact PySem.EqNone.eq_none_bool (fin_bl I q (by simp))
    | int j => obtain ⟨t', rfl⟩ := ry; exact PySem.EqNone.eq_none_int (fin_bl I q (by simp))
    | str j => obtain ⟨t', rfl⟩ := ry; exact PySem.EqNone.eq_none_str (fin_bl I q (by simp))
    | _ => exact absurd (show false = true from hs) Bool.false_ne_true
  | bl i =>
    cases rx
    cases y with
    | non => cases ry; exact PySem.EqNone.eq_bool_none (fin_bl I q (by simp))
    | bl j => cases ry; exact eq_bool (fin_bl I q dec_bl)
    | str j => obtain ⟨t', rfl⟩ := ry; exact PySem.EqMixed.eq_bool_str (fin_bl I q (by simp))
    | _ => exact absurd (show false = true from hs) Bool.false_ne_true
  | int i =>
    obtain ⟨t, rfl⟩ := rx
    cases y with
    | non => cases ry; exact PySem.EqNone.eq_int_none (fin_bl I q (by simp))
    | int j => obtain ⟨t', rfl⟩ := ry; exact eq_int (fin_bl I q dec_int)
    | str j => obtain ⟨t', rfl⟩ := ry; exact PySem.EqMixed.eq_int_str (fin_bl I q (by simp))
    | _ => exact absurd (show false = true from hs) Bool.false_ne_true
  | str i =>
    obtain ⟨t, rfl⟩ := rx
    cases y with
    | non => cases ry; exact PySem.EqNone.eq_str_none (fin_bl I q (by simp))
    | bl j => cases ry; exact PySem.EqMixed.eq_str_bool (fin_bl I q (by simp))
    | int j => obtain ⟨t', rfl⟩ := ry; exact PySem.EqMixed.eq_str_int (fin_bl I q (by simp))
    | str j => obtain ⟨t', rfl⟩ := ry; exact eq_str (fin_bl I q dec_str)
    | _ => exact absurd (show false = true from hs) Bool.false_ne_true
  | byt i =>
    obtain ⟨t, rfl⟩ := rx
    cases y with
    | byt j => obtain ⟨t', rfl⟩ := ry; exact PySem.W.eq_bytes (fin_bl I q dec_byt)
    | _ => exact absurd (show false = true from hs) Bool.false_ne_true
  | _ => cases y <;> exact absurd (show false = true from hs) Bool.false_ne_true
theorem op_ne : OpR X (compareOp .NotEq) rNe := by
  intro pins s σ H x y v u Q I rx ry h
  obtain ⟨hs, q⟩ := h
  cases x with
  | non =>
    cases rx
    cases y with
    | non => cases ry; exact PySem.EqNone.ne_none_none (fin_bl I q (by simp))
    | bl j => cases ry; exact PySem.EqNone.ne_none_bool (fin_bl I q (by simp))
    | int j => obtain ⟨t', rfl⟩ := ry; exact PySem.EqNone.ne_none_int (fin_bl I q (by simp))
    | str j => obtain ⟨t', rfl⟩ := ry; exact PySem.EqNone.ne_none_str (fin_bl I q (by simp))
    | _ => exact absurd (show false = true from hs) Bool.false_ne_true
  | bl i =>
    cases rx
    cases y with
    | non => cases ry; exact PySem.EqNone.ne_bool_none (fin_bl I q (by simp))
    | bl j => cases ry; exact ne_bool (fin_bl I q (congrArg not dec_bl))
    | str j => obtain ⟨t', rfl⟩ := ry; exact PySem.EqMixed.ne_bool_str (fin_bl I q (by simp))
    | _ => exact absurd (show false = true from hs) Bool.false_ne_true
  | int i =>
    obtain ⟨t, rfl⟩ := rx
    cases y with
    | non => cases ry; exact PySem.EqNone.ne_int_none (fin_bl I q (by simp))
    | int j => obtain ⟨t', rfl⟩ := ry; exact ne_int (fin_bl I q (congrArg not dec_int))
    | str j => obtain ⟨t', rfl⟩ := ry; exact PySem.EqMixed.ne_int_str (fin_bl I q (by simp))
    | _ => exact absurd (show false = true from hs) Bool.false_ne_true
  | str i =>
    obtain ⟨t, rfl⟩ := rx
    cases y with
    | non => cases ry; exact PySem.EqNone.ne_str_none (fin_bl I q (by simp))
    | bl j => cases ry; exact PySem.EqMixed.ne_str_bool (fin_bl I q (by simp))
    | int j => obtain ⟨t', rfl⟩ := ry; exact PySem.EqMixed.ne_str_int (fin_bl I q (by simp))
    | str j => obtain ⟨t', rfl⟩ := ry; exact ne_str (fin_bl I q (congrArg not dec_str))
    | _ => exact absurd (show false = true from hs) Bool.false_ne_true
  | byt i =>
    obtain ⟨t, rfl⟩ := rx
    cases y with
    | byt j => obtain ⟨t', rfl⟩ := ry; exact PySem.W.ne_bytes (fin_bl I q (congrArg not dec_byt))
    | _ => exact absurd (show false = true from hs) Bool.false_ne_true
  | _ => cases y <;> exact absurd (show false = true from hs) Bool.false_ne_true

theorem op_lt : OpR X (compareOp .Lt) (rI0 fun i j => .bl (decide (i < j))) := opB0 fun _ _ _ _ _ _ _ q => lt_int q
theorem op_le : OpR X (compareOp .LtE) (rI0 fun i j => .bl (decide (i ≤ j))) := opB0 fun _ _ _ _ _ _ _ q => le_int q
theorem op_gt : OpR X (compareOp .Gt) (rI0 fun i j => .bl (decide (j < i))) := opB0 fun _ _ _ _ _ _ _ q => gt_int q
theorem op_ge : OpR X (compareOp .GtE) (rI0 fun i j => .bl (decide (j ≤ i))) := opB0 fun _ _ _ _ _ _ _ q => ge_int q
theorem op_lt_str : OpR X (compareOp .Lt) (fun x y H Q => ∃ i j, x = .str i ∧ y = .str j ∧ Q (.bl (decide (i.cps.toList < j.cps.toList))) H) := by
  intro pins s σ H x y v u Q I rx ry h
  obtain ⟨i, j, rfl, rfl, q⟩ := h
  obtain ⟨t, rfl⟩ := rx
  obtain ⟨t', rfl⟩ := ry
  exact lt_str (fin_bl I q rfl)
/-- the one string within the other -/
theorem op_in_str : OpR X (compareOp .In) (fun x y H Q => ∃ i j, x = .str i ∧ y = .str j ∧ Q (.bl (!(Builtin.Str.occurrences j i 0 j.length 1).isEmpty)) H) := by
  intro pins s σ H x y v u Q I rx ry h
  obtain ⟨i, j, rfl, rfl, q⟩ := h
  obtain ⟨t, rfl⟩ := rx
  obtain ⟨t', rfl⟩ := ry
  exact in_str (fin_bl I q rfl)

/-- is None, is not None: the right side a value none -/
theorem op_isN : OpR X (compareOp .Is) (fun x y H Q => y = .non ∧ Q (.bl (decide (x = .non))) H) := by
  intro pins s σ H x y v u Q I rx ry h
  obtain ⟨rfl, q⟩ := h
  cases ry
  refine is_none_gen (fin_bl I q ?_)
  cases x <;> first
    | (cases rx; rfl)
    | (obtain ⟨t, rfl⟩ := rx; rfl)
theorem op_notN : OpR X (compareOp .IsNot) (fun x y H Q => y = .non ∧ Q (.bl (!decide (x = .non))) H) := by
  intro pins s σ H x y v u Q I rx ry h
  obtain ⟨rfl, q⟩ := h
  cases ry
  refine isnot_none_gen (fin_bl I q ?_)
  cases x <;> first
    | (cases rx; rfl)
    | (obtain ⟨t, rfl⟩ := rx; rfl)

theorem op_notin_str : OpR X (compareOp .NotIn) (fun x y H Q => ∃ i j, x = .str i ∧ y = .str j ∧ Q (.bl (!(!(Builtin.Str.occurrences j i 0 j.length 1).isEmpty))) H) := by
  intro pins s σ H x y v u Q I rx ry h
  obtain ⟨i, j, rfl, rfl, q⟩ := h
  obtain ⟨t, rfl⟩ := rx
  obtain ⟨t', rfl⟩ := ry
  exact notIn_str (fin_bl I q rfl)
/-- is, is not of two objects that are tracked lists or instances -/
def isObj : HO → Bool
  | .lst _ => true
  | .ins _ _ _ => true
  | _ => false
theorem obj_there {pins : List (Addr × Obj)} {s : Shared} {σ : St} {H : Hp} {a : Addr} {o : HO} (I : Inv X pins σ H s) (h : H a = some o) (p : isObj o = true) : ∃ ob, s.heap.get? a = some ob ∧ ob.cls ≠ .type "tuple" := by
  cases o with
  | lst xs =>
    obtain ⟨_, its, n, _, e⟩ : xs.length ≤ sizeLine ∧ ∃ (its : List Value) (n : Nat), Vals xs its ∧ s.heap.get? a = some { cls := .type "list", data := .seq its.toArray n } := I.hok a _ h
    exact ⟨_, e, (by show Value.type "list" ≠ .type "tuple"; decide +kernel)⟩
  | ins C dx fs =>
    have x := I.hok a _ h
    obtain ⟨_, _, _, e, _⟩ := x
    exact ⟨_, e, (by show Value.ref C ≠ .type "tuple"; exact fun z => by cases z)⟩
  | _ => exact absurd (show false = true from p) Bool.false_ne_true
theorem op_is_ref : OpR X (compareOp .Is) (fun x y H Q => ∃ a b oa ob, x = .ref a ∧ y = .ref b ∧ H a = some oa ∧ isObj oa = true ∧ H b = some ob ∧ isObj ob = true ∧ Q (.bl (decide (a = b))) H) := by
  intro pins s σ H x y v u Q I rx ry h
  obtain ⟨a, b, oa, ob, rfl, rfl, ha, pa, hb, pb, q⟩ := h
  cases rx
  cases ry
  obtain ⟨o1, e1, n1⟩ := obj_there I ha pa
  obtain ⟨o2, e2, _⟩ := obj_there I hb pb
  by_cases z : a = b
  · subst z
    exact wpAny_is_ref_self (fin_bl I q (by simp))
  · exact wpAny_is_ref_other z e1 e2 n1 (fin_bl I q (by simp [z]))
theorem op_isnot_ref : OpR X (compareOp .IsNot) (fun x y H Q => ∃ a b oa ob, x = .ref a ∧ y = .ref b ∧ H a = some oa ∧ isObj oa = true ∧ H b = some ob ∧ isObj ob = true ∧ Q (.bl (!decide (a = b))) H) := by
  intro pins s σ H x y v u Q I rx ry h
  obtain ⟨a, b, oa, ob, rfl, rfl, ha, pa, hb, pb, q⟩ := h
  cases rx
  cases ry
  obtain ⟨o1, e1, n1⟩ := obj_there I ha pa
  obtain ⟨o2, e2, _⟩ := obj_there I hb pb
  by_cases z : a = b
  · subst z
    exact wpAny_isNot_ref_self (fin_bl I q (by simp))
  · exact wpAny_isNot_ref_other z e1 e2 n1 (fin_bl I q (by simp [z]))

/-- two rules for one operation: by cases -/
theorem OpR.or {f : Value → Value → Sem Value} {r r' : R2} (h : OpR X f r) (h' : OpR X f r') : OpR X f (fun x y H Q => r x y H Q ∨ r' x y H Q) := by
  intro pins s σ H x y v u Q I rx ry q
  rcases q with q | q
  · exact h pins s σ H x y v u Q I rx ry q
  · exact h' pins s σ H x y v u Q I rx ry q

theorem nomark (b : Expr) {op : CmpOp} (h : op ≠ .In := by decide) (h2 : op ≠ .NotIn := by decide) : behindInMarks op b = false := by
  have e1 : (op == CmpOp.In) = false := by cases op <;> first | rfl | exact absurd rfl h
  have e2 : (op == CmpOp.NotIn) = false := by cases op <;> first | rfl | exact absurd rfl h2
  cases b <;> simp [behindInMarks, e1, e2]
/-- a comparison as a value; hm: nomark b, or (for in, not in) by with_unfolding_all rfl -/
theorem pe_cmpR {op : CmpOp} {r : R2} (ho : OpR X (compareOp op) r) (ha : PE X a ta) (hb : PE X b tb) (hm : behindInMarks op b = false) : PE X (.Compare a [op] [b] pos) (tOp r ta tb) := by
  intro pins s σ H Q I h
  exact wpAny_Compare1 (binT ha hb I h fun v u s2 x y H2 I2 rx ry q => ho pins s2 σ H2 x y v u Q I2 rx ry q) hm
/-- a reading of a value as a test -/
def tTest (t : TE) : TT := fun σ H Q => t σ H fun x H' => ∃ k, x = .bl k ∧ Q k H'
theorem pt_cmpR {op : CmpOp} {r : R2} (ho : OpR X (compareOp op) r) (ha : PE X a ta) (hb : PE X b tb) (hm : behindInMarks op b = false) : PT X (.Compare a [op] [b] pos) (tTest (tOp r ta tb)) := by
  intro pins s σ H Q I h
  refine wpAny_isTrue_Compare1 (thn (ha pins s σ H _ I h) fun v s1 ⟨x, H1, I1, r1, q1⟩ => thn (hb pins s1 σ H1 _ I1 q1) fun u s2 ⟨y, H2, I2, r2, q2⟩ =>
    thn (ho pins s2 σ H2 x y v u _ I2 r1 r2 q2) fun c s3 ⟨z, H3, I3, r3, k, e, q3⟩ => ?_) hm
  subst e
  cases r3
  exact wpAny_truthy_bool ⟨H3, I3, q3⟩
/-- a op1 b op2 c -/
def tChain (r r' : R2) (ta tb tc : TE) : TE := fun σ H Q => ta σ H fun x H1 => tb σ H1 fun y H2 => r x y H2 fun z H3 => ∃ k, z = .bl k ∧
  (if k = true then tc σ H3 fun w' H4 => r' y w' H4 Q else Q (.bl false) H3)
theorem pe_chain {op op' : CmpOp} {r r' : R2} (ho : OpR X (compareOp op) r) (ho' : OpR X (compareOp op') r') (ha : PE X a ta) (hb : PE X b tb) (hc : PE X c tc)
    (hm : lastMarks [op, op'] [b, c] = false := by with_unfolding_all rfl) : PE X (.Compare a [op, op'] [b, c] pos) (tChain r r' ta tb tc) := by
  intro pins s σ H Q I h
  refine Compare_chain (thn (ha pins s σ H _ I h) fun v s1 ⟨x, H1, I1, r1, q1⟩ => chain_link (thn (hb pins s1 σ H1 _ I1 q1) fun u s2 ⟨y, H2, I2, r2, q2⟩ =>
    thn (ho pins s2 σ H2 x y v u _ I2 r1 r2 q2) fun d s3 ⟨z, H3, I3, r3, k, e, q3⟩ => ?_)) hm
  subst e
  cases r3
  refine wpAny_truthy_bool ?_
  cases k with
  | false => exact ite_ff ⟨.bl false, H3, I3, rfl, q3⟩
  | true => exact ite_tt (chain_last (thn (hc pins s3 σ H3 _ I3 q3) fun w' s4 ⟨z', H4, I4, r4, q4⟩ => ho' pins s4 σ H4 y z' u w' Q I4 r2 r4 q4))
theorem pt_chain {op op' : CmpOp} {r r' : R2} (ho : OpR X (compareOp op) r) (ho' : OpR X (compareOp op') r') (ha : PE X a ta) (hb : PE X b tb) (hc : PE X c tc)
    (hm : lastMarks [op, op'] [b, c] = false := by with_unfolding_all rfl) : PT X (.Compare a [op, op'] [b, c] pos) (tTest (tChain r r' ta tb tc)) := by
  intro pins s σ H Q I h
  refine isTrue_chain (thn (ha pins s σ H _ I h) fun v s1 ⟨x, H1, I1, r1, q1⟩ => test_link (thn (hb pins s1 σ H1 _ I1 q1) fun u s2 ⟨y, H2, I2, r2, q2⟩ =>
    thn (ho pins s2 σ H2 x y v u _ I2 r1 r2 q2) fun d s3 ⟨z, H3, I3, r3, k, e, q3⟩ => ?_)) hm
  subst e
  cases r3
  refine wpAny_truthy_bool ?_
  cases k with
  | false =>
    obtain ⟨k', e', q'⟩ := q3
    cases e'
    exact ite_ff ⟨H3, I3, q'⟩
  | true =>
    refine ite_tt (test_last (thn (hc pins s3 σ H3 _ I3 q3) fun w' s4 ⟨z', H4, I4, r4, q4⟩ => thn (ho' pins s4 σ H4 y z' u w' _ I4 r2 r4 q4) fun d' s5 ⟨z2, H5, I5, r5, k2, e2, q5⟩ => ?_))
    subst e2
    cases r5
    exact wpAny_truthy_bool ⟨H5, I5, q5⟩

/-! ### truth -/
/-- a value's truth by the abstract heap -/
def TruV (K : PySem.W.Frag) (x : V) (H : Hp) (k : Bool) : Prop :=
  match x with
  | .non => k = false
  | .bl b => k = b
  | .int i => k = (i != 0)
  | .str y => y.length ≤ sizeLine ∧ k = ((y.length : Int) != 0)
  | .byt y => y.size ≤ sizeLine ∧ k = ((y.size : Int) != 0)
  | .ref p => (∃ xs, SqL K H p xs ∧ k = !xs.isEmpty) ∨ (∃ xs, SqT K H p xs ∧ k = !xs.isEmpty) ∨ ∃ kvs, H p = some (.dK kvs) ∧ k = !kvs.isEmpty
  | _ => False
theorem isEmpty_kv {κ : Type} {kvs : List (κ × V)} {vs : List (κ × Value)} (r : KV kvs vs) : (!vs.isEmpty) = !kvs.isEmpty := by
  cases r <;> rfl
theorem isEmpty_of {xs : List V} {its : List Value} (r : Vals xs its) : (!its.toArray.isEmpty) = !xs.isEmpty := by
  cases r <;> simp
theorem line63 : (sizeLine : Nat) < 2 ^ 63 := by rw [sizeLine_eq]; decide
theorem tru_ok : TruR X (fun x H Q => ∃ k, TruV X.K x H k ∧ Q k H) := by
  intro pins s σ H x v Q I rx h
  obtain ⟨k, e, q⟩ := h
  have hl := line63
  have hs : sizeLine = 16777216 := sizeLine_eq
  cases x with
  | non =>
    cases rx
    have e' : k = false := e
    subst e'
    exact truthy_none ⟨H, I, q⟩
  | bl b =>
    cases rx
    have e' : k = b := e
    subst e'
    exact wpAny_truthy_bool ⟨H, I, q⟩
  | int i =>
    obtain ⟨t, rfl⟩ := rx
    have e' : k = (i != 0) := e
    subst e'
    exact PySem.P.truthy_int ⟨H, I, q⟩
  | str y =>
    obtain ⟨t, rfl⟩ := rx
    obtain ⟨hy, e'⟩ : y.length ≤ sizeLine ∧ k = ((y.length : Int) != 0) := e
    subst e'
    exact PySem.P.truthy_str (by omega) ⟨H, I.tok _, q⟩
  | byt y =>
    obtain ⟨t, rfl⟩ := rx
    obtain ⟨hy, e'⟩ : y.size ≤ sizeLine ∧ k = ((y.size : Int) != 0) := e
    subst e'
    exact PySem.W.truthy_bytes (by omega) ⟨H, I.tok _, q⟩
  | ref p =>
    cases rx
    have e' : (∃ xs, SqL X.K H p xs ∧ k = !xs.isEmpty) ∨ (∃ xs, SqT X.K H p xs ∧ k = !xs.isEmpty) ∨ ∃ kvs, H p = some (.dK kvs) ∧ k = !kvs.isEmpty := e
    rcases e' with ⟨xs, hx, e'⟩ | ⟨xs, hx, e'⟩ | ⟨kvs, hx, e'⟩
    · subst e'
      obtain ⟨its, r, pl, hz⟩ := I.list hx
      have hlen := r.length
      exact wpAny_truthy_list pl.isList (by simp only [List.size_toArray]; omega) ⟨H, I.tok _, by rw [isEmpty_of r]; exact q⟩
    · subst e'
      obtain ⟨its, r, pl, hz⟩ := I.tuple hx
      have hlen := r.length
      exact truthy_tuple pl (by simp only [List.size_toArray]; omega) ⟨H, I.tok _, by rw [isEmpty_of r]; exact q⟩
    · subst e'
      obtain ⟨hz, hS, vs, r, m⟩ : kvs.length ≤ sizeLine ∧ (p == sysModules) = false ∧ ∃ vs, KV kvs vs ∧ s.heap.DictOf (mixKind X.prog X.w) p vs := I.hok p _ hx
      have hlen : kvs.length = vs.length := Paired.length r
      exact wpAny_truthy_dict hS m (by omega) ⟨H, I.tok _, by rw [isEmpty_kv r]; exact q⟩
  | _ => exact (show False from e).elim
/-- any expression whose test is its value's truth (a name, a call, a subscript, a field ..: he by fun _ => rfl) -/
theorem pt_truth (ha : PE X a ta) (he : ∀ whole, isTrue a X.env whole = (do let v ← whole; standAt a.pos; holding [v] (truthy v))) :
    PT X a (fun σ H Q => ta σ H fun x H' => ∃ k, TruV X.K x H' k ∧ Q k H') := by
  intro pins s σ H Q I h
  exact isTrue_plain (thn (ha pins s σ H _ I h) fun v s1 ⟨x, H1, I1, r1, q1⟩ => tru_ok pins s1 σ H1 x v Q I1 r1 q1) (he _)

/-! ### strs and bytes -/
theorem pe_byt {x : List UInt8} {k : Nat} : PE X (.Constant (.bytes x) k pos) (fun _ H Q => Q (.byt x.toArray) H) := fun _ _ _ H _ I h => PySem.W.Constant_bytes ⟨.byt x.toArray, H, I.tok _, ⟨_, rfl⟩, h⟩
theorem op_add_str : OpR X (binaryOp .Add) (fun x y H Q => ∃ i j, x = .str i ∧ y = .str j ∧ i.length + j.length ≤ sizeLine ∧ Q (.str (i ++ j)) H) := by
  intro pins s σ H x y v u Q I rx ry h
  obtain ⟨i, j, rfl, rfl, hz, q⟩ := h
  obtain ⟨t, rfl⟩ := rx
  obtain ⟨t', rfl⟩ := ry
  exact add_str (fun t' tk => ⟨.str (i ++ j), H, I.tok _, ⟨_, rfl⟩, q⟩) hz
theorem iop_add_str : OpR X (inplaceOp .Add) (fun x y H Q => ∃ i j, x = .str i ∧ y = .str j ∧ i.length + j.length ≤ sizeLine ∧ Q (.str (i ++ j)) H) := by
  intro pins s σ H x y v u Q I rx ry h
  obtain ⟨i, j, rfl, rfl, hz, q⟩ := h
  obtain ⟨t, rfl⟩ := rx
  obtain ⟨t', rfl⟩ := ry
  exact iadd_str (fun t' tk => ⟨.str (i ++ j), H, I.tok _, ⟨_, rfl⟩, q⟩) hz
theorem op_add_byt : OpR X (binaryOp .Add) (fun x y H Q => ∃ i j, x = .byt i ∧ y = .byt j ∧ i.size + j.size ≤ 16777216 ∧ Q (.byt (i ++ j)) H) := by
  intro pins s σ H x y v u Q I rx ry h
  obtain ⟨i, j, rfl, rfl, hz, q⟩ := h
  obtain ⟨t, rfl⟩ := rx
  obtain ⟨t', rfl⟩ := ry
  exact PySem.W.KBy.add_bytes hz (fun t' tk => ⟨.byt (i ++ j), H, I.tok _, ⟨_, rfl⟩, q⟩)

def PlainIxT (b : Expr) : Prop := ∀ o i, subscripted b false o i = operate [o, i] (getItem o i)
/-- s[i], 0 ≤ i < len -/
theorem pe_item_str (ha : PE X a ta) (hb : PE X b tb) (hs : PlainIxT b) :
    PE X (.Subscript a b pos) (tOp (fun x y H Q => ∃ z i c, x = .str z ∧ y = .int i ∧ 0 ≤ i ∧ i < 2 ^ 63 ∧ i < z.length ∧ z.cps[i.toNat]? = some c ∧ Q (.str ⟨#[c]⟩) H) ta tb) := by
  intro pins s σ H Q I h
  refine Subscript_ (binT ha hb I h fun v u s2 x y H2 I2 rx ry q => ?_)
  obtain ⟨z, i, c, rfl, rfl, h0, h63, h1, hc, q⟩ := q
  obtain ⟨t, rfl⟩ := rx
  obtain ⟨t', rfl⟩ := ry
  have e : seqIndex? i z.length = some i.toNat := PySem.StrLaws.seqIndex_nonneg h0 h1
  exact tail_any (typeIs_str s2 z t) slot_str_getitem.lookup (getItem_str (c := c) (by
    have e1 : decide (i < -(2 ^ 63 : Int)) = false := decide_eq_false (by omega)
    have e2 : decide (i ≥ 2 ^ 63) = false := decide_eq_false (by omega)
    rw [e1, e2] <;> rfl) (by rw [e]; exact hc) ⟨.str ⟨#[c]⟩, H2, I2.tok _, ⟨_, rfl⟩, q⟩) (hs _ _)
/-- b[i], 0 ≤ i < len -/
theorem pe_item_byt (ha : PE X a ta) (hb : PE X b tb) (hs : PlainIxT b) :
    PE X (.Subscript a b pos) (tOp (fun x y H Q => ∃ (z : List UInt8) (i : Int), x = .byt z.toArray ∧ y = .int i ∧ z.length ≤ sizeLine ∧ 0 ≤ i ∧ i < z.length ∧ Q (.int ((z.getD i.toNat 0).toNat : Nat)) H) ta tb) := by
  intro pins s σ H Q I h
  refine Subscript_ (binT ha hb I h fun v u s2 x y H2 I2 rx ry q => ?_)
  obtain ⟨z, i, rfl, rfl, hz, h0, h1, q⟩ := q
  obtain ⟨t, rfl⟩ := rx
  obtain ⟨t', rfl⟩ := ry
  have hl : sizeLine = 16777216 := sizeLine_eq
  exact tail_any (PySem.W.typeIs_bytes s2 z.toArray t) PySem.W.FB.slot_bytes_getitem.lookup (PySem.W.getItem_bytes (by omega) h0 h1 ⟨.int ((z.getD i.toNat 0).toNat : Nat), H2, I2.tok _, ⟨_, rfl⟩, q⟩) (hs _ _)

/-! ### scalar builtins, by CallR -/
theorem vals1 {x : V} {us : List Value} (r : Vals [x] us) : ∃ u, us = [u] ∧ RelV x u := by
  cases r with
  | cons r1 r2 => cases r2; exact ⟨_, rfl, r1⟩
theorem vals2 {x y : V} {us : List Value} (r : Vals [x, y] us) : ∃ u w', us = [u, w'] ∧ RelV x u ∧ RelV y w' := by
  cases r with
  | cons r1 r2 =>
    cases r2 with
    | cons r3 r4 => cases r4; exact ⟨_, _, rfl, r1, r3⟩
theorem call_abs : CallR X (.builtin "abs") (fun xs H Q => ∃ i, xs = [.int i] ∧ Q (.int (if i < 0 then -i else i)) H) := by
  intro pins s σ H xs us Q I r h
  obtain ⟨i, rfl, q⟩ := h
  obtain ⟨u, rfl, t, rfl⟩ := vals1 r
  exact call_abs_int fun u tk => ⟨.int (if i < 0 then -i else i), H, I.tok _, ⟨_, rfl⟩, q⟩
theorem call_max2 (hc : X.calm = true) : CallR X (.builtin "max") (fun xs H Q => ∃ i j, xs = [.int i, .int j] ∧ Q (.int (if j > i then j else i)) H) := by
  intro pins s σ H xs us Q I r h
  obtain ⟨i, j, rfl, q⟩ := h
  obtain ⟨u, w', rfl, ⟨t, rfl⟩, ⟨t', rfl⟩⟩ := vals2 r
  refine max_two_ints (I.ok.hd hc) fun h' tk k => ⟨_, H, I.kept k, ?_, q⟩
  by_cases hj : j > i
  · rw [if_pos hj, if_pos hj]; exact ⟨_, rfl⟩
  · rw [if_neg hj, if_neg hj]; exact ⟨_, rfl⟩
theorem call_min2 (hc : X.calm = true) : CallR X (.builtin "min") (fun xs H Q => ∃ i j, xs = [.int i, .int j] ∧ Q (.int (if j < i then j else i)) H) := by
  intro pins s σ H xs us Q I r h
  obtain ⟨i, j, rfl, q⟩ := h
  obtain ⟨u, w', rfl, ⟨t, rfl⟩, ⟨t', rfl⟩⟩ := vals2 r
  refine min_two_ints (I.ok.hd hc) fun h' tk k => ⟨_, H, I.kept k, ?_, q⟩
  by_cases hj : j < i
  · rw [if_pos hj, if_pos hj]; exact ⟨_, rfl⟩
  · rw [if_neg hj, if_neg hj]; exact ⟨_, rfl⟩
theorem call_int1 : CallR X (.type "int") (fun xs H Q => (∃ i, xs = [.int i] ∧ Q (.int i) H) ∨ ∃ k, xs = [.bl k] ∧ Q (.int (if k then 1 else 0)) H) := by
  intro pins s σ H xs us Q I r h
  rcases h with ⟨i, rfl, q⟩ | ⟨k, rfl, q⟩
  · obtain ⟨u, rfl, t, rfl⟩ := vals1 r
    exact call_int_int ⟨.int i, H, I, ⟨_, rfl⟩, q⟩
  · obtain ⟨u, rfl, r1⟩ := vals1 r
    cases r1
    exact call_int_bool ⟨.int (if k then 1 else 0), H, I.tok _, ⟨_, rfl⟩, q⟩
theorem call_bool1 : CallR X (.type "bool") (fun xs H Q => (∃ i, xs = [.int i] ∧ Q (.bl (i != 0)) H) ∨ ∃ k, xs = [.bl k] ∧ Q (.bl k) H) := by
  intro pins s σ H xs us Q I r h
  rcases h with ⟨i, rfl, q⟩ | ⟨k, rfl, q⟩
  · obtain ⟨u, rfl, t, rfl⟩ := vals1 r
    exact call_bool_int ⟨.bl (i != 0), H, I, rfl, q⟩
  · obtain ⟨u, rfl, r1⟩ := vals1 r
    cases r1
    exact call_bool_bool ⟨.bl k, H, I, rfl, q⟩
theorem call_str_int : CallR X (.type "str") (fun xs H Q => ∃ i, xs = [.int i] ∧ i.natAbs.log2 < 1920 ∧ Q (.str (toString i)) H) := by
  intro pins s σ H xs us Q I r h
  obtain ⟨i, rfl, hz, q⟩ := h
  obtain ⟨u, rfl, t, rfl⟩ := vals1 r
  exact PySem.P.str_of_int hz ⟨.str _, H, I.tok _, ⟨_, rfl⟩, q⟩
theorem call_ord : CallR X (.builtin "ord") (fun xs H Q => ∃ x, xs = [.str x] ∧ x.length = 1 ∧ Q (.int (x.cps.getD 0 0 : Nat)) H) := by
  intro pins s σ H xs us Q I r h
  obtain ⟨x, rfl, hz, q⟩ := h
  obtain ⟨u, rfl, t, rfl⟩ := vals1 r
  exact ord_of_one hz ⟨.int _, H, I.tok _, ⟨_, rfl⟩, q⟩
theorem call_chr : CallR X (.builtin "chr") (fun xs H Q => ∃ i, xs = [.int i] ∧ 0 ≤ i ∧ i ≤ 1114111 ∧ Q (.str ⟨#[i.toNat]⟩) H) := by
  intro pins s σ H xs us Q I r h
  obtain ⟨i, rfl, h0, h1, q⟩ := h
  obtain ⟨u, rfl, t, rfl⟩ := vals1 r
  exact chr_of_range h0 h1 ⟨.str _, H, I.tok _, ⟨_, rfl⟩, q⟩
/-- len of a str, a bytes, a list, a tuple -/
def LenV (K : PySem.W.Frag) (x : V) (H : Hp) (n : Nat) : Prop :=
  match x with
  | .str y => y.length ≤ sizeLine ∧ n = y.length
  | .byt y => y.size ≤ sizeLine ∧ n = y.size
  | .ref p => (∃ xs, SqL K H p xs ∧ n = xs.length) ∨ ∃ xs, SqT K H p xs ∧ n = xs.length
  | _ => False
theorem call_len : CallR X (.builtin "len") (fun xs H Q => ∃ x n, xs = [x] ∧ LenV X.K x H n ∧ Q (.int n) H) := by
  intro pins s σ H xs us Q I r h
  obtain ⟨x, n, rfl, e, q⟩ := h
  obtain ⟨u, rfl, rx⟩ := vals1 r
  have hl := line63
  have hs : sizeLine = 16777216 := sizeLine_eq
  cases x with
  | str y =>
    obtain ⟨t, rfl⟩ := rx
    obtain ⟨hy, e'⟩ : y.length ≤ sizeLine ∧ n = y.length := e
    subst e'
    exact len_str (by omega) ⟨.int _, H, I.tok _, ⟨_, rfl⟩, q⟩
  | byt y =>
    obtain ⟨t, rfl⟩ := rx
    obtain ⟨hy, e'⟩ : y.size ≤ sizeLine ∧ n = y.size := e
    subst e'
    exact PySem.W.len_bytes (by omega) ⟨.int _, H, I.tok _, ⟨_, rfl⟩, q⟩
  | ref p =>
    cases rx
    have e' : (∃ xs, SqL X.K H p xs ∧ n = xs.length) ∨ ∃ xs, SqT X.K H p xs ∧ n = xs.length := e
    rcases e' with ⟨xs, hx, e'⟩ | ⟨xs, hx, e'⟩
    · subst e'
      obtain ⟨its, r', pl, hz⟩ := I.list hx
      have hlen := r'.length
      exact Calls.call_len_list pl.isList (by simp only [List.size_toArray]; omega) ⟨.int xs.length, H, I.tok _, ⟨_, by simp only [List.size_toArray]; rw [hlen]⟩, q⟩
    · subst e'
      obtain ⟨its, r', pl, hz⟩ := I.tuple hx
      have hlen := r'.length
      exact len_tuple pl (by simp only [List.size_toArray]; omega) ⟨.int xs.length, H, I.tok _, ⟨_, by simp only [List.size_toArray]; rw [hlen]⟩, q⟩
  | _ => exact (show False from e).elim
/-- divmod: a new tuple -/
theorem call_divmod : CallR X (.builtin "divmod") (fun xs H Q => ∃ i j, xs = [.int i, .int j] ∧ CDiv i j ∧ ∀ p, H p = none → Q (.ref p) (upd H p (.tup [.int (i / j), .int (i % j)]))) := by
  intro pins s σ H xs us Q I r h
  obtain ⟨i, j, rfl, ⟨h1, h2⟩, q⟩ := h
  obtain ⟨u, w', rfl, ⟨t, rfl⟩, ⟨t', rfl⟩⟩ := vals2 r
  refine divmod_int (by omega) ?_ (.inl (PyProof.noPylong_small (by omega)))
  rw [Int.fdiv_eq_ediv_of_nonneg i (by omega), Int.fmod_eq_emod_of_nonneg i (by omega)]
  have hn : H s.heap.objs.size = none := I.hok.fresh (Nat.le_refl _)
  refine ⟨.ref s.heap.objs.size, _, ?_, rfl, q _ hn⟩
  refine I.laid (fun b o e => Heap.get?_push_of_some _ e) (Nat.le_refl _) ⟨by simp only [List.length_cons, List.length_nil]; rw [sizeLine_eq]; decide, [.int (i / j) s.toks, .int (i % j) (s.toks + 1)], .cons ⟨_, rfl⟩ (.cons ⟨_, rfl⟩ .nil), ?_⟩
  exact ⟨_, Heap.get?_push_size s.heap rfl, rfl, 0, rfl⟩
end
end L2

namespace L2
open PySem PySem.Spec PyProof.Rows

/-! ### an instance, its attributes a map -/
structure ObjM (h : Heap) (x dx C : Addr) (mA : Str → Option Value) : Prop where
  obj : h.get? x = some (PySem.W.instObj C dx)
  ns : h.Ns1 dx mA
  ne : dx ≠ x

theorem lookIn_ns {h : Heap} {dx : Addr} {mA : Str → Option Value} (n : h.Ns1 dx mA) : ∃ od, h.get? dx = some od ∧ ∀ name, PySem.W.lookIn name od = some (mA name) := by
  obtain ⟨o, es, ep, ho, hd, hk, _, hm⟩ := n
  refine ⟨o, ho, fun name => ?_⟩
  have e := hm name
  unfold nsFind findBy at e
  rw [← Array.find?_toList] at e
  unfold PySem.W.lookIn
  rw [hd]
  dsimp only
  split
  · rename_i y q
    rw [q] at e
    exact congrArg some e
  · rename_i q
    rw [q] at e
    have a : es.toList.any (·.refKey) = false := by
      rw [List.any_eq_false]
      intro y hy
      obtain ⟨z, t, hkey⟩ := hk y (Array.mem_toList_iff.mp hy)
      simp [DictEntry.refKey, hkey]
    have a' : ¬ es.toList.any (·.refKey) = true := by rw [a]; exact Bool.false_ne_true
    rw [if_neg a']
    exact congrArg some e

theorem ObjM.look {h : Heap} {x dx C : Addr} {mA : Str → Option Value} (I : ObjM h x dx C mA) : ∃ od, PySem.W.InstAt h x (PySem.W.instObj C dx) C (some od) ∧ ∀ name, PySem.W.lookIn name od = some (mA name) :=
  let ⟨od, ho, hl⟩ := lookIn_ns I.ns
  ⟨od, ⟨I.obj, rfl, rfl, ho⟩, hl⟩

section
variable {prog : Program} {w : World} {A : Around} {E : Value → Shared → Prop} {s : Shared} {K : PySem.W.Frag} {x dx C f : Addr} {mA : Str → Option Value} {name : Str} {v : Value}

theorem get_map {expr : Bool} {Q : Value → Shared → Prop} (X : K.In s.heap) (I : ObjM s.heap x dx C mA) (hg : PySem.W.plainGet K C name = true) (hh : PySem.W.hasDictIn K C = true)
    (ha : PySem.W.findIn K (.ref C) name = some none) (hv : mA name = some v) (hv' : PySem.W.handedIn v = true) (h : Q v { s with toks := s.toks + 1 }) :
    wpAny (model prog w) A (getAttr (.ref x) name expr) Q E s := by
  obtain ⟨od, J, hl⟩ := I.look
  exact PySem.W.get_value X J (PySem.W.plainGet_of hg).1 (PySem.W.findObj_own hh ha rfl (by rw [hl, hv])) hv' h

theorem get_const {expr : Bool} {a : Value} {Q : Value → Shared → Prop} (X : K.In s.heap) (I : ObjM s.heap x dx C mA) (hg : PySem.W.plainGet K C name = true) (hh : PySem.W.hasDictIn K C = true)
    (ha : PySem.W.findIn K (.ref C) name = some (some a)) (hn : PySem.W.specialIn K a "__get__" = some none) (hc : PySem.W.copiedNames.contains name = false) (hv : mA name = none) (hv' : PySem.W.handedIn a = true)
    (h : Q a { s with toks := s.toks + 1 }) : wpAny (model prog w) A (getAttr (.ref x) name expr) Q E s := by
  obtain ⟨od, J, hl⟩ := I.look
  exact PySem.W.get_value X J (PySem.W.plainGet_of hg).1 (PySem.W.findObj_cls hh ha hn hv' hc (by rw [hl, hv])) hv' h

theorem get_meth {pl : Sem Bool} {Q : Value × List Value → Shared → Prop} (X : K.In s.heap) (I : ObjM s.heap x dx C mA) (hg : PySem.W.plainGet K C name = true)
    (hf : PySem.W.findIn K (.ref C) name = some (some (.ref f))) (ht : PySem.W.isFn K (.ref f) = true) (hv : mA name = none) (h : Q (.ref f, [.ref x]) s) :
    wpAny (model prog w) A (getMethod (.ref x) name pl) Q E s := by
  obtain ⟨od, J, hl⟩ := I.look
  exact PySem.W.method_fn X J (PySem.W.plainGet_of hg).1 (PySem.W.plainGet_of hg).2 hf (beq_iff_eq.mp ht) (by show (PySem.W.lookIn name od).map (·.isSome) = some false; rw [hl, hv]; rfl) h

theorem set_map {ns : List Str} {Q : Unit → Shared → Prop} (X : K.In s.heap) (I : ObjM s.heap x dx C mA)
    (hs : PySem.W.findIn K (.ref C) "__setattr__" = some (some (.builtin "object.__setattr__"))) (hp : PySem.W.plainOver K C = true) (ht : PySem.W.takerIn K C name = some none) (hh : PySem.W.hasDictIn K C = true)
    (hw : PySem.Within mA ns) (hsz : ns.length ≤ sizeLine)
    (h : ∀ h', ObjM h' x dx C (fun y => if y = name then some v else mA y) → Heap.SameBut dx s.heap h' → Q () { s with heap := h', toks := s.toks + 2 }) :
    wpAny (model prog w) A (setAttr (.ref x) name v) Q E s := by
  obtain ⟨od, J, hl⟩ := I.look
  refine PySem.W.set_plain X J hs (PySem.W.osa_open (s := { s with toks := s.toks + 1 }) (r := none) X J hp ht fun b => ?_)
  obtain ⟨cd, hc, hd'⟩ := PySem.W.any_some hh
  have hx : s.heap.get? x = some ⟨.ref C, some dx, .plain, #[]⟩ := I.obj
  refine wpAny_bind (wpAny_pure (wpAny_bind (wpAny_bind (wpAny_loadPart hx (wpAny_bind (PySem.W.Looks.here (s := { s with toks := s.toks + 1 }) (PySem.W.looks_clsIn X hc) ?_))))))
  rw [hd']
  refine wpAny_pure (a := some dx) (wpAny_bind (wpAny_pure (wpAny_bind ?_)))
  refine wpAny_nsSet1 (s := { s with toks := s.toks + 1 }) I.ns fun h' hn2 hs2 => ?_
  obtain ⟨oD, esD, epD, hoD, hdD, hcD⟩ := hn2.count (PySem.Within.cons name v hw)
  refine wpAny_bind (wpAny_lookBehind hoD (by rw [hdD]; exact pastItsLine_dict (Nat.le_trans hcD (by rw [List.length_cons]; omega))) ?_)
  exact wpAny_pure (h _ ⟨(hs2.2 _ (Ne.symm I.ne)).trans I.obj, hn2, I.ne⟩ hs2)

/-- C(..): the dict at the heap's end, the instance behind it; then its __init__ -/
theorem make_map {R : Result → Shared → Prop} {vs : List Value} {kw : List (Str × Value)} (X : K.In s.heap) (hm : PySem.W.makesIn K C = true)
    (hi : PySem.W.findIn K (.ref C) "__init__" = some (some (.ref f))) (hf : PySem.W.typeIn K (.ref f) = some (.type "function"))
    (h : codeAny (model prog w) (A.under (.builtin "type.__call__" ⟨.ref C :: vs, kw⟩)) (.call (.ref f) ⟨.ref (s.heap.objs.size + 1) :: vs, kw⟩) (PySem.W.InitBack (s.heap.objs.size + 1) R)
      { s with heap := (s.heap.push PySem.W.emptyDict).push (PySem.W.instObj C s.heap.objs.size) }) :
    codeAny (model prog w) A (.call (.ref C) ⟨vs, kw⟩) R s := by
  obtain ⟨hh, g, d, t, os⟩ := s
  exact PySem.W.make_core (PySem.W.makes_of X hm) (PySem.W.looks_findIn X hi) (fun self => PySem.W.bind_fn X self hf) (.inl rfl) h
/-- C() where there is no __init__ but object's -/
theorem make_map0 {R : Result → Shared → Prop} (X : K.In s.heap) (hm : PySem.W.makesIn K C = true)
    (hi : PySem.W.findIn K (.ref C) "__init__" = some (some (.builtin "object.__init__")))
    (hb : ∀ self, PySem.W.Looks (model prog w) s.heap (bindSpecial (.builtin "object.__init__") self) (.builtin "object.__init__", [self]))
    (h : codeAny (model prog w) (A.under (.builtin "type.__call__" ⟨[.ref C], []⟩)) (.call (.builtin "object.__init__") ⟨[.ref (s.heap.objs.size + 1)], []⟩) (PySem.W.InitBack (s.heap.objs.size + 1) R)
      { s with heap := (s.heap.push PySem.W.emptyDict).push (PySem.W.instObj C s.heap.objs.size) }) :
    codeAny (model prog w) A (.call (.ref C) ⟨[], []⟩) R s := by
  obtain ⟨hh, g, d, t, os⟩ := s
  exact PySem.W.make_core (PySem.W.makes_of X hm) (PySem.W.looks_findIn X hi) hb (.inr ⟨rfl, rfl⟩) h
end

/-! ### the attributes as a list of pairs -/
def putF (f : Str) (v : V) : List (Str × V) → List (Str × V)
  | [] => [(f, v)]
  | (g, x) :: r => if g = f then (g, v) :: r else (g, x) :: putF f v r
theorem lookup_putF (f g : Str) (v : V) : ∀ fs : List (Str × V), (putF f v fs).lookup g = if g = f then some v else fs.lookup g
  | [] => by
    show List.lookup g [(f, v)] = _
    by_cases h : g = f
    · have hb : (g == f) = true := beq_iff_eq.mpr h
      simp only [List.lookup, hb, if_pos h]
    · have hb : (g == f) = false := beq_eq_false_iff_ne.mpr h
      simp only [List.lookup, hb, if_neg h]
  | (k, x) :: r => by
    have ih := lookup_putF f g v r
    rw [show putF f v ((k, x) :: r) = (if k = f then (k, v) :: r else (k, x) :: putF f v r) from rfl]
    by_cases hk : k = f
    · rw [if_pos hk]
      by_cases h : g = k
      · have hb : (g == k) = true := beq_iff_eq.mpr h
        simp only [List.lookup, hb, if_pos (h.trans hk)]
      · have hb : (g == k) = false := beq_eq_false_iff_ne.mpr h
        simp only [List.lookup, hb, if_neg (fun e : g = f => h (e.trans hk.symm))]
    · rw [if_neg hk]
      by_cases h : g = k
      · have hb : (g == k) = true := beq_iff_eq.mpr h
        simp only [List.lookup, hb, if_neg (fun e : g = f => hk (h.symm.trans e))]
      · have hb : (g == k) = false := beq_eq_false_iff_ne.mpr h
        simp only [List.lookup, hb]
        exact ih
theorem keys_putF (f : Str) (v : V) : ∀ fs : List (Str × V), f ∈ (putF f v fs).map (·.1) ∧ ∀ g, g ∈ fs.map (·.1) → g ∈ (putF f v fs).map (·.1)
  | [] => ⟨by simp [putF], fun g h => by simp at h⟩
  | (k, x) :: r => by
    obtain ⟨i1, i2⟩ := keys_putF f v r
    rw [show putF f v ((k, x) :: r) = (if k = f then (k, v) :: r else (k, x) :: putF f v r) from rfl]
    by_cases hk : k = f
    · rw [if_pos hk]
      subst hk
      exact ⟨by simp, fun g h => by simpa using h⟩
    · rw [if_neg hk]
      refine ⟨?_, fun g h => ?_⟩
      · rw [List.map_cons]
        exact List.mem_cons_of_mem _ i1
      · rw [List.map_cons] at h ⊢
        rcases List.mem_cons.mp h with e | e
        · exact List.mem_cons.mpr (.inl e)
        · exact List.mem_cons_of_mem _ (i2 g e)
theorem length_putF (f : Str) (v : V) : ∀ fs : List (Str × V), (putF f v fs).length ≤ fs.length + 1
  | [] => by simp [putF]
  | (k, x) :: r => by
    have ih := length_putF f v r
    rw [show putF f v ((k, x) :: r) = (if k = f then (k, v) :: r else (k, x) :: putF f v r) from rfl]
    by_cases hk : k = f
    · rw [if_pos hk, List.length_cons, List.length_cons]; omega
    · rw [if_neg hk, List.length_cons, List.length_cons]; omega

theorem RelO.some_of {v : V} {o : Option Value} (r : RelO (some v) o) : ∃ u, o = some u ∧ RelV v u := by
  cases o with
  | none => exact (show False from r).elim
  | some u => exact ⟨u, rfl, r⟩
theorem RelO.none_of {o : Option Value} (r : RelO none o) : o = none := by
  cases o with
  | none => rfl
  | some u => exact (show False from r).elim
theorem handed_of {v : V} {u : Value} (r : RelV v u) : PySem.W.handedIn u = true := by
  cases v with
  | non => cases (show u = Value.none from r); rfl
  | bl b => cases (show u = Value.bool b from r); rfl
  | int i => obtain ⟨t, e⟩ := (show ∃ t, u = Value.int i t from r); cases e; rfl
  | str x => obtain ⟨t, e⟩ := (show ∃ t, u = Value.str x t from r); cases e; rfl
  | byt b => obtain ⟨t, e⟩ := (show ∃ t, u = Value.bytes b t from r); cases e; rfl
  | flt b => obtain ⟨t, e⟩ := (show ∃ t, u = Value.float b t from r); cases e; rfl
  | ref a => cases (show u = Value.ref a from r); rfl
  | ty n => cases (show u = Value.type n from r); rfl

section
variable {P : Program} {w : World} {H H' : Hp} {h h' : Heap} {a C dx : Addr} {fs fs' : List (Str × V)}
theorem ins_get (hok : HOk P w H h) (e : H a = some (.ins C dx fs)) : ∃ mA, ObjM h a dx C mA ∧ (∀ f, RelO (fs.lookup f) (mA f)) ∧ PySem.Within mA (fs.map (·.1)) ∧ fs.length ≤ 1000 ∧ H dx = some (.own a) := by
  obtain ⟨d, z, ne, ob, mA, n, r, q⟩ := (show ObjOk P w H h a (.ins C dx fs) from hok a _ e)
  exact ⟨mA, ⟨ob, n, ne⟩, r, q, z, d⟩
end

/-! ### what of the text a class must have -/
structure Cls (K : PySem.W.Frag) (C : Addr) : Prop where
  pg : PySem.W.plainGet K C Str.empty = true
  hd : PySem.W.hasDictIn K C = true
  po : PySem.W.plainOver K C = true
  sa : PySem.W.findIn K (.ref C) "__setattr__" = some (some (.builtin "object.__setattr__"))
theorem Cls.get {K : PySem.W.Frag} {C : Addr} (c : Cls K C) (f : Str) : PySem.W.plainGet K C f = true := c.pg
/-- no class of it has the name -/
def NoAttr (K : PySem.W.Frag) (C : Addr) (f : Str) : Prop := PySem.W.findIn K (.ref C) f = some none
theorem NoAttr.taker {K : PySem.W.Frag} {C : Addr} {f : Str} (n : NoAttr K C f) : PySem.W.takerIn K C f = some none := by
  unfold PySem.W.takerIn
  rw [show PySem.W.findIn K (.ref C) f = some none from n]
  rfl
/-- a constant of the class -/
structure Con (K : PySem.W.Frag) (C : Addr) (f : Str) (v : V) (u : Value) : Prop where
  at_ : PySem.W.findIn K (.ref C) f = some (some u)
  rel : RelV v u
  get : PySem.W.specialIn K u "__get__" = some none
  cp : PySem.W.copiedNames.contains f = false
/-- a method: a plain def of the class or of one above it -/
structure Meth (K : PySem.W.Frag) (C : Addr) (m : Str) (f : Addr) : Prop where
  at_ : PySem.W.findIn K (.ref C) m = some (some (.ref f))
  fn : PySem.W.isFn K (.ref f) = true
  kp : PySem.W.keepIn K (.ref f) = true

section
variable {X : Cx} {pins : List (Addr × Obj)} {σ : St} {H : Hp} {s : Shared} {a C dx : Addr} {fs : List (Str × V)} {f : Str} {v : V} {A : Around} {E : Value → Shared → Prop}

theorem getattr_ok {b : Bool} {Q : Value → Shared → Prop} (I : Inv X pins σ H s) (e : H a = some (.ins C dx fs)) (c : Cls X.K C) (n : NoAttr X.K C f) (l : fs.lookup f = some v)
    (h : ∀ u s', Inv X pins σ H s' → RelV v u → Q u s') : wpAny (model X.prog X.w) A (getAttr (.ref a) f b) Q E s := by
  obtain ⟨mA, O, r, _, _, _⟩ := ins_get I.hok e
  obtain ⟨u, hu, ru⟩ := RelO.some_of (v := v) (o := mA f) (by rw [← l]; exact r f)
  exact get_map I.kIn O (c.get f) c.hd n hu (handed_of ru) (h u _ (I.tok _) ru)

theorem getcon_ok {b : Bool} {u : Value} {Q : Value → Shared → Prop} (I : Inv X pins σ H s) (e : H a = some (.ins C dx fs)) (c : Cls X.K C) (k : Con X.K C f v u) (l : fs.lookup f = none)
    (h : ∀ s', Inv X pins σ H s' → Q u s') : wpAny (model X.prog X.w) A (getAttr (.ref a) f b) Q E s := by
  obtain ⟨mA, O, r, _, _, _⟩ := ins_get I.hok e
  have hn : mA f = none := RelO.none_of (by rw [← l]; exact r f)
  exact get_const I.kIn O (c.get f) c.hd k.at_ k.get k.cp hn (handed_of k.rel) (h _ (I.tok _))

theorem getmeth_ok {m : Str} {g : Addr} {pl : Sem Bool} {Q : Value × List Value → Shared → Prop} (I : Inv X pins σ H s) (e : H a = some (.ins C dx fs)) (c : Cls X.K C) (k : Meth X.K C m g) (l : fs.lookup m = none)
    (h : Q (.ref g, [.ref a]) s) : wpAny (model X.prog X.w) A (getMethod (.ref a) m pl) Q E s := by
  obtain ⟨mA, O, r, _, _, _⟩ := ins_get I.hok e
  have hn : mA m = none := RelO.none_of (by rw [← l]; exact r m)
  exact get_meth I.kIn O (c.get m) k.at_ k.fn hn h

theorem setattr_ok {y : V} {u : Value} {Q : Unit → Shared → Prop} (I : Inv X pins σ H s) (e : H a = some (.ins C dx fs)) (c : Cls X.K C) (n : NoAttr X.K C f) (hl : fs.length < 1000) (ry : RelV y u)
    (h : ∀ s', Inv X pins σ (upd H a (.ins C dx (putF f y fs))) s' → Q () s') : wpAny (model X.prog X.w) A (setAttr (.ref a) f u) Q E s := by
  obtain ⟨mA, O, r, wi, _, ho⟩ := ins_get I.hok e
  have hz : (fs.map (·.1)).length ≤ sizeLine := by rw [List.length_map, sizeLine_eq]; omega
  refine set_map I.kIn O c.sa c.po n.taker c.hd wi hz fun h' O' sb => h _ ?_
  have hd : ∃ o, h'.get? dx = some o := let ⟨o, _, _, e', _⟩ := O'.ns; ⟨o, e'⟩
  refine I.write (x := a) (e := dx) (by rw [e]; exact True.intro) (.inr ho) (fun b q hb z => (sb.2 b hb).trans z) hd ?_
  refine ⟨by rw [upd_ne O.ne]; exact ho, ?_, O.ne, O'.obj, _, O'.ns, fun g => ?_, fun g hg => ?_⟩
  · have := length_putF f y fs; omega
  · show RelO ((putF f y fs).lookup g) (if g = f then some u else mA g)
    rw [lookup_putF]
    by_cases q : g = f
    · rw [if_pos q, if_pos q]; exact ry
    · rw [if_neg q, if_neg q]; exact r g
  · by_cases q : g = f
    · rw [q]; exact (keys_putF f y fs).1
    · refine (keys_putF f y fs).2 g (wi g fun z => hg ?_)
      show (if g = f then some u else mA g) = none
      rw [if_neg q]; exact z

/-- a new instance, tracked, without attributes -/
theorem Inv.made (I : Inv X pins σ H s) : Inv X pins σ (upd (upd H s.heap.objs.size (.own (s.heap.objs.size + 1))) (s.heap.objs.size + 1) (.ins C s.heap.objs.size []))
    { s with heap := (s.heap.push PySem.W.emptyDict).push (PySem.W.instObj C s.heap.objs.size) } := by
  have e1 : (s.heap.push PySem.W.emptyDict).get? s.heap.objs.size = some PySem.W.emptyDict := Heap.get?_push_size s.heap rfl
  have e2 : ((s.heap.push PySem.W.emptyDict).push (PySem.W.instObj C s.heap.objs.size)).get? (s.heap.objs.size + 1) = some (PySem.W.instObj C s.heap.objs.size) := by
    have := Heap.get?_push_size (s.heap.push PySem.W.emptyDict) (o := PySem.W.instObj C s.heap.objs.size) rfl
    rwa [Heap.size_push] at this
  have e3 : (s.heap.push PySem.W.emptyDict).Ns s.heap.objs.size (fun _ => none) := ⟨PySem.W.emptyDict, #[], _, e1, rfl, (fun e he => absurd he (by simp)), fun _ => rfl⟩
  have I1 := I.laid (a := s.heap.objs.size) (o := .own (s.heap.objs.size + 1)) (h' := s.heap.push PySem.W.emptyDict) (t' := s.toks) (fun b u q => Heap.get?_push_of_some _ q) (Nat.le_refl _) ⟨_, e1⟩
  refine I1.laid (a := s.heap.objs.size + 1) (o := .ins C s.heap.objs.size []) (t' := s.toks) (fun b u q => Heap.get?_push_of_some _ q) (Nat.le_of_eq (Heap.size_push _ _)) ?_
  have ne : s.heap.objs.size ≠ s.heap.objs.size + 1 := Nat.ne_of_lt (Nat.lt_succ_self _)
  refine ⟨by rw [upd_ne ne, upd_same], Nat.zero_le _, ne, e2, fun _ => none, (Heap.Ns1.of_empty e3).at fun o q => Heap.get?_push_of_some _ q, fun _ => True.intro, fun y hy => absurd rfl hy⟩

/-- e.f where nothing but the object is asked: through attributeBase (super) and the last hold -/
theorem attr_of {prog : Program} {w : World} {env : Env} {e : Expr} {f : Str} {pos : Pos} {s : Shared} {Q : Value → Shared → Prop} (hb : attributeBase e f env (eval e env) = eval e env)
    (h : wpAny (model prog w) A (eval e env) (fun o s₁ => wpAny (model prog w) A (getAttr o f true) Q E s₁) E s) : wpAny (model prog w) A (eval (.Attribute e f pos) env) Q E s :=
  Attribute_any_ h (by rw [arm_eval_Attribute, hb])
end

/-! ### readings and rules -/
/-- e.f, an attribute of the instance -/
def tFld (K : PySem.W.Frag) (ta : TE) (f : Str) : TE := fun σ H Q => ta σ H fun x H1 => ∃ a C dx fs v, x = .ref a ∧ H1 a = some (.ins C dx fs) ∧ Cls K C ∧ NoAttr K C f ∧ fs.lookup f = some v ∧ Q v H1
/-- e.f, a constant of the class -/
def tCon (K : PySem.W.Frag) (ta : TE) (f : Str) : TE := fun σ H Q => ta σ H fun x H1 => ∃ a C dx fs v u, x = .ref a ∧ H1 a = some (.ins C dx fs) ∧ Cls K C ∧ Con K C f v u ∧ fs.lookup f = none ∧ Q v H1
/-- e.f = value -/
def sFld (K : PySem.W.Frag) (ta tv : TE) (f : Str) : TS := fun D σ H => tv σ H fun y H1 => ta σ H1 fun x H2 => ∃ a C dx fs, x = .ref a ∧ H2 a = some (.ins C dx fs) ∧ Cls K C ∧ NoAttr K C f ∧ fs.length < 1000 ∧
  D.nx σ (upd H2 a (.ins C dx (putF f y fs)))
/-- an augmented operator on two values -/
def InOp (X : Cx) (op : Operator) (rd : V → V → Hp → VK → Prop) : Prop :=
  ∀ (pins : List (Addr × Obj)) (s : Shared) (σ : St) (H : Hp) (x y : V) (u v : Value) (Q : VK), Inv X pins σ H s → RelV x u → RelV y v → rd x y H Q → wpAny (model X.prog X.w) X.A (inplaceOp op u v) (EP X pins σ Q) X.xe s
/-- e.f op= value -/
def sFldAug (K : PySem.W.Frag) (ta tv : TE) (rd : V → V → Hp → VK → Prop) (f : Str) : TS := fun D σ H => ta σ H fun x H1 => ∃ a C dx fs v, x = .ref a ∧ H1 a = some (.ins C dx fs) ∧ Cls K C ∧ NoAttr K C f ∧ fs.lookup f = some v ∧
  tv σ H1 fun y H2 => rd v y H2 fun z H3 => ∃ dx' fs', H3 a = some (.ins C dx' fs') ∧ fs'.length < 1000 ∧ D.nx σ (upd H3 a (.ins C dx' (putF f z fs')))

section
variable {X : Cx} {o e value : Expr} {f : Str} {pos pos' tpos : Pos} {ta tv : TE}
theorem pe_fld (he : PE X e ta) (hb : attributeBase e f X.env (eval e X.env) = eval e X.env) : PE X (.Attribute e f pos) (tFld X.K ta f) := by
  intro pins s σ H Q I h
  refine attr_of hb (thn (he pins s σ H _ I h) fun u s1 ⟨x, H1, I1, rx, a, C, dx, fs, v, ex, ea, c, n, l, q⟩ => ?_)
  subst ex
  obtain rfl : u = Value.ref a := rx
  exact getattr_ok I1 ea c n l fun u' s2 I2 ru => ⟨v, H1, I2, ru, q⟩
theorem pe_con (he : PE X e ta) (hb : attributeBase e f X.env (eval e X.env) = eval e X.env) : PE X (.Attribute e f pos) (tCon X.K ta f) := by
  intro pins s σ H Q I h
  refine attr_of hb (thn (he pins s σ H _ I h) fun u s1 ⟨x, H1, I1, rx, a, C, dx, fs, v, u0, ex, ea, c, k, l, q⟩ => ?_)
  subst ex
  obtain rfl : u = Value.ref a := rx
  exact getcon_ok I1 ea c k l fun s2 I2 => ⟨v, H1, I2, k.rel, q⟩
theorem ps_fld (ha : PE X o ta) (hv : PE X value tv) (hs : swapsWith value (some (.Attribute o f pos')) pos.line X.env = pure false) : PS X (.Assign [.Attribute o f pos'] value pos) (sFld X.K ta tv f) := by
  intro pins s σ H D I h
  refine plainObj_wpAny_Assign_Attribute (thn (hv pins s σ H _ I h) fun u s1 ⟨y, H1, I1, ry, q⟩ => thn (ha pins s1 σ H1 _ I1 q) fun ov s2 ⟨x, H2, I2, rx, a, C, dx, fs, ex, ea, c, n, l, q2⟩ => ?_) hs
  subst ex
  obtain rfl : ov = Value.ref a := rx
  exact setattr_ok I2 ea c n l ry fun s3 I3 => ⟨σ, _, I3, q2⟩
theorem ps_fldaug {op : Operator} {rd : V → V → Hp → VK → Prop} (ha : PE X o ta) (hv : PE X value tv) (hop : InOp X op rd) : PS X (.AugAssign (.Attribute o f tpos) op value pos) (sFldAug X.K ta tv rd f) := by
  intro pins s σ H D I h
  refine wpAny_AugAssign_AttributeAny (thn (ha pins s σ H _ I h) fun ov s1 ⟨x, H1, I1, rx, a, C, dx, fs, v, ex, ea, c, n, l, q⟩ => ?_)
  subst ex
  obtain rfl : ov = Value.ref a := rx
  refine getattr_ok I1 ea c n l fun u s2 I2 ru => thn (hv pins s2 σ H1 _ I2 q) fun w3 s3 ⟨y, H2, I3, ry, q3⟩ => thn (hop pins s3 σ H2 v y u w3 _ I3 ru ry q3) fun w4 s4 ⟨z, H3, I4, rz, dx', fs', ea', l', q4⟩ => ?_
  exact setattr_ok I4 ea' c n l' rz fun s5 I5 => ⟨σ, _, I5, q4⟩
def rAdd : V → V → Hp → VK → Prop := fun x y H Q => ∃ i j, x = .int i ∧ y = .int j ∧ Q (.int (i + j)) H
def rSub : V → V → Hp → VK → Prop := fun x y H Q => ∃ i j, x = .int i ∧ y = .int j ∧ Q (.int (i - j)) H
theorem in_add : InOp X .Add rAdd := by
  rintro pins s σ H x y u v Q I rx ry ⟨i, j, rfl, rfl, q⟩
  obtain ⟨t, rfl⟩ := (show ∃ t, u = Value.int i t from rx)
  obtain ⟨t', rfl⟩ := (show ∃ t', v = Value.int j t' from ry)
  exact PyProof.Rows.iadd_int ⟨.int (i + j), H, I.tok _, ⟨_, rfl⟩, q⟩
theorem in_sub : InOp X .Sub rSub := by
  rintro pins s σ H x y u v Q I rx ry ⟨i, j, rfl, rfl, q⟩
  obtain ⟨t, rfl⟩ := (show ∃ t, u = Value.int i t from rx)
  obtain ⟨t', rfl⟩ := (show ∃ t', v = Value.int j t' from ry)
  exact PyProof.Rows.isub_int ⟨.int (i - j), H, I.tok _, ⟨_, rfl⟩, q⟩

/-- what is between an instance and its method: the tree of a method call -/
theorem methcall_of {pl : Sem Bool} {m : Str} {apos : Pos} {args : List Expr} {pins : List (Addr × Obj)} {s : Shared} {σ : St} {H : Hp} {Q : Value → Shared → Prop} {te : TE} (he : PE X e te) (I : Inv X pins σ H s)
    (h : te σ H fun x H1 => ∃ a C dx fs g, x = .ref a ∧ H1 a = some (.ins C dx fs) ∧ Cls X.K C ∧ Meth X.K C m g ∧ fs.lookup m = none ∧
      ∀ s1, Inv X pins σ H1 s1 → wpAny (model X.prog X.w) X.A (callWith pos (.ref g) [.ref a] (backTo pos (starEach args X.env)) (backToKw pos (keywordEach [] X.env))) Q X.xe s1)
    (ht : eval (.Call (.Attribute e m apos) args [] pos) X.env = (do
      let ov ← eval e X.env
      standAt apos.atName
      let (f, first) ← holding [ov] (getMethod ov m pl)
      callWith pos f first (backTo pos (starEach args X.env)) (backToKw pos (keywordEach [] X.env)))) :
    wpAny (model X.prog X.w) X.A (eval (.Call (.Attribute e m apos) args [] pos) X.env) Q X.xe s := by
  refine PySem.W.methodCall_KW (pl := pl) (thn (he pins s σ H _ I h) fun u s1 ⟨x, H1, I1, rx, a, C, dx, fs, g, ex, ea, c, k, l, q⟩ => ?_) ht
  subst ex
  obtain rfl : u = Value.ref a := rx
  exact getmeth_ok I1 ea c k l (q s1 I1)
end

/-! ### isinstance -/
section
variable {X : Cx} {pins : List (Addr × Obj)} {σ : St} {H : Hp} {s : Shared} {A : Around} {E : Value → Shared → Prop} {Q : Value → Shared → Prop} {c : Value} {b : Bool}
/-- the type of a value, as the fragment's deciders take it; for an instance its class -/
inductive TyOf (K : PySem.W.Frag) (H : Hp) : V → Value → Prop where
  | non : TyOf K H .non (.type "NoneType")
  | bl (x : Bool) : TyOf K H (.bl x) (.type "bool")
  | int (i : Int) : TyOf K H (.int i) (.type "int")
  | str (x : Str) : TyOf K H (.str x) (.type "str")
  | flt (x : UInt64) : TyOf K H (.flt x) (.type "float")
  | lst {a : Addr} {xs : List V} (e : H a = some (.lst xs)) : TyOf K H (.ref a) (.type "list")
  | frz {a : Addr} {o : Obj} {xs : List V} (e : H a = some (.frz o (.lst xs))) : TyOf K H (.ref a) (.type "list")
  | tup {a : Addr} {xs : List V} (e : H a = some (.tup xs)) : TyOf K H (.ref a) (.type "tuple")
  | dK {a : Addr} {kvs : List (Key × V)} (e : H a = some (.dK kvs)) : TyOf K H (.ref a) (.type "dict")
  | dT {a : Addr} {kvs : List (List Key × V)} (e : H a = some (.dT kvs)) : TyOf K H (.ref a) (.type "dict")
  | ins {a C dx : Addr} {fs : List (Str × V)} (e : H a = some (.ins C dx fs)) (cl : Cls K C) (ha : PySem.W.findIn K (.ref C) "__class__" = some (some (.builtin "object.__class__")))
      (hn : PySem.W.specialIn K (.builtin "object.__class__") "__get__" = some (some (.builtin "getset_descriptor.__get__"))) (htk : PySem.W.takesIn K (.builtin "object.__class__") = some true)
      (hm : PySem.W.mroIn K C (.type "object") = some true) : TyOf K H (.ref a) (.ref C)
/-- isinstance(x, c) for one class c, a built-in or an own one: kitOne's answer -/
theorem isinst_ok {x : V} {u t : Value} (I : Inv X pins σ H s) (rx : RelV x u) (ty : TyOf X.K H x t) (e : PySem.W.kitOne X.K t c = some b) (h : ∀ tk, Q (.bool b) { s with toks := tk }) :
    wpAny (model X.prog X.w) A (call (.builtin "isinstance") [u, c]) Q E s := by
  cases ty with
  | non => cases (show u = Value.none from rx); exact PySem.W.kia_one PySem.W.kitx_none I.kIn True.intro e (fun z => nomatch z) h
  | bl y => cases (show u = Value.bool y from rx); exact PySem.W.kia_one PySem.W.kitx_bool I.kIn True.intro e (fun z => nomatch z) h
  | int i => obtain ⟨t, q⟩ := (show ∃ t, u = Value.int i t from rx); cases q; exact PySem.W.kia_one PySem.W.kitx_int I.kIn True.intro e (fun z => nomatch z) h
  | str y => obtain ⟨t, q⟩ := (show ∃ t, u = Value.str y t from rx); cases q; exact PySem.W.kia_one PySem.W.kitx_str I.kIn True.intro e (fun z => nomatch z) h
  | flt y => obtain ⟨t, q⟩ := (show ∃ t, u = Value.float y t from rx); cases q; exact PySem.W.kia_one PySem.W.kitx_float I.kIn True.intro e (fun z => nomatch z) h
  | @lst a xs ea =>
    cases (show u = Value.ref a from rx)
    obtain ⟨_, _, n, _, h1⟩ := (show ObjOk X.prog X.w H s.heap a (.lst xs) from I.hok a _ ea)
    exact PySem.W.kia_one PySem.W.kitx_list I.kIn ⟨_, h1, rfl⟩ e (fun z => nomatch z) h
  | @frz a ob xs ea =>
    cases (show u = Value.ref a from rx)
    obtain ⟨_, _, _, n, _, h1⟩ := (show ObjOk X.prog X.w H s.heap a (.frz ob (.lst xs)) from I.hok a _ ea)
    exact PySem.W.kia_one PySem.W.kitx_list I.kIn ⟨_, h1, rfl⟩ e (fun z => nomatch z) h
  | @tup a xs ea =>
    cases (show u = Value.ref a from rx)
    obtain ⟨_, _, _, p⟩ := (show ObjOk X.prog X.w H s.heap a (.tup xs) from I.hok a _ ea)
    obtain ⟨o, h1, h2, _⟩ := p
    exact PySem.W.kia_one PySem.W.kitx_tuple I.kIn ⟨o, h1, h2⟩ e (fun z => nomatch z) h
  | @dK a kvs ea =>
    cases (show u = Value.ref a from rx)
    obtain ⟨_, _, vs, _, p⟩ := (show ObjOk X.prog X.w H s.heap a (.dK kvs) from I.hok a _ ea)
    obtain ⟨o, es, ep, h1, h2, _⟩ := p
    exact PySem.W.kia_one PySem.W.kitx_dict I.kIn ⟨o, h1, h2.1⟩ e (fun z => nomatch z) h
  | @dT a kvs ea =>
    cases (show u = Value.ref a from rx)
    obtain ⟨_, _, xs, _, o, es, ep, h1, h2, _⟩ := (show ObjOk X.prog X.w H s.heap a (.dT kvs) from I.hok a _ ea)
    exact PySem.W.kia_one PySem.W.kitx_dict I.kIn ⟨o, h1, h2.1⟩ e (fun z => nomatch z) h
  | @ins a C dx fs ea cl ha hn htk hm =>
    cases (show u = Value.ref a from rx)
    obtain ⟨mA, O, _⟩ := ins_get I.hok ea
    obtain ⟨od, J, _⟩ := O.look
    exact PySem.W.kia_one (PySem.W.kitx_own (cl.get _) cl.hd ha hn htk hm) I.kIn J e (fun z => nomatch z) h
end
end L2

namespace L2
open PySem PySem.Spec PyProof.Rows

/-! ### room -/
structure Room (k : Nat) (A : Around) : Prop where
  hd : A.handled = none
  dp : A.depth + 3 * k + 5 < recursionLimit
  un : A.units + 16 * k + 200 < cLine
theorem Room.mono {j k : Nat} {A : Around} (r : Room k A) (h : j ≤ k) : Room j A := ⟨r.hd, by have := r.dp; omega, by have := r.un; omega⟩
theorem Room.deeper {k : Nat} {A : Around} (r : Room (k + 1) A) (env : Env) : Room k (A.deeper env) :=
  ⟨r.hd, by have := r.dp; show A.depth + 1 + 3 * k + 5 < _; omega, by have := r.un; show A.units + 3 + 16 * k + 200 < _; omega⟩
theorem Room.in1 {k : Nat} {A : Around} (r : Room (k + 1) A) : Room k A.in1 :=
  ⟨r.hd, by have := r.dp; show A.depth + 3 * k + 5 < _; omega, by have := r.un; show A.units + 1 + 16 * k + 200 < _; omega⟩
theorem make_depth {A : Around} {C : Addr} {us : List Value} {kw : List (Str × Value)} : (A.under (.builtin "type.__call__" ⟨.ref C :: us, kw⟩)).depth = A.depth + 1 := by
  first | rfl | simp [Around.under, Code.weight, Code.isCreation, Code.isGuard, Code.isCaller, Code.frames, Code.isFrame, guardIds]
theorem make_units {A : Around} {C : Addr} {us : List Value} {kw : List (Str × Value)} : (A.under (.builtin "type.__call__" ⟨.ref C :: us, kw⟩)).units = A.units + 1 := by
  first | rfl | simp [Around.under, Code.cUnits, Code.frames, Code.isFrame]
theorem Room.make {k : Nat} {A : Around} (r : Room (k + 1) A) (C : Addr) (us : List Value) (kw : List (Str × Value)) : Room k (A.under (.builtin "type.__call__" ⟨.ref C :: us, kw⟩)) :=
  ⟨r.hd, by have := r.dp; rw [make_depth]; omega, by have := r.un; rw [make_units]; omega⟩
theorem Room.depth {k : Nat} {A : Around} (r : Room k A) : A.depth < recursionLimit := by have := r.dp; omega
theorem Room.units {k : Nat} {A : Around} (r : Room k A) : A.units + 64 < cLine := by have := r.un; omega
theorem Room.units0 {k : Nat} {A : Around} (r : Room k A) : A.units < cLine := by have := r.un; omega

/-! ### argument lists and displays -/
def tNil : TA := fun _ H Q => Q [] H
def tCons (ta : TE) (tr : TA) : TA := fun σ H Q => ta σ H fun x H1 => tr σ H1 fun xs H2 => Q (x :: xs) H2
section
variable {X : Cx} {e : Expr} {es : List Expr} {te : TE} {t : TA} {pos : Pos}
theorem pa_nil : PA X [] tNil := fun _ _ _ _ H Q I h => Calls.spliced_nil ⟨[], H, I, .nil, h⟩
theorem pa_cons (ha : PE X e te) (hr : PA X es t) (hs : starEach (e :: es) X.env = (false, eval e X.env) :: starEach es X.env := by rfl) : PA X (e :: es) (tCons te t) := by
  intro pos pins s σ H Q I h
  rw [hs]
  show wpAny _ _ (spliced ((false, eval e X.env) :: backTo pos (starEach es X.env))) _ _ s
  refine Calls.spliced_cons (thn (ha pins s σ H _ I h) fun u s1 ⟨x, H1, I1, r1, q1⟩ => ?_)
  exact thn (hr pos pins s1 σ H1 _ I1 q1) fun us s2 ⟨xs, H2, I2, r2, q2⟩ => ⟨x :: xs, H2, I2, .cons r1 r2, q2⟩

/-- a tuple, a list of written items -/
def tTup (t : TA) : TE := fun σ H Q => t σ H fun xs H1 => xs.length ≤ sizeLine ∧ ∀ p, H1 p = none → Q (.ref p) (upd H1 p (.tup xs))
def tLst (t : TA) : TE := fun σ H Q => t σ H fun xs H1 => xs.length ≤ sizeLine ∧ ∀ p, H1 p = none → Q (.ref p) (upd H1 p (.lst xs))
theorem pe_tup {x1} (h : PA X es t) : PE X (.Tuple es x1 pos) (tTup t) := by
  intro pins s σ H Q I hq
  refine wpAny_Tuple_spliced (thn (h pos pins s σ H _ I hq) fun us s1 ⟨xs, H1, I1, r, z, q⟩ => ⟨by rw [← r.length]; exact z, ?_⟩)
  have hf : H1 s1.heap.objs.size = none := I1.hok.fresh (Nat.le_refl _)
  refine ⟨.ref s1.heap.objs.size, upd H1 s1.heap.objs.size (.tup xs), I1.laid (t' := s1.toks) (fun b u e => Heap.get?_push_of_some _ e) (Nat.le_refl _) ?_, rfl, q _ hf⟩
  exact ⟨z, us, r, ⟨_, Heap.get?_push_size _ rfl, rfl, _, rfl⟩⟩
theorem pe_lst (h : PA X es t) : PE X (.List es pos) (tLst t) := by
  intro pins s σ H Q I hq
  refine wpAny_List_spliced (thn (h pos pins s σ H _ I hq) fun us s1 ⟨xs, H1, I1, r, z, q⟩ => ⟨by rw [← r.length]; exact z, ?_⟩)
  have hf : H1 s1.heap.objs.size = none := I1.hok.fresh (Nat.le_refl _)
  refine ⟨.ref s1.heap.objs.size, upd H1 s1.heap.objs.size (.lst xs), I1.laid (t' := s1.toks) (fun b u e => Heap.get?_push_of_some _ e) (Nat.le_refl _) ?_, rfl, q _ hf⟩
  exact ⟨z, us, 0, r, Heap.get?_push_size _ rfl⟩
end

/-! ### what a def promises -/
/-- a def's promise: the bound arguments in the parameters' order, the heap, the wanted end, the wanted exception -/
abbrev Sp := List V → Hp → VK → XK → Prop
/-- how an exception lies behind a call (file 08 gives it): the callers' frames, abstract heap and state ahead of the call, the wish, the exception, the state -/
abbrev CXT := List Env → Hp → Shared → XK → Value → Shared → Prop

/-- the state at a call -/
structure Env0 (P : Program) (w : World) (K : PySem.W.Frag) (mg : Str → Option Value) (base : Heap) (A : Around) (outer : List Env) (s : Shared) (H : Hp) : Prop where
  frames : A.frames = some outer
  mod : Mod K mg base
  bs : ∀ b o, base.get? b = some o → s.heap.get? b = some o ∧ H b = none
  bsz : base.objs.size ≤ s.heap.objs.size
  funs : s.heap.FunFrames base outer
  frf : ∀ b ∈ frs outer, H b = none
  hok : HOk P w H s.heap
  bare : AllBare s.gens
/-- a call's end -/
def CE (outer : List Env) (P : Program) (w : World) (H : Hp) (s : Shared) (Q : VK) (u : Value) (s' : Shared) : Prop :=
  ∃ v H', s'.os = s.os ∧ AllBare s'.gens ∧ Un (frs outer) [] H H' s.heap s'.heap ∧ HOk P w H' s'.heap ∧ RelV v u ∧ Q v H'
def CR (CX : CXT) (outer : List Env) (P : Program) (w : World) (H : Hp) (s : Shared) (Q : VK) (E : XK) (r : Result) (s' : Shared) : Prop :=
  match r with
  | .ok (.ret u) => CE outer P w H s Q u s'
  | .ok _ => False
  | .error e => CX outer H s E e s'
structure FnOk (P : Program) (w : World) (K : PySem.W.Frag) (mg : Str → Option Value) (base : Heap) (CX : CXT) (k : Nat) (f : Addr) (fd : FuncData) (ps : List Str) (sp : Sp) : Prop where
  len : ∀ vs H Q E, sp vs H Q E → vs.length = ps.length
  run : ∀ (A : Around) (outer : List Env) (s : Shared) (H : Hp) (args : Args) (us : List Value) (vs : List V) (Q : VK) (E : XK), Room k A → Env0 P w K mg base A outer s H → BindsTo s fd args (ps.zip us) → Vals vs us → sp vs H Q E →
    codeAny (model P w) A (.call (.ref f) args) (CR CX outer P w H s Q E) s
theorem FnOk.mono {P : Program} {w : World} {K : PySem.W.Frag} {mg : Str → Option Value} {base : Heap} {CX : CXT} {j k : Nat} {f : Addr} {fd : FuncData} {ps : List Str} {sp : Sp} (F : FnOk P w K mg base CX j f fd ps sp) (h : j ≤ k) :
    FnOk P w K mg base CX k f fd ps sp := ⟨F.len, fun A outer s H args us vs Q E hr => F.run A outer s H args us vs Q E (hr.mono h)⟩
/-- a weaker promise -/
theorem FnOk.imp {P : Program} {w : World} {K : PySem.W.Frag} {mg : Str → Option Value} {base : Heap} {CX : CXT} {k : Nat} {f : Addr} {fd : FuncData} {ps : List Str} {sp sp' : Sp} (F : FnOk P w K mg base CX k f fd ps sp)
    (h : ∀ vs H Q E, sp' vs H Q E → sp vs H Q E) : FnOk P w K mg base CX k f fd ps sp' :=
  ⟨fun vs H Q E q => F.len vs H Q E (h _ _ _ _ q), fun A outer s H args us vs Q E hr he hb hv hs => F.run A outer s H args us vs Q E hr he hb hv (h _ _ _ _ hs)⟩

theorem Env0.make {P : Program} {w : World} {K : PySem.W.Frag} {mg : Str → Option Value} {base : Heap} {A : Around} {outer : List Env} {s : Shared} {H : Hp} (e : Env0 P w K mg base A outer s H) (C : Addr) (us : List Value) (kw : List (Str × Value)) :
    Env0 P w K mg base (A.under (.builtin "type.__call__" ⟨.ref C :: us, kw⟩)) outer s H := ⟨by first | exact e.frames | (simpa [Around.under, Code.envs, Code.isFrame, pushEnvs] using e.frames), e.mod, e.bs, e.bsz, e.funs, e.frf, e.hok, e.bare⟩
theorem Env0.in1 {P : Program} {w : World} {K : PySem.W.Frag} {mg : Str → Option Value} {base : Heap} {A : Around} {outer : List Env} {s : Shared} {H : Hp} (e : Env0 P w K mg base A outer s H) :
    Env0 P w K mg base A.in1 outer s H := ⟨e.frames, e.mod, e.bs, e.bsz, e.funs, e.frf, e.hok, e.bare⟩

section
variable {X : Cx} {pins : List (Addr × Obj)} {σ : St} {H : Hp} {s s' : Shared}
/-- from a body: what a callee wants -/
theorem Inv.env0 (I : Inv X pins σ H s) : Env0 X.prog X.w X.K X.mg X.base X.A X.stack s H :=
  ⟨I.ok.frames, I.ok.mod, I.bs, Nat.le_trans I.ok.bsz I.sz, I.stack, I.stkFree, I.hok, I.bare⟩
/-- behind a call -/
theorem Inv.after {Q : VK} {u : Value} (I : Inv X pins σ H s) (h : CE X.stack X.prog X.w H s Q u s') : EP X pins σ Q u s' := by
  obtain ⟨v, H', os, bare, un, hok, r, q⟩ := h
  obtain ⟨hh, g, d, t, os'⟩ := s'
  obtain rfl : os' = s.os := os
  exact ⟨v, H', I.call (h' := hh) (g' := g) (d' := d) (t' := t) (ch := []) un hok bare (fun b z => absurd z (by simp)), r, q⟩
end

/-! ### calls -/
/-- f(..): the written arguments, then the defaults dvs; E: what is wanted of an exception -/
def tCall (sp : Sp) (dvs : List V) (E : XK) (t : TA) : TE := fun σ H Q => t σ H fun vs H1 => sp (vs ++ dvs) H1 Q E
/-- o.m(..) of an instance of the class at C -/
def tMeth (C : Addr) (m : Str) (sp : Sp) (dvs : List V) (E : XK) (ta : TE) (t : TA) : TE := fun σ H Q => ta σ H fun x H1 => ∃ a dx fs, x = .ref a ∧ H1 a = some (.ins C dx fs) ∧ fs.lookup m = none ∧
  t σ H1 fun vs H2 => sp (x :: (vs ++ dvs)) H2 Q E
/-- C(..): a new instance and its dict, then __init__ -/
def tMake (C : Addr) (sp : Sp) (dvs : List V) (E : XK) (t : TA) : TE := fun σ H Q => t σ H fun vs H1 => ∀ x dx, H1 x = none → H1 dx = none → dx ≠ x →
  sp (.ref x :: (vs ++ dvs)) (upd (upd H1 dx (.own x)) x (.ins C dx [])) (fun v H2 => v = .non ∧ Q (.ref x) H2) E

/-- how the parameters are bound: us the positional arguments, kw the keywords' values by name, ds the defaults that fill up -/
def Binds (K : PySem.W.Frag) (fd : FuncData) (ps : List Str) (ds : List Value) : Prop :=
  ∀ (s : Shared) (us : List Value), K.In s.heap → (us ++ ds).length = ps.length → BindsTo s fd ⟨us, []⟩ (ps.zip (us ++ ds))
/-- every parameter is given -/
theorem Binds.all {K : PySem.W.Frag} {fd : FuncData} {ps : List Str} (h : ∀ us : List Value, us.length = ps.length → bindArgs fd ⟨us, []⟩ = pure (ps.zip us)) : Binds K fd ps [] := fun s us _ hl => by
  rw [List.append_nil] at hl ⊢
  exact .of_eq (h us hl)

/-- an exception of a callee reaches what this body wants of exceptions -/
def Passes (CX : CXT) (X : Cx) (E : XK) : Prop := ∀ (pins : List (Addr × Obj)) (σ : St) (H : Hp) (s : Shared) (e : Value) (s' : Shared), Inv X pins σ H s → CX X.stack H s E e s' → X.xe e s'

section
variable {X : Cx} {CX : CXT} {k : Nat} {f C : Addr} {fd : FuncData} {ps : List Str} {sp : Sp} {dvs : List V} {ds : List Value} {E : XK} {x m : Str} {p pos apos : Pos} {e o : Expr} {es : List Expr} {ta : TE} {t : TA}

/-- the callee runs -/
theorem run_fn {pins : List (Addr × Obj)} {σ : St} {H : Hp} {s : Shared} {Q : VK} {us : List Value} {vs : List V} (F : FnOk X.prog X.w X.K X.mg X.base CX k f fd ps sp) (hr : Room k X.A) (hb : Binds X.K fd ps ds) (hd : Vals dvs ds) (hx : Passes CX X E)
    (I : Inv X pins σ H s) (r : Vals vs us) (h : sp (vs ++ dvs) H Q E) : wpAny (model X.prog X.w) X.A (call (.ref f) us) (EP X pins σ Q) X.xe s := by
  have r2 : Vals (vs ++ dvs) (us ++ ds) := r.append hd
  have hl : (us ++ ds).length = ps.length := by rw [← r2.length]; exact F.len _ _ _ _ h
  refine wpAny_call (codeAny_mono (F.run X.A X.stack s H ⟨us, []⟩ (us ++ ds) (vs ++ dvs) Q E hr I.env0 (hb s us I.kIn hl) r2 h) fun r s' hq => ?_)
  cases r with
  | error e => exact hx pins σ H s e s' I hq
  | ok fl =>
    cases fl with
    | ret u => exact I.after hq
    | next => exact False.elim hq
    | brk => exact False.elim hq
    | cont => exact False.elim hq

theorem pe_call (F : FnOk X.prog X.w X.K X.mg X.base CX k f fd ps sp) (hr : Room k X.A) (hg : Gl X x) (hm : X.mg x = some (.ref f)) (hk : PySem.W.keepIn X.K (.ref f) = true) (hb : Binds X.K fd ps ds) (hd : Vals dvs ds) (hx : Passes CX X E)
    (ha : PA X (e :: es) t) (hdb : (x == ("__debug__" : Str)) = false := by decide) (he : starEach (e :: es) X.env = (false, eval e X.env) :: starEach es X.env := by rfl) (hpl : (backTo pos (starEach es X.env)).any (·.1) = false := by rfl) :
    PE X (.Call (.Name x p) (e :: es) [] pos) (tCall sp dvs E t) := by
  intro pins s σ H Q I h
  refine wpAny_Call_Name_kw (ld_glob I hg hm ?_ hdb)
  refine PySem.W.callWith_K (h₀ := X.base) I.ok.mod.kin hk (thn (ha pos pins s σ H _ I h) fun us s1 ⟨vs, H1, I1, r, q⟩ => ⟨I1.kIn, ?_⟩) he hpl
  exact run_fn F hr hb hd hx I1 r q
theorem pe_call0 (F : FnOk X.prog X.w X.K X.mg X.base CX k f fd ps sp) (hr : Room k X.A) (hg : Gl X x) (hm : X.mg x = some (.ref f)) (hk : PySem.W.keepIn X.K (.ref f) = true) (hb : Binds X.K fd ps ds) (hd : Vals dvs ds) (hx : Passes CX X E)
    (hdb : (x == ("__debug__" : Str)) = false := by decide) : PE X (.Call (.Name x p) [] [] pos) (tCall sp dvs E tNil) := by
  intro pins s σ H Q I h
  refine wpAny_Call_Name_kw (ld_glob I hg hm ?_ hdb)
  exact PySem.W.callWith_K0 I.kIn hk (run_fn (us := []) F hr hb hd hx I .nil h)

/-- o.m(e, ..) -/
theorem pe_meth {pl : Sem Bool} (he : PE X o ta) (c : Cls X.K C) (hm : Meth X.K C m f) (F : FnOk X.prog X.w X.K X.mg X.base CX k f fd ps sp) (hr : Room k X.A) (hb : Binds X.K fd ps ds) (hd : Vals dvs ds) (hx : Passes CX X E) (ha : PA X (e :: es) t)
    (hst : starEach (e :: es) X.env = (false, eval e X.env) :: starEach es X.env := by rfl) (hpl : (backTo pos (starEach es X.env)).any (·.1) = false := by rfl)
    (ht : eval (.Call (.Attribute o m apos) (e :: es) [] pos) X.env = (do
      let ov ← eval o X.env
      standAt apos.atName
      let (f, first) ← holding [ov] (getMethod ov m pl)
      callWith pos f first (backTo pos (starEach (e :: es) X.env)) (backToKw pos (keywordEach [] X.env))) := by rfl) :
    PE X (.Call (.Attribute o m apos) (e :: es) [] pos) (tMeth C m sp dvs E ta t) := by
  intro pins s σ H Q I h
  refine PySem.W.methodCall_KW (pl := pl) (thn (he pins s σ H _ I h) fun u s1 ⟨x, H1, I1, rx, a, dx, fs, ex, ea, l, q⟩ => ?_) ht
  subst ex
  obtain rfl : u = Value.ref a := rx
  refine getmeth_ok I1 ea c hm l ?_
  refine PySem.W.callWith_K (first := [.ref a]) (h₀ := X.base) I.ok.mod.kin hm.kp (thn (ha pos pins s1 σ H1 _ I1 q) fun us s2 ⟨vs, H2, I2, r, q2⟩ => ⟨I2.kIn, ?_⟩) hst hpl
  exact run_fn (us := .ref a :: us) (vs := .ref a :: vs) F hr hb hd hx I2 (.cons rfl r) q2
/-- o.m() -/
theorem pe_meth0 {pl : Sem Bool} (he : PE X o ta) (c : Cls X.K C) (hm : Meth X.K C m f) (F : FnOk X.prog X.w X.K X.mg X.base CX k f fd ps sp) (hr : Room k X.A) (hb : Binds X.K fd ps ds) (hd : Vals dvs ds) (hx : Passes CX X E)
    (ht : eval (.Call (.Attribute o m apos) [] [] pos) X.env = (do
      let ov ← eval o X.env
      standAt apos.atName
      let (f, first) ← holding [ov] (getMethod ov m pl)
      callWith pos f first (backTo pos (starEach [] X.env)) (backToKw pos (keywordEach [] X.env))) := by rfl) :
    PE X (.Call (.Attribute o m apos) [] [] pos) (tMeth C m sp dvs E ta tNil) := by
  intro pins s σ H Q I h
  refine PySem.W.methodCall_KW (pl := pl) (thn (he pins s σ H _ I h) fun u s1 ⟨x, H1, I1, rx, a, dx, fs, ex, ea, l, q⟩ => ?_) ht
  subst ex
  obtain rfl : u = Value.ref a := rx
  refine getmeth_ok I1 ea c hm l ?_
  exact PySem.W.callWith_K0 (first := [.ref a]) I1.kIn hm.kp (run_fn (us := [.ref a]) (vs := [.ref a]) F hr hb hd hx I1 (.cons rfl .nil) q)

/-- what a class must have to be made -/
structure Mk (K : PySem.W.Frag) (C f : Addr) : Prop where
  makes : PySem.W.makesIn K C = true
  init : PySem.W.findIn K (.ref C) "__init__" = some (some (.ref f))
  fn : PySem.W.isFn K (.ref f) = true
  kp : PySem.W.keepIn K (.ref C) = true

theorem run_make {pins : List (Addr × Obj)} {σ : St} {H : Hp} {s : Shared} {Q : VK} {us : List Value} {vs : List V} (M : Mk X.K C f) (F : FnOk X.prog X.w X.K X.mg X.base CX k f fd ps sp) (hr : Room (k + 1) X.A) (hb : Binds X.K fd ps ds) (hd : Vals dvs ds)
    (hx : Passes CX X E) (I : Inv X pins σ H s) (r : Vals vs us)
    (h : ∀ x dx, H x = none → H dx = none → dx ≠ x → sp (.ref x :: (vs ++ dvs)) (upd (upd H dx (.own x)) x (.ins C dx [])) (fun v H2 => v = .non ∧ Q (.ref x) H2) E) :
    wpAny (model X.prog X.w) X.A (call (.ref C) us) (EP X pins σ Q) X.xe s := by
  have hq := h (s.heap.objs.size + 1) s.heap.objs.size (I.hok.fresh (Nat.le_succ _)) (I.hok.fresh (Nat.le_refl _)) (Nat.ne_of_lt (Nat.lt_succ_self _))
  have I2 := Inv.made (C := C) I
  have r2 : Vals (V.ref (s.heap.objs.size + 1) :: (vs ++ dvs)) (Value.ref (s.heap.objs.size + 1) :: (us ++ ds)) := .cons rfl (r.append hd)
  have hl : (Value.ref (s.heap.objs.size + 1) :: us ++ ds).length = ps.length := by
    have e := r2.length
    rw [F.len _ _ _ _ hq] at e
    exact e.symm
  refine wpAny_call (make_map (f := f) I.kIn M.makes M.init (beq_iff_eq.mp M.fn) (codeAny_mono (F.run _ X.stack _ _ ⟨Value.ref (s.heap.objs.size + 1) :: us, []⟩ (Value.ref (s.heap.objs.size + 1) :: (us ++ ds)) _ _ E (hr.make C us [])
    (I2.env0.make C us []) (hb _ (Value.ref (s.heap.objs.size + 1) :: us) I2.kIn hl) r2 hq) fun r s' hq' => ?_))
  cases r with
  | error e => exact hx pins σ _ _ e s' I2 hq'
  | ok fl =>
    cases fl with
    | ret u =>
      obtain ⟨v, H', I3, rv, ev, q3⟩ := I2.after hq'
      subst ev
      exact ⟨rv, ⟨V.ref (s.heap.objs.size + 1), H', I3, rfl, q3⟩⟩
    | next => exact False.elim hq'
    | brk => exact False.elim hq'
    | cont => exact False.elim hq'
theorem pe_make (M : Mk X.K C f) (F : FnOk X.prog X.w X.K X.mg X.base CX k f fd ps sp) (hr : Room (k + 1) X.A) (hg : Gl X x) (hm : X.mg x = some (.ref C)) (hb : Binds X.K fd ps ds) (hd : Vals dvs ds) (hx : Passes CX X E)
    (ha : PA X (e :: es) t) (hdb : (x == ("__debug__" : Str)) = false := by decide) (he : starEach (e :: es) X.env = (false, eval e X.env) :: starEach es X.env := by rfl) (hpl : (backTo pos (starEach es X.env)).any (·.1) = false := by rfl) :
    PE X (.Call (.Name x p) (e :: es) [] pos) (tMake C sp dvs E t) := by
  intro pins s σ H Q I h
  refine wpAny_Call_Name_kw (ld_glob I hg hm ?_ hdb)
  refine PySem.W.callWith_K (h₀ := X.base) I.ok.mod.kin M.kp (thn (ha pos pins s σ H _ I h) fun us s1 ⟨vs, H1, I1, r, q⟩ => ⟨I1.kIn, ?_⟩) he hpl
  exact run_make M F hr hb hd hx I1 r q
theorem pe_make0 (M : Mk X.K C f) (F : FnOk X.prog X.w X.K X.mg X.base CX k f fd ps sp) (hr : Room (k + 1) X.A) (hg : Gl X x) (hm : X.mg x = some (.ref C)) (hb : Binds X.K fd ps ds) (hd : Vals dvs ds) (hx : Passes CX X E)
    (hdb : (x == ("__debug__" : Str)) = false := by decide) : PE X (.Call (.Name x p) [] [] pos) (tMake C sp dvs E tNil) := by
  intro pins s σ H Q I h
  refine wpAny_Call_Name_kw (ld_glob I hg hm ?_ hdb)
  exact PySem.W.callWith_K0 I.kIn M.kp (run_make (us := []) M F hr hb hd hx I .nil h)
end

/-! ### keywords -/
/-- the values of the keywords, from the left -/
def PK (X : Cx) (kws : List Keyword) (t : TA) : Prop :=
  ∀ (pos : Pos) (pins : List (Addr × Obj)) (s : Shared) (σ : St) (H : Hp) (Q : List V → Hp → Prop), Inv X pins σ H s → t σ H Q → wpAny (model X.prog X.w) X.A (evalAll ((backToKw pos (keywordEach kws X.env)).map (·.2))) (AP X pins σ Q) X.xe s
section
variable {X : Cx} {CX : CXT} {k : Nat} {f C : Addr} {fd : FuncData} {ps ks : List Str} {sp : Sp} {E : XK} {x m : Str} {p pos apos kpos : Pos} {e o : Expr} {es : List Expr} {kws : List Keyword} {te ta : TE} {t tk : TA} {nm : Option Str}
theorem pk_nil : PK X [] tNil := fun _ _ _ _ H Q I h => wpAny_evalAll_nil ⟨[], H, I, .nil, h⟩
theorem pk_cons (ha : PE X e te) (hr : PK X kws t) : PK X (⟨nm, e, kpos⟩ :: kws) (tCons te t) := by
  intro pos pins s σ H Q I h
  show wpAny _ _ (evalAll ((do let v ← eval e X.env; standAt pos; pure v) :: (backToKw pos (keywordEach kws X.env)).map (·.2))) _ _ s
  refine wpAny_evalAll_cons (wpAny_bind (thn (ha pins s σ H _ I h) fun u s1 ⟨x, H1, I1, r1, q1⟩ => wpAny_bind (wpAny_standAt (wpAny_pure ?_))))
  exact thn (hr pos pins s1 σ H1 _ I1 q1) fun us s2 ⟨xs, H2, I2, r2, q2⟩ => ⟨x :: xs, H2, I2, .cons r1 r2, q2⟩

/-- how a call with keywords binds: g puts the positional values us and the keywords' values ws (names ks) in the parameters' order, defaults among them -/
structure KBinds (K : PySem.W.Frag) (fd : FuncData) (ps ks : List Str) (g : List Value → List Value → List Value) (gV : List V → List V → List V) : Prop where
  to : ∀ (s : Shared) (us ws : List Value), K.In s.heap → (g us ws).length = ps.length → BindsTo s fd ⟨us, ks.zip ws⟩ (ps.zip (g us ws))
  rel : ∀ {vs : List V} {us : List Value} {zs : List V} {ws : List Value}, Vals vs us → Vals zs ws → Vals (gV vs zs) (g us ws)
def tCallK (sp : Sp) (gV : List V → List V → List V) (E : XK) (t tk : TA) : TE := fun σ H Q => t σ H fun vs H1 => tk σ H1 fun zs H2 => sp (gV vs zs) H2 Q E
variable {g : List Value → List Value → List Value} {gV : List V → List V → List V}
theorem run_fnk {pins : List (Addr × Obj)} {σ : St} {H : Hp} {s : Shared} {Q : VK} {us ws : List Value} {vs zs : List V} (F : FnOk X.prog X.w X.K X.mg X.base CX k f fd ps sp) (hr : Room k X.A) (hb : KBinds X.K fd ps ks g gV) (hx : Passes CX X E)
    (I : Inv X pins σ H s) (r : Vals vs us) (rz : Vals zs ws) (h : sp (gV vs zs) H Q E) : wpAny (model X.prog X.w) X.A (call (.ref f) us (ks.zip ws)) (EP X pins σ Q) X.xe s := by
  have r2 := hb.rel r rz
  have hl : (g us ws).length = ps.length := by rw [← r2.length]; exact F.len _ _ _ _ h
  refine wpAny_call (codeAny_mono (F.run X.A X.stack s H ⟨us, ks.zip ws⟩ (g us ws) (gV vs zs) Q E hr I.env0 (hb.to s us ws I.kIn hl) r2 h) fun r s' hq => ?_)
  cases r with
  | error e => exact hx pins σ H s e s' I hq
  | ok fl =>
    cases fl with
    | ret u => exact I.after hq
    | next => exact False.elim hq
    | brk => exact False.elim hq
    | cont => exact False.elim hq
/-- f(e, .., k = v, ..) -/
theorem pe_callK (F : FnOk X.prog X.w X.K X.mg X.base CX k f fd ps sp) (hr : Room k X.A) (hg : Gl X x) (hm : X.mg x = some (.ref f)) (hk : PySem.W.keepIn X.K (.ref f) = true) (hb : KBinds X.K fd ps ks g gV) (hx : Passes CX X E)
    (ha : PA X (e :: es) t) (hkw : PK X kws tk) (hall : (backToKw pos (keywordEach kws X.env)).all (·.1.isSome) = true := by rfl) (hks : (backToKw pos (keywordEach kws X.env)).filterMap (·.1) = ks := by rfl)
    (hdb : (x == ("__debug__" : Str)) = false := by decide) (he : starEach (e :: es) X.env = (false, eval e X.env) :: starEach es X.env := by rfl)
    (hpl : ((backTo pos (starEach (e :: es) X.env)).any (·.1) || (backToKw pos (keywordEach kws X.env)).any (·.1.isNone)) = false := by rfl) :
    PE X (.Call (.Name x p) (e :: es) kws pos) (tCallK sp gV E t tk) := by
  intro pins s σ H Q I h
  refine wpAny_Call_Name_kw (ld_glob I hg hm ?_ hdb)
  refine PySem.W.callWith_KW (h₀ := X.base) I.ok.mod.kin hk hall (thn (ha pos pins s σ H _ I h) fun us s1 ⟨vs, H1, I1, r, q⟩ => ?_) hpl he
  refine thn (hkw pos pins s1 σ H1 _ I1 q) fun ws s2 ⟨zs, H2, I2, rz, q2⟩ => ⟨I2.kIn, ?_⟩
  rw [hks]
  exact run_fnk F hr hb hx I2 r rz q2
end

/-! ### a def's body keeps its promise -/
/-- names: the parameters first -/
structure FnScope (N P : List Str) (sc : Scope) : Prop where
  kind : sc.kind = .function
  co : sc.isCoroutine = false
  gen : sc.isGenerator = false
  nd : N.Nodup
  pre : N.take P.length = P
  par : ∀ x ∈ P, sc.names.lookup x = some .local ∨ sc.names.lookup x = some .cell
  nofree : ∀ y ∈ sc.names, y.2 ≠ .free

theorem bindL_out {kindOf : Str → Option NameKind} {x : Str} : ∀ {binds : List (Str × Value)} {m : Str → Option Value}, (∀ v, (x, v) ∉ binds) → bindL kindOf binds m x = m x
  | [], _, _ => rfl
  | (n, v) :: r, m, h => by
    unfold bindL
    rw [bindL_out fun w hw => h w (List.mem_cons_of_mem _ hw)]
    split
    · have : x ≠ n := by rintro rfl; exact h v List.mem_cons_self
      simp [this]
    · rfl
theorem bindC_out {kindOf : Str → Option NameKind} {x : Str} : ∀ {binds : List (Str × Value)} {m : Str → Option Value}, (∀ v, (x, v) ∉ binds) → bindC kindOf binds m x = m x
  | [], _, _ => rfl
  | (n, v) :: r, m, h => by
    unfold bindC
    rw [bindC_out fun w hw => h w (List.mem_cons_of_mem _ hw)]
    split
    · rfl
    · have : x ≠ n := by rintro rfl; exact h v List.mem_cons_self
      simp [this]
theorem bindL_get {kindOf : Str → Option NameKind} {x : Str} {v : Value} : ∀ {P : List Str} {vs : List Value} {i : Nat} {m : Str → Option Value}, P.Nodup → P[i]? = some x → vs[i]? = some v → kindOf x = some .local →
    bindL kindOf (P.zip vs) m x = some v
  | [], _, _, _, _, h, _, _ => by simp at h
  | _ :: _, [], _, _, _, _, h, _ => by simp at h
  | p :: P, w :: vs, 0, m, nd, h1, h2, hk => by
    simp at h1 h2; subst h1; subst h2
    show bindL kindOf ((p, w) :: P.zip vs) m p = _
    unfold bindL
    rw [bindL_out fun v hv => (List.nodup_cons.mp nd).1 (List.of_mem_zip hv).1, if_pos hk]
    simp
  | p :: P, w :: vs, i + 1, m, nd, h1, h2, hk => by
    show bindL kindOf ((p, w) :: P.zip vs) m x = _
    unfold bindL
    exact bindL_get (i := i) (List.nodup_cons.mp nd).2 (by simpa using h1) (by simpa using h2) hk
theorem bindC_get {kindOf : Str → Option NameKind} {x : Str} {v : Value} : ∀ {P : List Str} {vs : List Value} {i : Nat} {m : Str → Option Value}, P.Nodup → P[i]? = some x → vs[i]? = some v → kindOf x ≠ some .local →
    bindC kindOf (P.zip vs) m x = some v
  | [], _, _, _, _, h, _, _ => by simp at h
  | _ :: _, [], _, _, _, _, h, _ => by simp at h
  | p :: P, w :: vs, 0, m, nd, h1, h2, hk => by
    simp at h1 h2; subst h1; subst h2
    show bindC kindOf ((p, w) :: P.zip vs) m p = _
    unfold bindC
    rw [bindC_out fun v hv => (List.nodup_cons.mp nd).1 (List.of_mem_zip hv).1, if_neg hk]
    simp
  | p :: P, w :: vs, i + 1, m, nd, h1, h2, hk => by
    show bindC kindOf ((p, w) :: P.zip vs) m x = _
    unfold bindC
    exact bindC_get (i := i) (List.nodup_cons.mp nd).2 (by simpa using h1) (by simpa using h2) hk

/-- the names' values at the entry -/
def start (N : List Str) (vs : List V) : St := vs.map some ++ List.replicate (N.length - vs.length) none

/-- the context of a def's body, at its entry; an exception leaves the frame, then lies as CX says -/
def cxOf (CX : CXT) (P : Program) (w : World) (K : PySem.W.Frag) (mg : Str → Option Value) (base : Heap) (N : List Str) (qual : Str) (scope : Scope) (f : Addr) (cd : Value) (A : Around) (outer : List Env) (s : Shared) (H : Hp) (E : XK) : Cx where
  prog := P
  w := w
  K := K
  mg := mg
  base := base
  A := A.deeper (envOfC qual scope s.heap.objs.size f cd)
  N := N
  s₀ := s
  H₀ := H
  env := envOfC qual scope s.heap.objs.size f cd
  outer := outer
  stack := envOfC qual scope s.heap.objs.size f cd :: outer
  ex := []
  calm := true
  fn := fun _ => true
  pn := []
  xe := fun e s' => wpAny (model P w) (A.deeper (envOfC qual scope s.heap.objs.size f cd)) (leaving (envOfC qual scope s.heap.objs.size f cd) e) (fun _ s'' => CX outer H s E e s'') (fun e' s'' => CX outer H s E e' s'') s'

theorem cell_has {sc : Scope} {n : Nat} {x : Str} (h : sc.names.lookup x = some .cell) : ∃ c, (cellsFrom n sc.names []).lookup x = some c := by
  have q := PySem.W.cellsFrom_some sc.names n [] (.inl h)
  exact Option.isSome_iff_exists.mp q

theorem inv_start {CX : CXT} {P : Program} {w : World} {K : PySem.W.Frag} {mg : Str → Option Value} {base : Heap} {N ps : List Str} {qual : Str} {scope : Scope} {f : Addr} {cd : Value} {A : Around} {outer : List Env} {s s1 : Shared} {H : Hp} {E : XK} {us : List Value} {vs : List V}
    (S : FnScope N ps scope) (hd : A.handled = none) (e0 : Env0 P w K mg base A outer s H) (hl : vs.length = ps.length) (r : Vals vs us)
    (x : InCallC s s.heap.objs.size (bindL (envOfC qual scope s.heap.objs.size f cd).kindOf (ps.zip us) fun _ => none) (cellsFrom (s.heap.objs.size + 1) scope.names []) (bindC (envOfC qual scope s.heap.objs.size f cd).kindOf (ps.zip us) fun _ => none) s1) :
    Inv (cxOf CX P w K mg base N qual scope f cd A outer s H E) [] (start N vs) H s1 := by
  have hpl : ps.length ≤ N.length := by have := congrArg List.length S.pre; rw [List.length_take] at this; omega
  obtain ⟨h1, tk, rfl, hk⟩ := x.done
  have noA : ∀ b : Addr, b ∉ (cxOf CX P w K mg base N qual scope f cd A outer s H E).ex := fun b z => absurd (show b ∈ ([] : List Addr) from z) (by simp)
  refine ⟨⟨e0.mod, S.kind, rfl, rfl, Nat.le_refl _, fun y z c h1 h2 => ?_, fun y hy => ?_, fun y c _ h => ?_, fun _ => hd, Around.frames_deeper e0.frames, .inr ⟨rfl, rfl⟩, fun b z => absurd z (noA b), e0.bs, e0.bsz, fun b _ _ => noA b, fun b z => absurd z (noA b), e0.funs, e0.frf⟩,
    rfl, e0.bare, Un.kept hk, ⟨_, x.toInCall.ns, fun i y v h1 h2 h3 => ?_⟩, fun y c h => ⟨_, x.cell y c h⟩, e0.hok.fresh (Nat.le_refl _), fun y c h => ?_, fun p hp => absurd (show p ∈ ([] : List (Addr × Obj)) from hp) (by simp), e0.hok.kept hk, ?_⟩
  · exact name_of_addr x.apart (PySem.mem_of_lookup h1) (PySem.mem_of_lookup h2)
  · have hy : scope.names.lookup y = some .cell ∨ scope.names.lookup y = some .free := hy
    rcases hy with hy | hy
    · exact cell_has hy
    · exact absurd rfl (S.nofree _ (PySem.mem_of_lookup hy))
  · exact Nat.le_of_lt (x.above y c (PySem.mem_of_lookup h))
  · have hi : i < vs.length := by
      unfold start at h2
      by_cases hi : i < vs.length
      · exact hi
      · rw [List.getElem?_append_right (by simpa using hi)] at h2
        rw [List.getElem?_replicate] at h2
        split at h2 <;> cases h2
    have ha : vs[i]? = some v := by
      unfold start at h2
      rw [List.getElem?_append_left (by simpa using hi), List.getElem?_map] at h2
      cases e : vs[i]? with
      | none => rw [e] at h2; cases h2
      | some a => rw [e] at h2; cases h2; rfl
    obtain ⟨u, hu, rv⟩ := r.get ha
    have hp : ps[i]? = some y := by
      rw [← S.pre, List.getElem?_take_of_lt (by omega)]; exact h1
    have ndP : ps.Nodup := by rw [← S.pre]; exact S.nd.sublist (List.take_sublist _ _)
    refine ⟨u, rv, ?_⟩
    rcases S.par y (List.mem_of_getElem? hp) with k | k
    · exact .inl ⟨k, bindL_get ndP hp hu k⟩
    · obtain ⟨c, e⟩ := cell_has (n := s.heap.objs.size + 1) k
      refine .inr ⟨.inl k, c, e, ?_⟩
      have q := x.cell y c e
      rw [bindC_get ndP hp hu (by show scope.names.lookup y ≠ _; rw [k]; decide)] at q
      exact q
  · exact e0.hok.fresh (Nat.le_of_lt (x.above y c (PySem.mem_of_lookup h)))
  · unfold start
    show _ = N.length
    rw [List.length_append, List.length_map, List.length_replicate]
    omega

/-- THE RULE: a def (or a method) of the text, by its body. The body's reading t is chosen for each entry; it is run at the parameters' values -/
theorem fn_of {CX : CXT} {P : Program} {w : World} {K : PySem.W.Frag} {mg : Str → Option Value} {base : Heap} {k : Nat} {f : Addr} {name qual : Str} {params : Arguments} {body : List Stmt} {scope : Scope} {dV kV doc pm cdv ct oc : Value} {an od : Option Addr}
    {osl : Array (Option Value)} {N ps : List Str} {sp : Sp} (lk : K.lookup f = some ⟨oc, od, .func (PySem.W.fnOf name qual params body scope dV kV doc pm an cdv ct), osl⟩) (hcd : PySem.W.codeIn K cdv qual = true) (S : FnScope N ps scope)
    (len : ∀ vs H Q E, sp vs H Q E → vs.length = ps.length)
    (hbody : ∀ (A : Around) (outer : List Env) (s : Shared) (H : Hp) (vs : List V) (Q : VK) (E : XK), Room k (A.deeper (envOfC qual scope s.heap.objs.size f cdv)) → sp vs H Q E →
      ∃ t, PSs (cxOf CX P w K mg base N qual scope f cdv A outer s H E) body t ∧ t { nx := fun _ H' => Q .non H', rt := Q } (start N vs) H) :
    FnOk P w K mg base CX (k + 1) f (PySem.W.fnOf name qual params body scope dV kV doc pm an cdv ct) ps sp := by
  refine ⟨len, fun A outer s H args us vs Q E hr e0 hb r hsp => ?_⟩
  have hl := len _ _ _ _ hsp
  have KX : K.In s.heap := e0.mod.kin.keeps fun b o e => (e0.bs b o e).1
  have lim : s.heap.NoLimit := e0.mod.nolimit.keeps fun b o e => (e0.bs b o e).1
  have hkind : ∀ y ∈ ps.zip us, scope.names.lookup y.1 = some .local ∨ (scope.names.lookup y.1 = some .cell ∧ ((cellsFrom (s.heap.objs.size + 1) scope.names []).lookup y.1).isSome = true) := fun ⟨n, v⟩ hy => by
    rcases S.par n (List.of_mem_zip hy).1 with q | q
    · exact .inl q
    · exact .inr ⟨q, PySem.W.cellsFrom_some _ _ _ (.inl q)⟩
  refine codeAny_call_function hr.depth (KX _ _ lk) rfl S.co S.gen rfl (PySem.W.codeRec_of KX hcd) (hb _ _ _ _ ?_)
  refine wpAny_newFunctionEnv_cells S.kind hkind fun env he s1 x => ?_
  subst he
  refine ⟨lim.keeps x.toInCall.keep, codeAny_func ?_⟩
  obtain ⟨t, ht, hq⟩ := hbody A outer s H vs Q E (hr.deeper _) hsp
  have I : Inv (cxOf CX P w K mg base N qual scope f cdv A outer s H E) [] (start N vs) H s1 := inv_start S hr.hd e0 hl r x
  refine wpAny_mono (ht [] s1 (start N vs) H _ I hq) (fun fl s' hs => ?_) fun e s' hs => hs
  have fin : ∀ {σ' : St} {H' : Hp} {v : V} {u : Value}, Inv (cxOf CX P w K mg base N qual scope f cdv A outer s H E) [] σ' H' s' → RelV v u → Q v H' → CE outer P w H s Q u s' :=
    fun {σ' H' v u} J rv q => ⟨v, H', J.os, J.bare, J.base, J.hok, rv, q⟩
  cases fl with
  | ret u =>
    obtain ⟨v, σ', H', J, rv, q⟩ := hs
    exact fin J rv q
  | next =>
    obtain ⟨σ', H', J, q⟩ := hs
    exact fin (v := V.non) (u := Value.none) J rfl q
  | brk =>
    obtain ⟨_, _, _, q⟩ := hs
    exact False.elim q
  | cont =>
    obtain ⟨_, _, _, q⟩ := hs
    exact False.elim q
end L2

namespace L2
open PySem PySem.Spec PyProof.Rows
section
variable {X : Cx} {x : Str} {p pos : Pos} {e : Expr} {es : List Expr} {t : TA} {id T : String} {r : List V → Hp → VK → Prop}

def tCB (r : List V → Hp → VK → Prop) (t : TA) : TE := fun σ H Q => t σ H fun vs H1 => r vs H1 Q
/-- f(e, ..), f a built-in function -/
theorem pe_callB (hc : CallR X (.builtin id) r) (hg : Gl X x) (hm : X.mg x = none) (hv : bootBuiltins x = some (.builtin id)) (ha : PA X (e :: es) t) (hn : x ≠ "__name__" := by decide) (hdb : (x == ("__debug__" : Str)) = false := by decide)
    (he : starEach (e :: es) X.env = (false, eval e X.env) :: starEach es X.env := by rfl) (hpl : (backTo pos (starEach es X.env)).any (·.1) = false := by rfl) : PE X (.Call (.Name x p) (e :: es) [] pos) (tCB r t) := by
  intro pins s σ H Q I h
  refine wpAny_Call_Name_kw (ld_blt I hg hm hv ?_ hn hdb)
  exact PyProof.Rows.callWith_builtin1 (thn (ha pos pins s σ H _ I h) fun us s1 ⟨vs, H1, I1, r1, q1⟩ => hc pins s1 σ H1 vs us Q I1 r1 q1) he hpl
/-- T(e, ..), T a built-in type -/
theorem pe_callTy (hc : CallR X (.type T) r) (hg : Gl X x) (hm : X.mg x = none) (hv : bootBuiltins x = some (.type T)) (ha : PA X (e :: es) t) (hn : x ≠ "__name__" := by decide) (hdb : (x == ("__debug__" : Str)) = false := by decide)
    (he : starEach (e :: es) X.env = (false, eval e X.env) :: starEach es X.env := by rfl) (hpl : (backTo pos (starEach es X.env)).any (·.1) = false := by rfl) : PE X (.Call (.Name x p) (e :: es) [] pos) (tCB r t) := by
  intro pins s σ H Q I h
  refine wpAny_Call_Name_kw (ld_blt I hg hm hv ?_ hn hdb)
  exact PyProof.Rows.callWith_type1 (thn (ha pos pins s σ H _ I h) fun us s1 ⟨vs, H1, I1, r1, q1⟩ => hc pins s1 σ H1 vs us Q I1 r1 q1) he hpl
/-- T() -/
theorem pe_callTy0 (hc : CallR X (.type T) r) (hg : Gl X x) (hm : X.mg x = none) (hv : bootBuiltins x = some (.type T)) (hn : x ≠ "__name__" := by decide) (hdb : (x == ("__debug__" : Str)) = false := by decide) :
    PE X (.Call (.Name x p) [] [] pos) (tCB r tNil) := by
  intro pins s σ H Q I h
  refine wpAny_Call_Name_kw (ld_blt I hg hm hv ?_ hn hdb)
  exact PyProof.Rows.callWith_type0 (hc pins s σ H [] [] Q I .nil h)
end
end L2

namespace HT
open PySem PyProof.Rows

/-- t < u of tuples of ints -/
def lexLt : List Int → List Int → Bool
  | [], [] => false
  | [], _ :: _ => true
  | _ :: _, [] => false
  | x :: xs, y :: ys => if x = y then lexLt xs ys else decide (x < y)
theorem lexLt_cons (x y : Int) (xs ys : List Int) : lexLt (x :: xs) (y :: ys) = if x = y then lexLt xs ys else decide (x < y) := rfl
theorem lexLt_nil_nil : lexLt [] [] = false := rfl
theorem lexLt_nil_cons (y : Int) (ys : List Int) : lexLt [] (y :: ys) = true := rfl
theorem lexLt_cons_nil (x : Int) (xs : List Int) : lexLt (x :: xs) [] = false := rfl

theorem eqAt_int (A : Around) (s : Shared) (a : Int) (t : Tok) (c : Int) (u : Tok) : ∃ e, SeqAt.EqAt A s (.int a t) (.int c u) e ∧ (e = true ↔ a = c) :=
  ⟨(a == c), SeqAt.EqAt.int_int a t c u, by simp⟩
theorem rcLt_int (A : Around) (s : Shared) (a : Int) (t : Tok) (c : Int) (u : Tok) (prog : Program) (w : World) (E : Value → Shared → Prop) (Q : Value → Shared → Prop) (h : Q (.bool (decide (a < c))) s) :
    wpAny (model prog w) A (richCompare .Lt (.int a t) (.int c u)) Q E s :=
  (PyProof.Rows.lt_int h : wpAny (model prog w) A (compareOp .Lt (.int a t) (.int c u)) Q E s)

section
open PySem.SeqAt
open PySem.AutoSeq1 (wpAny_loadPart')
open PySem.MeetsSeq PySem.MeetsSeq2 PySem.MeetsSeq3

theorem tuple_lt_ints (l b : Addr) (items items2 : Array Value) (n n2 : Nat) (dd dd2 : Option Addr) (sl sl2 : Array (Option Value)) (ns ms : List Int) (hi : IntsAre items.toList ns) (hj : IntsAre items2.toList ms) :
    Meets (Builtin.«tuple.__lt__» ⟨[.ref l, .ref b], []⟩)
      (fun _ R s => s.heap.get? l = some { cls := .type "tuple", dict := dd, data := .seq items n, slots := sl } ∧ s.heap.get? b = some { cls := .type "tuple", dict := dd2, data := .seq items2 n2, slots := sl2 } ∧
        R (.ok (.ret (.bool (lexLt ns ms)))) s) :=
  .of_wp fun prog w A R s h => by
    obtain ⟨hp, g, d, tk, os⟩ := s; obtain ⟨hl, hb, h⟩ := h
    have f2 := AutoSeq1.sub_tuple_tuple
    have z1 : items.size = ns.length := by rw [← hi.length]; simp
    have z2 : items2.size = ms.length := by rw [← hj.length]; simp
    wp_walk using wpAny_loadPart' hl, wpAny_loadPart' hb, wpAny_forIn_list _ (fun rest b s' => b.1 = none ∧ s' = ⟨hp, g, d, tk, os⟩ ∧ ∃ (vs ws : List Value) (ns' ms' : List Int), rest = vs.zip ws ∧
      IntsAre vs ns' ∧ IntsAre ws ms' ∧ ns'.length + items2.size = ms'.length + items.size ∧ R (.ok (.ret (.bool (lexLt ns' ms')))) ⟨hp, g, d, tk, os⟩) _
    case turn =>
      rintro ⟨y, x⟩ rest b s' ⟨hb', rfl, vs, ws, ns', ms', hz, hvi, hwi, hlen, hR⟩
      cases hvi with
      | nil => rw [List.zip_nil_left] at hz; cases hz
      | cons a t hvi' =>
        cases hwi with
        | nil => rw [List.zip_nil_right] at hz; cases hz
        | cons c u hwi' =>
          rw [List.zip_cons_cons] at hz
          injection hz with hyx hrest
          injection hyx with hy hx
          subst hy hx
          rw [lexLt_cons] at hR
          simp only [List.length_cons] at hlen
          obtain ⟨e, he, hiff⟩ := eqAt_int A.in1 ⟨hp, g, d, tk, os⟩ a t c u
          refine wpAny_bind (he prog w _ _ ?_)
          cases e with
          | true =>
            rw [if_pos (hiff.mp rfl)] at hR
            wp_walk
            exact ⟨rfl, rfl, _, _, _, _, hrest, hvi', hwi', by omega, hR⟩
          | false =>
            rw [if_neg (fun q => absurd (hiff.mpr q) Bool.false_ne_true)] at hR
            have hri := rcLt_int A.in1 ⟨hp, g, d, tk, os⟩ a t c u prog w
            wp_walk using hri
            exact ⟨_, rfl, by simpa using hR⟩
    case fin =>
      rintro ⟨b1, b2⟩ s' ⟨hb', rfl, vs, ws, ns', ms', hz, hvi, hwi, hlen, hR⟩
      simp only at hb'
      subst hb'
      have hv : lexLt ns' ms' = decide (items.size < items2.size) := by
        cases hvi with
        | nil =>
          cases hwi with
          | nil =>
            simp only [List.length_nil] at hlen
            rw [lexLt_nil_nil]
            exact (decide_eq_false (by omega)).symm
          | cons c u hw =>
            simp only [List.length_nil, List.length_cons] at hlen
            rw [lexLt_nil_cons]
            exact (decide_eq_true (by omega)).symm
        | cons a t hv =>
          cases hwi with
          | nil =>
            simp only [List.length_nil, List.length_cons] at hlen
            rw [lexLt_cons_nil]
            exact (decide_eq_false (by omega)).symm
          | cons c u hw =>
            rw [List.zip_cons_cons] at hz
            cases hz
      rw [hv] at hR
      wp_walk
      exact ⟨_, rfl, by simpa [Builtin.Tuple.tupleCompareSizes] using hR⟩
    case h =>
      exact ⟨rfl, rfl, items.toList, items2.toList, ns, ms, rfl, hi, hj, by omega, h⟩
end

section
variable {prog : Program} {w : World} {A : Around} {E : Value → Shared → Prop} {s : Shared}

theorem lt_tupInts {l b : Addr} {items items2 : Array Value} {ns ms : List Int} {Q : Value → Shared → Prop} (hl : IsTup s.heap l items) (hb : IsTup s.heap b items2) (hi : IntsAre items.toList ns) (hj : IntsAre items2.toList ms)
    (hu : A.units < cLine) (h : Q (.bool (lexLt ns ms)) s) : wpAny (model prog w) A (compareOp .Lt (.ref l) (.ref b)) Q E s := by
  obtain ⟨⟨cls, dd, data, sl⟩, ho, hc, n, hd⟩ := id hl
  obtain ⟨⟨cls2, dd2, data2, sl2⟩, ho2, hc2, n2, hd2⟩ := id hb
  simp only at hc hd hc2 hd2
  subst hc hd hc2 hd2
  exact richCompare_meets_room (op := .Lt) ⟨_, ho, rfl⟩ ⟨_, ho2, rfl⟩ PySem.F.slot_tuple_lt PySem.F.entry_tuple_lt (PySem.F.args_tuple_lt_2 _ _) (tuple_lt_ints l b items items2 n n2 dd dd2 sl sl2 ns ms hi hj)
    ⟨ho, ho2, show Value.bool (lexLt ns ms) ≠ Value.notImplemented ∧ Q (.bool (lexLt ns ms)) s from ⟨(fun x => nomatch x), h⟩⟩ hu

/-- t + u, t not empty -/
theorem cat_tup {t b : Addr} {vs ws : List Value} {Q : Value → Shared → Prop} (ht : IsTup s.heap t vs.toArray) (hb : IsTup s.heap b ws.toArray) (hv : vs ≠ [])
    (h1 : ws = [] → Q (.ref t) s) (h2 : ws ≠ [] → Q (.ref s.heap.objs.size) { s with heap := s.heap.push { cls := .type "tuple", data := .seq (vs ++ ws).toArray } })
    (hsz : vs.length + ws.length ≤ sizeLine) : wpAny (model prog w) A (binaryOp .Add (.ref t) (.ref b)) Q E s := by
  obtain ⟨⟨cls, dd, data, sl⟩, ho, hc, n, hd⟩ := id ht
  obtain ⟨⟨cls2, dd2, data2, sl2⟩, ho2, hc2, n2, hd2⟩ := id hb
  simp only at hc hd hc2 hd2
  subst hc hd hc2 hd2
  have e : vs.toArray ++ ws.toArray = (vs ++ ws).toArray := by simp
  by_cases hw : ws = []
  · exact concat_meets ⟨_, ho, rfl⟩ ⟨_, ho2, rfl⟩ noFill_tuple_add seq_tuple_add PySem.F.slot_tuple_add PySem.F.entry_tuple_add (PySem.F.args_tuple_add_2 _ _)
      (tuple_addW1 t b vs.toArray ws.toArray n n2 dd dd2 sl sl2 (by simpa using hv) (by simp [hw])) ⟨ho, ho2, h1 hw⟩
  · refine concat_meets ⟨_, ho, rfl⟩ ⟨_, ho2, rfl⟩ noFill_tuple_add seq_tuple_add PySem.F.slot_tuple_add PySem.F.entry_tuple_add (PySem.F.args_tuple_add_2 _ _)
      (tuple_addW2 t b vs.toArray ws.toArray n n2 dd dd2 sl sl2 (by simpa using hv) (by simpa using hw) (by rw [List.size_toArray, List.size_toArray]; exact hsz)) ⟨ho, ho2, ?_⟩
    rw [e]
    exact h2 hw

/-! ### t[a:b], not the whole -/
/-- a slice's bound as a place among n (d where it is left out) -/
def sIx (n d : Nat) : Option Int → Nat
  | none => d
  | some v => if v < 0 then (v + (n : Int)).toNat else min v.toNat n
theorem sIx_none (n d : Nat) : sIx n d none = d := rfl
theorem sIx_nat (n d k : Nat) : sIx n d (some (k : Int)) = min k n := by
  show (if (k : Int) < 0 then ((k : Int) + (n : Int)).toNat else min (k : Int).toNat n) = min k n
  rw [if_neg (by omega), Int.toNat_natCast]
theorem sIx_le (n d : Nat) (hd : d ≤ n) (o : Option Int) : sIx n d o ≤ n := by
  cases o with
  | none => exact hd
  | some v =>
    show (if v < 0 then (v + (n : Int)).toNat else min v.toNat n) ≤ n
    by_cases hv : v < 0
    · rw [if_pos hv]; omega
    · rw [if_neg hv]; exact Nat.min_le_right _ _
theorem clip_eq (v : Int) (n d : Nat) : (if v < 0 then max (v + (n : Int)) 0 else min v (n : Int)) = ((sIx n d (some v) : Nat) : Int) := by
  show (if v < 0 then max (v + (n : Int)) 0 else min v (n : Int)) = (((if v < 0 then (v + (n : Int)).toNat else min v.toNat n) : Nat) : Int)
  by_cases hv : v < 0
  · simp only [if_pos hv]; omega
  · simp only [if_neg hv]; omega
theorem adjust_gen (lo hi : Option Int) (n : Nat) : Builtin.Slice.sliceAdjust lo hi 1 (n : Int) = (((sIx n 0 lo : Nat) : Int), ((sIx n n hi : Nat) : Int)) := by
  have h1 : ¬ ((1 : Int) < 0) := by omega
  unfold Builtin.Slice.sliceAdjust
  simp only [h1, if_false]
  refine Prod.ext ?_ ?_
  · cases lo with
    | none => rfl
    | some v => exact clip_eq v n 0
  · cases hi with
    | none => rfl
    | some v => exact clip_eq v n n
theorem places_gen (i j : Nat) : Builtin.Slice.slicePlaces (i : Int) (j : Int) 1 = j - i := by
  unfold Builtin.Slice.slicePlaces
  have h1 : (1 : Int) > 0 := by omega
  simp only [h1, if_true, Int.ediv_one]
  split <;> omega
theorem slicePart_ {v : Value} {o : Option Int} {Q : Option Int → Shared → Prop} (p : IsPart v o) (h : Q o s) : wpAny (model prog w) A (Builtin.Slice.slicePartIndex v) Q E s := by
  cases p with
  | none => exact slicePart_none h
  | int i t => exact slicePart_int h
theorem sliceApplied_gen {sl : Addr} {vl vu : Value} {lo hi : Option Int} {n : Nat} {Q : Int × Int × Nat → Shared → Prop} (hs : s.heap.IsSliceOf sl vl vu .none) (pl : IsPart vl lo) (pu : IsPart vu hi)
    (h : Q (((sIx n 0 lo : Nat) : Int), 1, sIx n n hi - sIx n 0 lo) s) : wpAny (model prog w) A (Builtin.Slice.sliceApplied (.ref sl) (pure (n : Int))) Q E s := by
  obtain ⟨os, hos, hcs, hds⟩ := id hs
  unfold Builtin.Slice.sliceApplied Builtin.Slice.sliceFields
  refine wpAny_bind (wpAny_bind (wpAny_field hos hds (x := vl) rfl (wpAny_bind (wpAny_field hos hds (x := vu) rfl (wpAny_bind (wpAny_field hos hds (x := .none) rfl (wpAny_pure ?_)))))))
  refine wpAny_bind (slicePart_none ?_)
  show wpAny _ _ (if ((1 : Int) == 0) = true then _ else _) _ _ s
  rw [if_neg (by decide)]
  refine wpAny_bind (slicePart_ pl (wpAny_bind (slicePart_ pu (wpAny_bind (wpAny_pure ?_)))))
  show wpAny _ _ (match Builtin.Slice.sliceAdjust lo hi 1 (n : Int) with | (lo, hi) => pure (lo, (1 : Int), Builtin.Slice.slicePlaces lo hi 1)) _ _ s
  rw [adjust_gen lo hi n]
  show wpAny _ _ (pure (((sIx n 0 lo : Nat) : Int), (1 : Int), Builtin.Slice.slicePlaces ((sIx n 0 lo : Nat) : Int) ((sIx n n hi : Nat) : Int) 1)) _ _ s
  rw [places_gen]
  exact wpAny_pure h
theorem pick_gen (xs : Array Value) (i k : Nat) : ((List.range k).filterMap fun (m : Nat) => xs[((i : Int) + (m : Int) * 1).toNat]?).toArray = ((xs.toList.drop i).take k).toArray := by
  have e : (fun (m : Nat) => xs[((i : Int) + (m : Int) * 1).toNat]?) = fun m => xs[i + m]? := by
    funext m
    have : ((i : Int) + (m : Int) * 1).toNat = i + m := by omega
    rw [this]
  rw [e]
  have := pick_run xs i k
  rw [List.filterMap_map] at this
  have e2 : ((fun x => xs[x]?) ∘ fun x => i + x) = fun m => xs[i + m]? := rfl
  rw [e2] at this
  rw [this]

theorem getItem_tuple_cut {t sl : Addr} {items : Array Value} {vl vu : Value} {lo hi : Option Int} {Q : Value → Shared → Prop} (ht : IsTup s.heap t items) (hs : s.heap.IsSliceOf sl vl vu .none) (pl : IsPart vl lo) (pu : IsPart vu hi)
    (hw : ¬ (sIx items.size 0 lo = 0 ∧ sIx items.size items.size hi = items.size))
    (h : Q (.ref s.heap.objs.size) { s with heap := s.heap.push { cls := .type "tuple", data := .seq ((items.toList.drop (sIx items.size 0 lo)).take (sIx items.size items.size hi - sIx items.size 0 lo)).toArray } })
    (hsz : items.size ≤ sizeLine) : wpAny (model prog w) A (getItem (.ref t) (.ref sl)) Q E s := by
  have htake : sizeOk (.seq ((items.toList.drop (sIx items.size 0 lo)).take (sIx items.size items.size hi - sIx items.size 0 lo)).toArray) := by
    show ((items.toList.drop (sIx items.size 0 lo)).take (sIx items.size items.size hi - sIx items.size 0 lo)).toArray.size ≤ sizeLine
    rw [List.size_toArray, List.length_take, List.length_drop, Array.length_toList]
    omega
  have hj : sIx items.size items.size hi ≤ items.size := sIx_le _ _ (Nat.le_refl _) hi
  obtain ⟨os, hos, hcs, hds⟩ := id hs
  have hTs : s.TypeIs (.ref sl) "slice" := ⟨os, hos, hcs⟩
  unfold getItem
  try with_reducible refine wpAny_holding ?_
  first | refine wpAny_bind (wpAny_pure ?_) | skip
  refine wpAny_bind (wpAny_sequenceKey ht.typeIs (by decide) ?_)
  refine wpAny_bind (wpAny_callSpecial?_slot (name := Str.ofString "__getitem__") ht.typeIs PyProof.Rows.slot_tuple_getitem
    (wpAny_call_entry PyProof.Rows.slot_tuple_getitem ht.typeIs entry_tuple_getitem ?_ (args_tuple_getitem _ _)))
  show wpAny _ _ (Builtin.Tuple.tupleItemsOf (.ref t) >>= _) _ _ s
  refine wpAny_bind (tupleItemsOf_ ht ?_)
  refine wpAny_bind (wpAny_typeOf hTs ?_)
  rw [if_pos (by decide)]
  refine wpAny_bind (sliceApplied_gen hs pl pu ?_)
  have hno : ¬ ((((sIx items.size 0 lo : Nat) : Int) == 0 && (1 : Int) == 1 && (sIx items.size items.size hi - sIx items.size 0 lo) == items.size) = true) := by
    intro q
    rw [Bool.and_eq_true, Bool.and_eq_true] at q
    have q1 : ((sIx items.size 0 lo : Nat) : Int) = 0 := eq_of_beq q.1.1
    have q2 : sIx items.size items.size hi - sIx items.size 0 lo = items.size := eq_of_beq q.2
    exact hw ⟨by omega, by omega⟩
  show wpAny _ _ (if (((sIx items.size 0 lo : Nat) : Int) == 0 && (1 : Int) == 1 && (sIx items.size items.size hi - sIx items.size 0 lo) == items.size) = true then _ else _) _ _ s
  rw [if_neg hno, pick_gen]
  first
    | exact wpAny_bind (m := Builtin.Tuple.tupleExact _) (wpAny_newObj_type (wpAny_pure ⟨_, rfl, wpAny_pure h⟩) htake)
    | exact wpAny_bind (m := Builtin.Tuple.tupleExact _) (wpAny_newObj_type (wpAny_bind (wpAny_pure (wpAny_pure ⟨_, rfl, wpAny_pure h⟩))) htake)
    | exact wpAny_bind (wpAny_bind (m := Builtin.Tuple.tupleExact _) (wpAny_newObj_type (wpAny_pure (wpAny_pure ⟨_, rfl, wpAny_pure h⟩)) htake))
    | exact wpAny_bind (wpAny_bind (m := Builtin.Tuple.tupleExact _) (wpAny_newObj_type (wpAny_pure ⟨_, rfl, wpAny_pure h⟩) htake))
end
end HT

namespace L2
open PySem PySem.Spec PyProof.Rows

/-! ### the parts of a slice -/
abbrev TO := St → Hp → (Option Int → Hp → Prop) → Prop
/-- a slice's part (left out, or an int) -/
def PO (X : Cx) (e : Option Expr) (t : TO) : Prop :=
  ∀ (pins : List (Addr × Obj)) (s : Shared) (σ : St) (H : Hp) (Q : Option Int → Hp → Prop), Inv X pins σ H s → t σ H Q →
    wpAny (model X.prog X.w) X.A (evalPart e X.env) (fun u s' => ∃ o H', Inv X pins σ H' s' ∧ IsPart u o ∧ Q o H') X.xe s
def tNoPart : TO := fun _ H Q => Q none H
def tPart (t : TE) : TO := fun σ H Q => t σ H fun x H1 => ∃ i, x = .int i ∧ Q (some i) H1

theorem intsAre_of {ns : List Int} : ∀ {us : List Value}, Vals (ns.map V.int) us → IntsAre us ns := by
  induction ns with
  | nil => intro us r; rw [List.map_nil] at r; cases r; exact .nil
  | cons n ns ih =>
    intro us r
    rw [List.map_cons] at r
    cases r with
    | cons r1 r2 =>
      obtain ⟨t, e⟩ := r1
      subst e
      exact .cons n t (ih r2)

section
variable {X : Cx} {e : Expr} {te : TE} {lo hi : Option Expr} {tl th : TO} {pos p2 : Pos}

theorem po_none : PO X none tNoPart := by
  intro pins s σ H Q I h
  rw [evalPart_none]
  exact wpAny_pure ⟨none, H, I, .none, h⟩
theorem po_some (h : PE X e te) : PO X (some e) (tPart te) := by
  intro pins s σ H Q I hw
  rw [evalPart_some]
  refine thn (h pins s σ H _ I hw) fun u s1 ⟨x, H1, I1, r1, q1⟩ => ?_
  obtain ⟨i, rfl, q⟩ := q1
  obtain ⟨t, rfl⟩ := r1
  exact ⟨some i, H1, I1, .int i t, q⟩

/-- what a slice of a value is, by values: the slice object stands at sl -/
def SlR (X : Cx) (r : V → Option Int → Option Int → Hp → VK → Prop) : Prop :=
  ∀ (pins : List (Addr × Obj)) (s : Shared) (σ : St) (H : Hp) (x : V) (v vl vu : Value) (lo hi : Option Int) (sl : Addr) (Q : VK), Inv X pins σ H s → RelV x v → s.heap.IsSliceOf sl vl vu .none → IsPart vl lo → IsPart vu hi → r x lo hi H Q →
    ∃ T id, typeLookup (.type T) "__getitem__" = pure (some (.builtin id)) ∧ s.TypeIs v T ∧ wpAny (model X.prog X.w) X.A (getItem v (.ref sl)) (EP X pins σ Q) X.xe s
theorem SlR.or {r r' : V → Option Int → Option Int → Hp → VK → Prop} (h : SlR X r) (h' : SlR X r') : SlR X (fun x lo hi H Q => r x lo hi H Q ∨ r' x lo hi H Q) := by
  intro pins s σ H x v vl vu lo hi sl Q I rx hs pl pu q
  rcases q with q | q
  · exact h pins s σ H x v vl vu lo hi sl Q I rx hs pl pu q
  · exact h' pins s σ H x v vl vu lo hi sl Q I rx hs pl pu q
def tSl (r : V → Option Int → Option Int → Hp → VK → Prop) (te : TE) (tl th : TO) : TE := fun σ H Q => te σ H fun x H1 => tl σ H1 fun l H2 => th σ H2 fun u H3 => r x l u H3 Q
/-- a[lo:hi], any a -/
theorem pe_slice {r : V → Option Int → Option Int → Hp → VK → Prop} (hr : SlR X r) (he : PE X e te) (hl : PO X lo tl) (hu : PO X hi th) : PE X (.Subscript e (.Slice lo hi none p2) pos) (tSl r te tl th) := by
  intro pins s σ H Q I h
  refine Subscript_ (thn (he pins s σ H _ I h) fun v s1 ⟨x, H1, I1, r1, q1⟩ => ?_)
  refine wpAny_Slice (thn (hl pins s1 σ H1 _ I1 q1) fun vl s2 ⟨l, H2, I2, pl, q2⟩ => thn (hu pins s2 σ H2 _ I2 q2) fun vu s3 ⟨u, H3, I3, pu, q3⟩ => ?_)
  rw [evalPart_none]
  refine wpAny_pure ?_
  have I4 : Inv X pins σ H3 { s3 with heap := s3.heap.push { cls := .type "slice", data := .fields #[vl, vu, .none] } } := I3.kept (t' := s3.toks) fun b ob q => Heap.get?_push_of_some _ q
  obtain ⟨T, id, hT, ht, hg⟩ := hr pins { s3 with heap := s3.heap.push { cls := .type "slice", data := .fields #[vl, vu, .none] } } σ H3 x v vl vu l u s3.heap.objs.size Q I4 r1 (Heap.IsSliceOf.new ..) pl pu q3
  show wpAny (model X.prog X.w) X.A (subscriptTail e (.Slice lo hi none p2) v (.ref s3.heap.objs.size)) (EP X pins σ Q) X.xe { s3 with heap := s3.heap.push { cls := .type "slice", data := .fields #[vl, vu, .none] } }
  exact tail_any (ops := [.ref s3.heap.objs.size, v]) ht hT hg (by with_unfolding_all rfl)

/-- the items of xs[lo:hi] -/
def cutV (xs : List V) (lo hi : Option Int) : List V := (xs.drop (HT.sIx xs.length 0 lo)).take (HT.sIx xs.length xs.length hi - HT.sIx xs.length 0 lo)
theorem cutV_length (xs : List V) (lo hi : Option Int) : (cutV xs lo hi).length ≤ xs.length := by
  unfold cutV
  rw [List.length_take, List.length_drop]
  omega
/-- t[lo:hi], not the whole of it (the whole would be t itself) -/
def rSlT (K : PySem.W.Frag) : V → Option Int → Option Int → Hp → VK → Prop := fun x lo hi H Q => ∃ a xs, x = .ref a ∧ SqT K H a xs ∧
  ¬ (HT.sIx xs.length 0 lo = 0 ∧ HT.sIx xs.length xs.length hi = xs.length) ∧ ∀ p, H p = none → Q (.ref p) (upd H p (.tup (cutV xs lo hi)))
theorem sl_tup : SlR X (rSlT X.K) := by
  intro pins s σ H x v vl vu lo hi sl Q I rx hs pl pu h
  obtain ⟨a, xs, rfl, hx, hw, q⟩ := h
  cases rx
  obtain ⟨its, r, ht, hz⟩ := I.tuple hx
  have hlen : its.toArray.size = xs.length := by rw [List.size_toArray]; exact r.length.symm
  refine ⟨"tuple", _, PyProof.Rows.slot_tuple_getitem.lookup, ht.typeIs, ?_⟩
  refine HT.getItem_tuple_cut ht hs pl pu (by rw [hlen]; exact hw) ?_ (by rw [hlen]; exact hz)
  rw [hlen]
  refine ⟨.ref s.heap.objs.size, _, I.laid (t' := s.toks) (o := .tup (cutV xs lo hi)) (fun b ob q => Heap.get?_push_of_some _ q) (Nat.le_refl _) ?_, rfl, q _ (I.hok.fresh (Nat.le_refl _))⟩
  exact ⟨Nat.le_trans (cutV_length xs lo hi) hz, _, (r.drop (HT.sIx xs.length 0 lo)).take (HT.sIx xs.length xs.length hi - HT.sIx xs.length 0 lo), IsTup.new _ _⟩

/-! ### t < u, t + u -/
def rLtT (K : PySem.W.Frag) : R2 := fun x y H Q => ∃ a b ns ms, x = .ref a ∧ y = .ref b ∧ SqT K H a (ns.map V.int) ∧ SqT K H b (ms.map V.int) ∧ Q (.bl (HT.lexLt ns ms)) H
theorem op_ltT (hu : X.A.units < cLine) : OpR X (compareOp .Lt) (rLtT X.K) := by
  intro pins s σ H x y v u Q I rx ry h
  obtain ⟨a, b, ns, ms, rfl, rfl, ha, hb, q⟩ := h
  cases rx
  cases ry
  obtain ⟨its, r1, p1, _⟩ := I.tuple ha
  obtain ⟨its2, r2, p2, _⟩ := I.tuple hb
  have i1 : IntsAre its.toArray.toList ns := intsAre_of r1
  have i2 : IntsAre its2.toArray.toList ms := intsAre_of r2
  exact HT.lt_tupInts p1 p2 i1 i2 hu ⟨.bl (HT.lexLt ns ms), H, I, rfl, q⟩
/-- t + u, t not empty: u empty gives t itself -/
def rCatT (K : PySem.W.Frag) : R2 := fun x y H Q => ∃ a b xs ys, x = .ref a ∧ y = .ref b ∧ SqT K H a xs ∧ SqT K H b ys ∧ xs ≠ [] ∧ xs.length + ys.length ≤ sizeLine ∧
  (ys = [] → Q (.ref a) H) ∧ (ys ≠ [] → ∀ p, H p = none → Q (.ref p) (upd H p (.tup (xs ++ ys))))
theorem Vals.nil_iff {xs : List V} {us : List Value} (r : Vals xs us) : us = [] ↔ xs = [] := by
  cases r with
  | nil => simp
  | cons _ _ => simp
theorem op_catT : OpR X (binaryOp .Add) (rCatT X.K) := by
  intro pins s σ H x y v u Q I rx ry h
  obtain ⟨a, b, xs, ys, rfl, rfl, ha, hb, hx, hz, q1, q2⟩ := h
  cases rx
  cases ry
  obtain ⟨its, r1, p1, _⟩ := I.tuple ha
  obtain ⟨its2, r2, p2, _⟩ := I.tuple hb
  refine HT.cat_tup p1 p2 (fun z => hx (r1.nil_iff.mp z)) (fun z => ⟨.ref a, H, I, rfl, q1 (r2.nil_iff.mp z)⟩) (fun z => ?_) (by rw [← r1.length, ← r2.length]; exact hz)
  refine ⟨.ref s.heap.objs.size, _, I.laid (t' := s.toks) (o := .tup (xs ++ ys)) (fun b ob q => Heap.get?_push_of_some _ q) (Nat.le_refl _) ?_, rfl, q2 (fun w => z (r2.nil_iff.mpr w)) _ (I.hok.fresh (Nat.le_refl _))⟩
  exact ⟨by rw [List.length_append]; exact hz, _, r1.append r2, IsTup.new _ _⟩
/-- tuple(t) -/
theorem call_tupleT : CallR X (.type "tuple") (fun xs H Q => ∃ a ys, xs = [.ref a] ∧ SqT X.K H a ys ∧ Q (.ref a) H) := by
  intro pins s σ H xs us Q I r h
  obtain ⟨a, ys, rfl, ha, q⟩ := h
  obtain ⟨u, rfl, ru⟩ := vals1 r
  cases ru
  obtain ⟨its, _, p1, _⟩ := I.tuple ha
  exact call_tuple_same (items := its.toArray) p1 ⟨.ref a, H, I, rfl, q⟩
end
end L2

namespace L2
open PySem PySem.Spec PyProof.Rows

/-! ### places -/
/-- the place that an index of any sign means -/
def ixN (n : Nat) (i : Int) : Option Nat := if 0 ≤ i then (if i < n then some i.toNat else none) else if -(n : Int) ≤ i then some (i + n).toNat else none
def atI {α : Type} (xs : List α) (i : Int) : Option α := (ixN xs.length i).bind fun j => xs[j]?
theorem ixN_seq {n : Nat} {i : Int} {j : Nat} (h : ixN n i = some j) : seqIndex? i n = some j ∧ j < n ∧ -(n : Int) ≤ i ∧ i < n := by
  unfold ixN at h
  by_cases h0 : 0 ≤ i
  · rw [if_pos h0] at h
    by_cases h1 : i < n
    · rw [if_pos h1] at h
      have e : i.toNat = j := Option.some.inj h
      exact ⟨by rw [seqIndex_of h0 h1, e], by omega, by omega, h1⟩
    · rw [if_neg h1] at h; cases h
  · rw [if_neg h0] at h
    by_cases h1 : -(n : Int) ≤ i
    · rw [if_pos h1] at h
      have e : (i + n).toNat = j := Option.some.inj h
      exact ⟨by rw [seqIndex_neg (by omega) h1, e], by omega, h1, by omega⟩
    · rw [if_neg h1] at h; cases h
theorem atI_get {α : Type} {xs : List α} {i : Int} {v : α} (h : atI xs i = some v) : ∃ j, seqIndex? i xs.length = some j ∧ xs[j]? = some v ∧ j < xs.length ∧ -(xs.length : Int) ≤ i ∧ i < xs.length := by
  unfold atI at h
  cases e : ixN xs.length i with
  | none => rw [e] at h; cases h
  | some j =>
    rw [e] at h
    obtain ⟨h1, h2, h3, h4⟩ := ixN_seq e
    exact ⟨j, h1, h, h2, h3, h4⟩
theorem atI_nat {α : Type} {xs : List α} {j : Nat} {v : α} (h : xs[j]? = some v) : atI xs (j : Int) = some v := by
  have hj : j < xs.length := (List.getElem?_eq_some_iff.mp h).1
  have e : ixN xs.length (j : Int) = some j := by
    unfold ixN
    rw [if_pos (by omega), if_pos (by omega)]; simp
  unfold atI; rw [e]; exact h
theorem atI_last {α : Type} (xs : List α) (v : α) : atI (xs ++ [v]) (-1) = some v := by
  have hl : (xs ++ [v]).length = xs.length + 1 := by simp
  have e : ixN (xs ++ [v]).length (-1) = some xs.length := by
    unfold ixN
    rw [hl, if_neg (by decide), if_pos (by omega)]
    congr 1
    omega
  unfold atI
  rw [e]
  show (xs ++ [v])[xs.length]? = some v
  simp

/-! ### what may be subscripted -/
/-- what stands as an index of a plain subscript -/
def PlainIx (b : Expr) : Prop := ∀ o i, subscripted b false o i = operate [o, i] (getItem o i)
/-- a subscript by values -/
def IxR (X : Cx) (r : R2) : Prop :=
  ∀ (value slice : Expr) (pins : List (Addr × Obj)) (s : Shared) (σ : St) (H : Hp) (x y : V) (v u : Value) (Q : VK), Inv X pins σ H s → RelV x v → RelV y u → r x y H Q →
    subscripted slice false v u = operate [v, u] (getItem v u) → wpAny (model X.prog X.w) X.A (subscriptTail value slice v u) (EP X pins σ Q) X.xe s
/-- a call of a builtin's method by values: the receiver, the arguments -/
def MtR (X : Cx) (id : String) (r : V → List V → Hp → VK → Prop) : Prop :=
  ∀ (pins : List (Addr × Obj)) (s : Shared) (σ : St) (H : Hp) (x : V) (xs : List V) (v : Value) (us : List Value) (Q : VK), Inv X pins σ H s → RelV x v → Vals xs us → r x xs H Q →
    wpAny (model X.prog X.w) X.A (call (.builtin id) (v :: us)) (EP X pins σ Q) X.xe s
section
variable {X : Cx} {a b : Expr} {ta tb : TE} {pos : Pos}
theorem IxR.or {r r' : R2} (h : IxR X r) (h' : IxR X r') : IxR X (fun x y H Q => r x y H Q ∨ r' x y H Q) := by
  intro value slice pins s σ H x y v u Q I rx ry q hs
  rcases q with q | q
  · exact h value slice pins s σ H x y v u Q I rx ry q hs
  · exact h' value slice pins s σ H x y v u Q I rx ry q hs
theorem MtR.or {id : String} {r r' : V → List V → Hp → VK → Prop} (h : MtR X id r) (h' : MtR X id r') : MtR X id (fun x xs H Q => r x xs H Q ∨ r' x xs H Q) := by
  intro pins s σ H x xs v us Q I rx rs q
  rcases q with q | q
  · exact h pins s σ H x xs v us Q I rx rs q
  · exact h' pins s σ H x xs v us Q I rx rs q
/-- a[b] -/
theorem pe_ix {r : R2} (hr : IxR X r) (ha : PE X a ta) (hb : PE X b tb) (hs : PlainIx b) : PE X (.Subscript a b pos) (tOp r ta tb) := by
  intro pins s σ H Q I h
  exact Subscript_ (binT ha hb I h fun v u s2 x y H2 I2 rx ry q => hr a b pins s2 σ H2 x y v u Q I2 rx ry q (hs _ _))

def rIxL (K : PySem.W.Frag) : R2 := fun x y H Q => ∃ p xs i v, x = .ref p ∧ y = .int i ∧ SqL K H p xs ∧ atI xs i = some v ∧ Q v H
def rIxT (K : PySem.W.Frag) : R2 := fun x y H Q => ∃ p xs i v, x = .ref p ∧ y = .int i ∧ SqT K H p xs ∧ atI xs i = some v ∧ Q v H
def rIxS : R2 := fun x y H Q => ∃ z i c, x = .str z ∧ y = .int i ∧ z.length ≤ sizeLine ∧ atI z.cps.toList i = some c ∧ Q (.str ⟨#[c]⟩) H
theorem ix_list : IxR X (rIxL X.K) := by
  intro value slice pins s σ H x y v u Q I rx ry h hs
  obtain ⟨p, xs, i, z, rfl, rfl, hq, he, q⟩ := h
  cases rx
  obtain ⟨t, rfl⟩ := ry
  obtain ⟨its, r, pl, hz⟩ := I.list hq
  obtain ⟨j, h1, h2, h3, h4, h5⟩ := atI_get he
  obtain ⟨w, ew, rw'⟩ := r.get h2
  have hl := r.length
  have hn := line63
  have fin : EP X pins σ Q w s := ⟨z, H, I, rw', q⟩
  by_cases h0 : 0 ≤ i
  · have hj : i.toNat = j := by
      rw [seqIndex_of h0 h5] at h1
      exact Option.some.inj h1
    exact item_listR pl.isList h0 (by omega) (by rw [hj]; simpa using ew) fin hs
  · have hj : (i + (its.toArray.size : Int)).toNat = j := by
      rw [seqIndex_neg (by omega) h4] at h1
      rw [List.size_toArray, ← hl]
      exact Option.some.inj h1
    exact subscriptTail_builtinR (x := w) pl.isList.typeIs slot_list_getitem.lookup
      (wpAny_getItem_list_neg (Q := fun r s' => r = w ∧ EP X pins σ Q r s') pl.isList (by omega) (by rw [List.size_toArray] <;> omega) (by omega) (by rw [hj]; simpa using ew) ⟨rfl, fin⟩) hs
theorem ix_tup : IxR X (rIxT X.K) := by
  intro value slice pins s σ H x y v u Q I rx ry h hs
  obtain ⟨p, xs, i, z, rfl, rfl, hq, he, q⟩ := h
  cases rx
  obtain ⟨t, rfl⟩ := ry
  obtain ⟨its, r, pl, hz⟩ := I.tuple hq
  obtain ⟨j, h1, h2, h3, h4, h5⟩ := atI_get he
  obtain ⟨w, ew, rw'⟩ := r.get h2
  have hl := r.length
  have hn := line63
  have fin : EP X pins σ Q w s := ⟨z, H, I, rw', q⟩
  exact subscriptTail_builtinR (x := w) pl.typeIs slot_tuple_getitem.lookup
    (getItem_tuple (j := j) (Q := fun r s' => r = w ∧ EP X pins σ Q r s') pl (by omega) (by omega) (by rw [List.size_toArray, ← hl]; exact h1) (by simpa using ew) ⟨rfl, fin⟩) hs
theorem ix_str : IxR X rIxS := by
  intro value slice pins s σ H x y v u Q I rx ry h hs
  obtain ⟨z, i, c, rfl, rfl, hz, he, q⟩ := h
  obtain ⟨t, rfl⟩ := rx
  obtain ⟨t', rfl⟩ := ry
  obtain ⟨j, h1, h2, h3, h4, h5⟩ := atI_get he
  have hl : z.cps.toList.length = z.length := by simp [Str.length]
  rw [hl] at h1 h4 h5
  have hn := line63
  exact tail_any (typeIs_str s z t) slot_str_getitem.lookup (getItem_str (c := c) (by
    have e1 : decide (i < -(2 ^ 63 : Int)) = false := decide_eq_false (by omega)
    have e2 : decide (i ≥ 2 ^ 63) = false := decide_eq_false (by omega)
    rw [e1, e2, Bool.or_false]) (by rw [h1]; simpa using h2) ⟨.str ⟨#[c]⟩, H, I.tok _, ⟨_, rfl⟩, q⟩) hs
/-- list, tuple or str -/
def rIx (K : PySem.W.Frag) : R2 := fun x y H Q => rIxL K x y H Q ∨ rIxT K x y H Q ∨ rIxS x y H Q
theorem ix_seq : IxR X (rIx X.K) := ix_list.or (ix_tup.or ix_str)

/-! ### xs[i] = v, any sign -/
/-- the list's object behind a store -/
theorem mapSeq_set (its : List Value) (n j : Nat) (u : Value) : Obj.mapSeq (·.setIfInBounds j u) { cls := .type "list", data := .seq its.toArray n } = { cls := .type "list", data := .seq (its.set j u).toArray n } := by
  simp [Obj.mapSeq]
theorem Inv.lst {pins : List (Addr × Obj)} {σ : St} {H : Hp} {s : Shared} {p : Addr} {xs : List V} (I : Inv X pins σ H s) (h : H p = some (.lst xs)) :
    ∃ (its : List Value) (n : Nat), Vals xs its ∧ s.heap.get? p = some { cls := .type "list", data := .seq its.toArray n } ∧ xs.length ≤ sizeLine := by
  obtain ⟨z, its, n, r, e⟩ := I.hok p _ h
  exact ⟨its, n, r, e, z⟩
/-- the list at p is written by an update of its object -/
theorem Inv.lstUpd {pins : List (Addr × Obj)} {σ : St} {H : Hp} {s : Shared} {p : Addr} {xs ys : List V} {its its' : List Value} {n n' : Nat} {f : Obj → Obj} (I : Inv X pins σ H s) (h : H p = some (.lst xs))
    (ho : s.heap.get? p = some { cls := .type "list", data := .seq its.toArray n }) (hf : f { cls := .type "list", data := .seq its.toArray n } = { cls := .type "list", data := .seq its'.toArray n' }) (r : Vals ys its') (hz : ys.length ≤ sizeLine) (t : Nat) :
    Inv X pins σ (upd H p (.lst ys)) { s with heap := s.heap.update p f, toks := t } := by
  have e : (s.heap.update p f).get? p = some { cls := .type "list", data := .seq its'.toArray n' } := by
    rw [Heap.get?_update_self f ho (by rw [hf] <;> rfl), hf]
  refine I.write (x := p) (e := p) (by rw [h]; trivial) (.inl rfl) (fun b u hb q => (Heap.get?_update_other _ _ (Ne.symm hb)).trans q) ⟨_, e⟩ ?_
  exact ⟨hz, its', n', r, e⟩
def rSetL : V → V → V → Hp → (Hp → Prop) → Prop := fun o i v H Q => ∃ p xs k j, o = .ref p ∧ i = .int k ∧ H p = some (.lst xs) ∧ ixN xs.length k = some j ∧ Q (upd H p (.lst (xs.set j v)))
theorem set_list : PSet X rSetL := by
  intro pins s σ H o i v ov iv u Q I ro ri rv h
  obtain ⟨p, xs, k, j, rfl, rfl, hp, hj, q⟩ := h
  cases ro
  obtain ⟨t, rfl⟩ := ri
  obtain ⟨its, n, r, ho, hz⟩ := I.lst hp
  obtain ⟨h1, h2, h3, h4⟩ := ixN_seq hj
  have hl := r.length
  have hn := line63
  have I' : Inv X pins σ (upd H p (.lst (xs.set j v))) { s with heap := s.heap.update p (Obj.mapSeq (·.setIfInBounds j u)) } :=
    I.lstUpd hp ho (mapSeq_set its n j u) (r.set rv j) (by rw [List.length_set]; exact hz) s.toks
  by_cases h0 : 0 ≤ k
  · have hk : k.toNat = j := by
      rw [seqIndex_of h0 h4] at h1
      exact Option.some.inj h1
    exact PySem.W.ki_setAt ho h0 (by omega) (by rw [List.size_toArray, ← hl]; exact h4) (by rw [hk]; exact ⟨_, I', q⟩)
  · have hk : (k + (its.toArray.size : Int)).toNat = j := by
      rw [seqIndex_neg (by omega) h3] at h1
      rw [List.size_toArray, ← hl]
      exact Option.some.inj h1
    exact PySem.W.ki_setBack ho (by omega) (by rw [List.size_toArray, ← hl]; exact h3) (by omega) (by rw [hk]; exact ⟨_, I', q⟩)

/-! ### slices -/
theorem slice_bounds (lo hi : Option Int) (n : Nat) : (sliceBounds lo hi none n).1 = ((HT.sIx n 0 lo : Nat) : Int) ∧ (sliceBounds lo hi none n).2.1 = ((HT.sIx n n hi : Nat) : Int) ∧ (sliceBounds lo hi none n).2.2 = 1 := by
  refine ⟨?_, ?_, rfl⟩
  · cases lo with
    | none => simp [sliceBounds, HT.sIx]
    | some i =>
      simp only [sliceBounds, HT.sIx, Option.getD_none, show (1 : Int) > 0 by decide, if_true]
      by_cases h : i < 0
      · simp only [h, if_true] <;> omega
      · simp only [h, if_false] <;> omega
  · cases hi with
    | none => simp [sliceBounds, HT.sIx]
    | some i =>
      simp only [sliceBounds, HT.sIx, Option.getD_none, show (1 : Int) > 0 by decide, if_true]
      by_cases h : i < 0
      · simp only [h, if_true] <;> omega
      · simp only [h, if_false] <;> omega
theorem slicePick_cut (its : List Value) (lo hi : Option Int) : slicePick its.toArray lo hi none = ((its.drop (HT.sIx its.length 0 lo)).take (HT.sIx its.length its.length hi - HT.sIx its.length 0 lo)).toArray := by
  obtain ⟨h1, h2, h3⟩ := slice_bounds lo hi its.toArray.size
  unfold slicePick
  rw [h1, h2, h3]
  simp only [sliceRange_one, pick_run, List.size_toArray] <;> rfl
/-- xs[lo:hi] of a list: a new list -/
def rSlL (K : PySem.W.Frag) : V → Option Int → Option Int → Hp → VK → Prop := fun x lo hi H Q => ∃ a xs, x = .ref a ∧ SqL K H a xs ∧ ∀ p, H p = none → Q (.ref p) (upd H p (.lst (cutV xs lo hi)))
theorem sl_list : SlR X (rSlL X.K) := by
  intro pins s σ H x v vl vu lo hi sl Q I rx hs pl pu h
  obtain ⟨a, xs, rfl, hx, q⟩ := h
  cases rx
  obtain ⟨its, r, ht, hz⟩ := I.list hx
  have hlen := r.length
  refine ⟨"list", _, slot_list_getitem.lookup, ht.isList.typeIs, ?_⟩
  refine wpAny_getItem_list_slice ht.isList hs pl pu .none (by simp) ?_ (by rw [List.size_toArray] <;> omega)
  rw [slicePick_cut, ← hlen]
  refine ⟨.ref s.heap.objs.size, _, I.laid (t' := s.toks) (o := .lst (cutV xs lo hi)) (fun b ob q => Heap.get?_push_of_some _ q) (Nat.le_refl _) ?_, rfl, q _ (I.hok.fresh (Nat.le_refl _))⟩
  exact ⟨Nat.le_trans (cutV_length xs lo hi) hz, _, 0, (r.drop (HT.sIx xs.length 0 lo)).take (HT.sIx xs.length xs.length hi - HT.sIx xs.length 0 lo), Heap.get?_push_size _ rfl⟩

/-! ### in, not in: flat items -/
def flatV : V → Bool
  | .non => true
  | .bl _ => true
  | .int _ => true
  | .str _ => true
  | _ => false
/-- == of flat values -/
def eqV : V → V → Bool
  | .non, .non => true
  | .bl a, .bl b => a == b
  | .bl a, .int b => (if a then 1 else 0) == b
  | .int a, .bl b => a == (if b then 1 else 0)
  | .int a, .int b => a == b
  | .str a, .str b => a == b
  | _, _ => false
theorem eqAt_V {A : Around} {s : Shared} {y x : V} {u v : Value} (ry : RelV y u) (rx : RelV x v) (fy : flatV y = true) (fx : flatV x = true) : SeqAt.EqAt A s u v (eqV y x) := by
  cases y with
  | non =>
    cases ry
    cases x with
    | non => cases rx; exact SeqAt.EqAt.same _
    | bl b => cases rx; exact SeqAt.EqAt.none_bool b
    | int b => obtain ⟨t, rfl⟩ := rx; exact SeqAt.EqAt.none_int b t
    | str b => obtain ⟨t, rfl⟩ := rx; exact SeqAt.EqAt.none_str b t
    | _ => exact absurd (show false = true from fx) Bool.false_ne_true
  | bl a =>
    cases ry
    cases x with
    | non => cases rx; exact SeqAt.EqAt.bool_none a
    | bl b => cases rx; exact SeqAt.EqAt.bool_bool a b
    | int b => obtain ⟨t, rfl⟩ := rx; exact SeqAt.EqAt.bool_int a b t
    | str b => obtain ⟨t, rfl⟩ := rx; exact SeqAt.EqAt.bool_str a b t
    | _ => exact absurd (show false = true from fx) Bool.false_ne_true
  | int a =>
    obtain ⟨t', rfl⟩ := ry
    cases x with
    | non => cases rx; exact SeqAt.EqAt.int_none a t'
    | bl b => cases rx; exact SeqAt.EqAt.int_bool a t' b
    | int b => obtain ⟨t, rfl⟩ := rx; exact SeqAt.EqAt.int_int a t' b t
    | str b => obtain ⟨t, rfl⟩ := rx; exact SeqAt.EqAt.int_str a t' b t
    | _ => exact absurd (show false = true from fx) Bool.false_ne_true
  | str a =>
    obtain ⟨t', rfl⟩ := ry
    cases x with
    | non => cases rx; exact SeqAt.EqAt.str_none a t'
    | bl b => cases rx; exact SeqAt.EqAt.str_bool a t' b
    | int b => obtain ⟨t, rfl⟩ := rx; exact SeqAt.EqAt.str_int a t' b t
    | str b => obtain ⟨t, rfl⟩ := rx; exact SeqAt.EqAt.str_str a t' b t
    | _ => exact absurd (show false = true from fx) Bool.false_ne_true
  | _ => exact absurd (show false = true from fy) Bool.false_ne_true
/-- the items' answers, read off the values (a value's own answer does not lean on its token) -/
def eqU (x : V) (u : Value) : Bool := match u with
  | .none => eqV .non x
  | .bool b => eqV (.bl b) x
  | .int i _ => eqV (.int i) x
  | .str z _ => eqV (.str z) x
  | _ => false
theorem eqU_of {x y : V} {u : Value} (r : RelV y u) (f : flatV y = true) : eqU x u = eqV y x := by
  cases y with
  | non => cases r; rfl
  | bl b => cases r; rfl
  | int i => obtain ⟨t, rfl⟩ := r; rfl
  | str z => obtain ⟨t, rfl⟩ := r; rfl
  | _ => exact absurd (show false = true from f) Bool.false_ne_true
theorem any_eqU {x : V} : ∀ {xs : List V} {us : List Value}, Vals xs us → xs.all flatV = true → us.any (eqU x) = xs.any fun y => eqV y x
  | _, _, .nil, _ => rfl
  | y :: xs, u :: us, .cons r t, f => by
    rw [List.all_cons, Bool.and_eq_true] at f
    rw [List.any_cons, List.any_cons, eqU_of r f.1, any_eqU t f.2]
theorem mem_eqAt {A : Around} {s : Shared} {x : V} {v : Value} (rx : RelV x v) (fx : flatV x = true) : ∀ {xs : List V} {us : List Value}, Vals xs us → xs.all flatV = true → ∀ u ∈ us, SeqAt.EqAt A s u v (eqU x u)
  | _, _, .nil, _ => fun u hu => by cases hu
  | y :: xs, u :: us, .cons r t, f => fun u' hu => by
    rw [List.all_cons, Bool.and_eq_true] at f
    rcases List.mem_cons.mp hu with rfl | hu
    · rw [eqU_of r f.1]; exact eqAt_V r rx f.1 fx
    · exact mem_eqAt rx fx t f.2 u' hu
def inV (x : V) (xs : List V) : Bool := xs.any fun y => eqV y x
/-- x in a list or tuple of flat items -/
def rIn (K : PySem.W.Frag) (neg : Bool) : R2 := fun x y H Q => ∃ p xs, y = .ref p ∧ (SqL K H p xs ∨ SqT K H p xs) ∧ flatV x = true ∧ xs.all flatV = true ∧ Q (.bl (if neg then !inV x xs else inV x xs)) H
theorem op_in_seq : OpR X (compareOp .In) (rIn X.K false) := by
  intro pins s σ H x y v u Q I rx ry h
  obtain ⟨p, xs, rfl, hq, fx, fs, q⟩ := h
  cases ry
  rcases hq with hq | hq
  · obtain ⟨its, r, pl, hz⟩ := I.list hq
    refine SeqAt.in_listAt (eqU x) pl.isList (fun w hw => mem_eqAt rx fx r fs w (by simpa using hw)) ⟨.bl _, H, I, rfl, ?_⟩
    rw [show its.toArray.any (eqU x) = its.any (eqU x) by simp, any_eqU r fs]
    exact q
  · obtain ⟨its, r, pl, hz⟩ := I.tuple hq
    refine SeqAt.in_tupleAt (eqU x) pl (fun w hw => mem_eqAt rx fx r fs w (by simpa using hw)) ⟨.bl _, H, I, rfl, ?_⟩
    rw [show its.toArray.any (eqU x) = its.any (eqU x) by simp, any_eqU r fs]
    exact q
theorem op_notIn_seq : OpR X (compareOp .NotIn) (rIn X.K true) := by
  intro pins s σ H x y v u Q I rx ry h
  obtain ⟨p, xs, rfl, hq, fx, fs, q⟩ := h
  cases ry
  rcases hq with hq | hq
  · obtain ⟨its, r, pl, hz⟩ := I.list hq
    refine SeqAt.notIn_listAt (eqU x) pl.isList (fun w hw => mem_eqAt rx fx r fs w (by simpa using hw)) ⟨.bl _, H, I, rfl, ?_⟩
    rw [show its.toArray.any (eqU x) = its.any (eqU x) by simp, any_eqU r fs]
    exact q
  · obtain ⟨its, r, pl, hz⟩ := I.tuple hq
    refine SeqAt.notIn_tupleAt (eqU x) pl (fun w hw => mem_eqAt rx fx r fs w (by simpa using hw)) ⟨.bl _, H, I, rfl, ?_⟩
    rw [show its.toArray.any (eqU x) = its.any (eqU x) by simp, any_eqU r fs]
    exact q
theorem op_notIn_str : OpR X (compareOp .NotIn) (fun x y H Q => ∃ i j, x = .str i ∧ y = .str j ∧ Q (.bl (!(!(Builtin.Str.occurrences j i 0 j.length 1).isEmpty))) H) := by
  intro pins s σ H x y v u Q I rx ry h
  obtain ⟨i, j, rfl, rfl, q⟩ := h
  obtain ⟨t, rfl⟩ := rx
  obtain ⟨t', rfl⟩ := ry
  exact notIn_str ⟨.bl _, H, I, rfl, q⟩

/-! ### len, list(x), tuple(x) of any list or tuple that is read -/
theorem call_len_seq : CallR X (.builtin "len") (fun xs H Q => ∃ p ys, xs = [.ref p] ∧ (SqL X.K H p ys ∨ SqT X.K H p ys) ∧ Q (.int ys.length) H) := by
  intro pins s σ H xs us Q I r h
  obtain ⟨p, ys, rfl, hq, q⟩ := h
  obtain ⟨u, rfl, rx⟩ := vals1 r
  cases rx
  have hn := line63
  rcases hq with hq | hq
  · obtain ⟨its, r', pl, hz⟩ := I.list hq
    have hlen := r'.length
    exact Calls.call_len_list pl.isList (by simp only [List.size_toArray] <;> omega) ⟨.int ys.length, H, I.tok _, ⟨s.toks + 1, by rw [List.size_toArray, hlen]⟩, q⟩
  · obtain ⟨its, r', pl, hz⟩ := I.tuple hq
    have hlen := r'.length
    exact len_tuple pl (by simp only [List.size_toArray] <;> omega) ⟨.int ys.length, H, I.tok _, ⟨s.toks + 1, by rw [List.size_toArray, hlen]⟩, q⟩
theorem call_len_str : CallR X (.builtin "len") (fun xs H Q => ∃ z, xs = [.str z] ∧ z.length ≤ sizeLine ∧ Q (.int z.length) H) := by
  intro pins s σ H xs us Q I r h
  obtain ⟨z, rfl, hz, q⟩ := h
  obtain ⟨u, rfl, t, rfl⟩ := vals1 r
  have hn := line63
  exact len_str (by omega) ⟨.int z.length, H, I.tok _, ⟨_, rfl⟩, q⟩
theorem CallR.or {f : Value} {r r' : List V → Hp → VK → Prop} (h : CallR X f r) (h' : CallR X f r') : CallR X f (fun xs H Q => r xs H Q ∨ r' xs H Q) := by
  intro pins s σ H xs us Q I rs q
  rcases q with q | q
  · exact h pins s σ H xs us Q I rs q
  · exact h' pins s σ H xs us Q I rs q
theorem call_list_of : CallR X (.type "list") (fun xs H Q => ∃ p ys, xs = [.ref p] ∧ (SqL X.K H p ys ∨ SqT X.K H p ys) ∧ ∀ l, H l = none → Q (.ref l) (upd H l (.lst ys))) := by
  intro pins s σ H xs us Q I r h
  obtain ⟨p, ys, rfl, hq, q⟩ := h
  obtain ⟨u, rfl, rx⟩ := vals1 r
  cases rx
  have fin : ∀ (its : List Value), Vals ys its → ys.length ≤ sizeLine → ∀ (h' : Heap) (c' : Nat), (∀ b o', s.heap.get? b = some o' → h'.get? b = some o') →
      h'.get? s.heap.objs.size = some { cls := .type "list", dict := none, data := .seq its.toArray c', slots := #[] } → EP X pins σ Q (.ref s.heap.objs.size) { s with heap := h' } := fun its r' hz h' c' kp e =>
    ⟨.ref s.heap.objs.size, _, I.laid (t' := s.toks) kp (Nat.le_refl _) (show ObjOk X.prog X.w _ h' _ (.lst ys) from ⟨hz, its, c', r', e⟩), rfl, q _ (I.hok.fresh (Nat.le_refl _))⟩
  rcases hq with hq | hq
  · obtain ⟨its, r', pl, hz⟩ := I.list hq
    have hlen := r'.length
    obtain ⟨o, ho, hc, n, hd⟩ := pl.isList
    exact call_list_seq p (.inl rfl) ho hc hd (fun h' c' kp e => fin its r' hz h' c' kp e) (by simp only [List.size_toArray] <;> omega)
  · obtain ⟨its, r', pl, hz⟩ := I.tuple hq
    have hlen := r'.length
    obtain ⟨o, ho, hc, n, hd⟩ := pl
    exact call_list_seq p (.inr rfl) ho hc hd (fun h' c' kp e => fin its r' hz h' c' kp e) (by simp only [List.size_toArray] <;> omega)
theorem call_tuple_of : CallR X (.type "tuple") (fun xs H Q => ∃ p ys, xs = [.ref p] ∧ ((SqL X.K H p ys ∧ ∀ l, H l = none → Q (.ref l) (upd H l (.tup ys))) ∨ (SqT X.K H p ys ∧ Q (.ref p) H))) := by
  intro pins s σ H xs us Q I r h
  obtain ⟨p, ys, rfl, h⟩ := h
  obtain ⟨u, rfl, rx⟩ := vals1 r
  cases rx
  rcases h with ⟨hq, q⟩ | ⟨hq, q⟩
  · obtain ⟨its, r', pl, hz⟩ := I.list hq
    have hlen := r'.length
    refine call_tuple_list pl.isList (fun h' kp => ?_) (by simp only [List.size_toArray] <;> omega)
    have I1 : Inv X pins σ H { s with heap := h' } := I.kept (t' := s.toks) kp
    have I2 : Inv X pins σ (upd H h'.objs.size (.tup ys)) { s with heap := h'.push { cls := .type "tuple", data := .seq its.toArray } } :=
      I1.laid (t' := s.toks) (fun b o e => Heap.get?_push_of_some _ e) (Nat.le_refl _) (show ObjOk X.prog X.w _ _ _ (.tup ys) from ⟨hz, its, r', IsTup.new _ _⟩)
    exact ⟨.ref h'.objs.size, _, I2, rfl, q _ (I1.hok.fresh (Nat.le_refl _))⟩
  · obtain ⟨its, r', pl, hz⟩ := I.tuple hq
    exact call_tuple_same pl ⟨.ref p, H, I, rfl, q⟩

/-! ### the call of a builtin's method: o.m(..) -/
/-- the value is of that builtin type -/
def tyV (K : PySem.W.Frag) (T : String) (x : V) (H : Hp) : Prop := match x with
  | .str _ => T = "str"
  | .int _ => T = "int"
  | .ref p => (T = "list" ∧ ∃ xs, SqL K H p xs) ∨ (T = "tuple" ∧ ∃ o, K.lookup p = some o ∧ o.cls = .type "tuple" ∧ o.dict = none) ∨
      (T = "dict" ∧ ((∃ kvs, H p = some (.dK kvs)) ∨ ∃ kvs, H p = some (.dT kvs))) ∨ (T = "set" ∧ ∃ S n, H p = some (.set S n))
  | _ => False
theorem tyV_is {pins : List (Addr × Obj)} {σ : St} {H : Hp} {s : Shared} {T : String} {x : V} {v : Value} (I : Inv X pins σ H s) (r : RelV x v) (ty : tyV X.K T x H) :
    s.TypeIs v T ∧ ∀ a, v = .ref a → ∃ ob, s.heap.get? a = some ob ∧ ob.dict = none := by
  cases x with
  | str z =>
    obtain ⟨t, rfl⟩ := r
    cases (show T = "str" from ty)
    exact ⟨typeIs_str s z t, fun _ e => nomatch e⟩
  | int i =>
    obtain ⟨t, rfl⟩ := r
    cases (show T = "int" from ty)
    exact ⟨typeIs_int s i t, fun _ e => nomatch e⟩
  | ref p =>
    cases r
    rcases ty with ⟨rfl, xs, hq⟩ | ⟨rfl, o, hk, hc, hd⟩ | ⟨rfl, hk⟩ | ⟨rfl, S, n, hk⟩
    · obtain ⟨its, _, pl, _⟩ := I.list hq
      refine ⟨pl.isList.typeIs, fun a e => ?_⟩
      cases e
      obtain ⟨o, n, e, c, hd, _⟩ := pl
      exact ⟨o, e, hd⟩
    · refine ⟨⟨o, I.kIn p o hk, hc⟩, fun a e => ?_⟩
      cases e
      exact ⟨o, I.kIn _ o hk, hd⟩
    · have z : ∃ o, s.heap.get? p = some o ∧ o.ExactDict := by
        rcases hk with ⟨kvs, hk⟩ | ⟨kvs, hk⟩
        · obtain ⟨_, _, _, _, o, _, _, e, ex, _⟩ := I.hok p _ hk
          exact ⟨o, e, ex⟩
        · obtain ⟨_, _, _, _, o, _, _, e, ex, _⟩ := I.hok p _ hk
          exact ⟨o, e, ex⟩
      obtain ⟨o, e, ex⟩ := z
      refine ⟨⟨o, e, ex.1⟩, fun a e2 => ?_⟩
      cases e2
      exact ⟨o, e, ex.2.1⟩
    · obtain ⟨o, _, _, _, e, ex, _⟩ := I.hok p _ hk
      refine ⟨⟨o, e, ex.1⟩, fun a e2 => ?_⟩
      cases e2
      exact ⟨o, e, ex.2.1⟩
  | _ => exact False.elim ty
def tBM0 (K : PySem.W.Frag) (T : String) (r : V → List V → Hp → VK → Prop) (to : TE) : TE := fun σ H Q => to σ H fun x H1 => tyV K T x H1 ∧ r x [] H1 Q
def tBM (K : PySem.W.Frag) (T : String) (r : V → List V → Hp → VK → Prop) (to : TE) (t : TA) : TE := fun σ H Q => to σ H fun x H1 => tyV K T x H1 ∧ t σ H1 fun xs H2 => r x xs H2 Q
variable {o e : Expr} {es : List Expr} {to : TE} {t : TA} {name : Str} {apos cpos : Pos} {T id : String} {r : V → List V → Hp → VK → Prop}
theorem pe_bm0 (pa : PlainAttrs T) (slot : Slot T name id) (hty : typeOf (.builtin id) = pure (.type "method_descriptor")) (hm : MtR X id r) (ho : PE X o to)
    (hbase : attributeBase o name X.env (eval o X.env) = eval o X.env := by rfl) (hline : (apos.endLine == cpos.line) = true := by rfl) : PE X (.Call (.Attribute o name apos) [] [] cpos) (tBM0 X.K T r to) := by
  intro pins s σ H Q I h
  refine wpAny_Call_method0_late hbase hline (thn (ho pins s σ H _ I h) fun v s1 ⟨x, H1, I1, r1, ty, q1⟩ => ?_)
  obtain ⟨h1, h2⟩ := tyV_is I1 r1 ty
  exact ⟨T, id, pa, slot, hty, h1, h2, Calls.callWith_builtin rfl (PySem.evalArgs_none (hm pins s1 σ H1 x [] v [] Q I1 r1 .nil q1))⟩
theorem pe_bm (pa : PlainAttrs T) (slot : Slot T name id) (hty : typeOf (.builtin id) = pure (.type "method_descriptor")) (hm : MtR X id r) (ho : PE X o to) (ha : PA X (e :: es) t)
    (hbase : attributeBase o name X.env (eval o X.env) = eval o X.env := by rfl)
    (hfew : ((backTo cpos (starEach (e :: es) X.env)).all (fun x => !x.1) && (backToKw cpos (keywordEach [] X.env)).all (fun x => x.1.isSome)
      && decide ((e :: es).length + ([] : List Keyword).length + (if ([] : List Keyword).isEmpty then 0 else 1) < 30)) = true := by rfl)
    (hline : (apos.endLine == cpos.line) = true := by rfl) (hs : starEach (e :: es) X.env = (false, eval e X.env) :: starEach es X.env := by rfl) (hplain : (backTo cpos (starEach es X.env)).any (·.1) = false := by rfl) :
    PE X (.Call (.Attribute o name apos) (e :: es) [] cpos) (tBM X.K T r to t) := by
  intro pins s σ H Q I h
  refine wpAny_Call_method_late hbase hfew hline rfl (thn (ho pins s σ H _ I h) fun v s1 ⟨x, H1, I1, r1, ty, q1⟩ => ?_)
  obtain ⟨h1, h2⟩ := tyV_is I1 r1 ty
  refine ⟨T, id, pa, slot, hty, h1, h2, ?_⟩
  have hA := ha cpos pins s1 σ H1 _ I1 q1
  rw [hs] at hA ⊢
  refine Calls.callWith_builtin (by show (false || (backTo cpos (starEach es X.env)).any (·.1)) = false; rw [hplain] <;> rfl) (Calls.evalArgs_plain ?_)
  exact thn hA fun us s2 ⟨vs, H2, I2, r2, q2⟩ => hm pins s2 σ H2 x vs v us Q I2 r1 r2 q2
/- xs.append(e), list.index on a module's tuple .. are MtR facts of 06m -/
end
end L2

namespace L2
open PySem PySem.Spec PyProof.Rows

def MtM (X : Cx) (id : String) (r : V → List V → Hp → VK → Prop) : Prop :=
  ∀ (pins : List (Addr × Obj)) (s : Shared) (σ : St) (H : Hp) (x : V) (xs : List V) (v : Value) (us : List Value) (Q : VK), Inv X pins σ H s → RelV x v → Vals xs us → r x xs H Q →
    wpAny (model X.prog X.w) X.A (call (.builtin id) (v :: us)) (EP X pins σ Q) X.xe s

/-! ### lists of values -/
theorem Vals.one : ∀ {x : V} {us : List Value}, Vals [x] us → ∃ u, us = [u] ∧ RelV x u
  | _, _, .cons r .nil => ⟨_, rfl, r⟩
theorem Vals.two : ∀ {x y : V} {us : List Value}, Vals [x, y] us → ∃ u v, us = [u, v] ∧ RelV x u ∧ RelV y v
  | _, _, _, .cons r (.cons q .nil) => ⟨_, _, rfl, r, q⟩
theorem Vals.zero : ∀ {us : List Value}, Vals [] us → us = []
  | _, .nil => rfl
theorem Vals.dropLast {xs : List V} {us : List Value} (h : Vals xs us) : Vals xs.dropLast us.dropLast := by
  induction h with
  | nil => exact .nil
  | cons r t ih =>
    cases t with
    | nil => exact .nil
    | cons q t' => exact .cons r ih
theorem Vals.eraseIdx : ∀ {xs : List V} {us : List Value} (i : Nat), Vals xs us → Vals (xs.eraseIdx i) (us.eraseIdx i)
  | _, _, _, .nil => .nil
  | _, _, 0, .cons _ t => t
  | _, _, i + 1, .cons r t => .cons r (Vals.eraseIdx i t)
theorem Vals.reverse {xs : List V} {us : List Value} (h : Vals xs us) : Vals xs.reverse us.reverse := by
  induction h with
  | nil => exact .nil
  | cons r t ih => rw [List.reverse_cons, List.reverse_cons]; exact Vals.append ih (.cons r .nil)
theorem Vals.rep {xs : List V} {us : List Value} (h : Vals xs us) : ∀ k : Nat, Vals (List.replicate k xs).flatten (List.replicate k us).flatten
  | 0 => .nil
  | k + 1 => by
    rw [List.replicate_succ, List.replicate_succ, List.flatten_cons, List.flatten_cons]
    exact Vals.append h (Vals.rep h k)
theorem erase_last {α : Type} (l : List α) : l.eraseIdx (l.length - 1) = l.dropLast := by
  induction l with
  | nil => rfl
  | cons a r ih =>
    cases r with
    | nil => rfl
    | cons b r =>
      have e : (a :: b :: r).length - 1 = ((b :: r).length - 1) + 1 := by
        have h1 : (a :: b :: r).length = r.length + 2 := rfl
        have h2 : (b :: r).length = r.length + 1 := rfl
        omega
      rw [e, List.eraseIdx_cons_succ, ih]
      all_goals rfl
theorem len_erase {α : Type} : ∀ (l : List α) (i : Nat), (l.eraseIdx i).length ≤ l.length
  | [], _ => Nat.le_refl _
  | _ :: _, 0 => Nat.le_succ _
  | _ :: r, i + 1 => Nat.succ_le_succ (len_erase r i)
theorem foldl_rep (its : List Value) : ∀ (k : Nat) (acc : List Value),
    List.foldl (fun x1 x2 => x1 ++ x2) acc.toArray (List.replicate k its.toArray) = (acc ++ (List.replicate k its).flatten).toArray
  | 0, acc => by simp
  | k + 1, acc => by
    have e : acc.toArray ++ its.toArray = (acc ++ its).toArray := by simp
    have e2 : (acc ++ its) ++ (List.replicate k its).flatten = acc ++ (List.replicate (k + 1) its).flatten := by
      rw [List.replicate_succ, List.flatten_cons, List.append_assoc]
    rw [← e2, ← foldl_rep its k (acc ++ its), ← e, List.replicate_succ, List.foldl_cons]

section
variable {X : Cx} {pins : List (Addr × Obj)} {σ : St} {H : Hp} {s : Shared} {l b : Addr} {xs ys zs : List V}

/-! ### the two steps: a tracked list is rewritten, a new list is laid -/
theorem Inv.lset {its its' : List Value} {n : Nat} {f : Array Value → Array Value} {t' : Nat} (I : Inv X pins σ H s) (hH : H l = some (.lst xs))
    (e : s.heap.get? l = some { cls := .type "list", data := .seq its.toArray n }) (hf : f its.toArray = its'.toArray) (hv : Vals ys its') (hz : ys.length ≤ sizeLine) :
    Inv X pins σ (upd H l (.lst ys)) { s with heap := s.heap.update l (Obj.mapSeq f), toks := t' } := by
  have q := PySem.IsL.update e f
  rw [hf] at q
  refine I.write (x := l) (e := l) (by rw [hH]; exact trivial) (.inl rfl) (fun b' u hb hu => (Heap.get?_update_other s.heap (Obj.mapSeq f) (Ne.symm hb)).trans hu) ⟨_, q⟩ ?_
  exact ⟨hz, its', _, hv, q⟩
theorem Inv.lnew {its : List Value} {t' : Nat} (I : Inv X pins σ H s) (hv : Vals ys its) (hz : ys.length ≤ sizeLine) :
    Inv X pins σ (upd H s.heap.objs.size (.lst ys)) { s with heap := s.heap.push { cls := .type "list", data := .seq its.toArray }, toks := t' } :=
  I.laid (fun _ _ q => Heap.get?_push_of_some _ q) (Nat.le_refl _) ⟨hz, its, 0, hv, Heap.get?_push_size _ rfl⟩
theorem Inv.fresh (I : Inv X pins σ H s) : H s.heap.objs.size = none := I.hok.fresh (Nat.le_refl _)
theorem Inv.lstM (I : Inv X pins σ H s) (hH : H l = some (.lst xs)) : xs.length ≤ sizeLine ∧ ∃ (its : List Value) (n : Nat), Vals xs its ∧ xs.length = its.length ∧ s.heap.get? l = some { cls := .type "list", data := .seq its.toArray n } := by
  obtain ⟨z, its, n, r, e⟩ := I.hok l _ hH
  exact ⟨z, its, n, r, r.length, e⟩

theorem notLongL {n : Nat} (h : n ≤ sizeLine) : Builtin.List.listTooLong n = false := by
  unfold Builtin.List.listTooLong
  exact decide_eq_false (by omega)
end

section
variable {X : Cx}

/-! ### methods -/
def rAppend : V → List V → Hp → VK → Prop := fun x vs H Q => ∃ l xs y, x = .ref l ∧ vs = [y] ∧ H l = some (.lst xs) ∧ xs.length < sizeLine ∧ Q .non (upd H l (.lst (xs ++ [y])))
theorem mt_append : MtM X "list.append" rAppend := by
  intro pins s σ H x vs v us Q I rx rv h
  obtain ⟨l, xs, y, rfl, rfl, hH, hz, q⟩ := h
  cases rx
  obtain ⟨u, rfl, ru⟩ := rv.one
  obtain ⟨z, its, n, r, hl, e⟩ := I.lstM hH
  refine call_meets F.slot_list_append ⟨_, e, rfl⟩ F.entry_list_append (F.args_list_append_2 _ _) (PySem.list_append l its.toArray n u (by rw [List.size_toArray]; omega)) ⟨e, ?_⟩
  refine ⟨.non, _, I.lset (its' := its ++ [u]) hH e (by simp) (r.append (.cons ru .nil)) ?_, rfl, q⟩
  rw [List.length_append, List.length_singleton]
  omega

def rExtend : V → List V → Hp → VK → Prop := fun x vs H Q => ∃ l b xs zs, x = .ref l ∧ vs = [.ref b] ∧ H l = some (.lst xs) ∧ H b = some (.lst zs) ∧ xs.length + zs.length ≤ sizeLine ∧ Q .non (upd H l (.lst (xs ++ zs)))
theorem mt_extend : MtM X "list.extend" rExtend := by
  intro pins s σ H x vs v us Q I rx rv h
  obtain ⟨l, b, xs, zs, rfl, rfl, hH, hB, hz, q⟩ := h
  cases rx
  obtain ⟨u, rfl, ru⟩ := rv.one
  cases ru
  obtain ⟨z, its, n, r, hl, e⟩ := I.lstM hH
  obtain ⟨z2, its2, n2, r2, hl2, e2⟩ := I.lstM hB
  have hsz : its.toArray.size + its2.toArray.size ≤ sizeLine := by rw [List.size_toArray, List.size_toArray]; omega
  have hlong : ¬ (!its.toArray.isEmpty && Builtin.List.listTooLong (its.toArray.size + its2.toArray.size)) = true := by
    rw [notLongL hsz, Bool.and_false]
    exact Bool.false_ne_true
  refine call_meets F.slot_list_extend ⟨_, e, rfl⟩ F.entry_list_extend (F.args_list_extend_2 _ _)
    (AutoSeq1.list_extend_list_list_0 l its.toArray n b its2.toArray n2 hlong (by rw [List.size_toArray]; omega) (by omega)) ⟨e, e2, ?_⟩
  refine ⟨.non, _, I.lset (its' := its ++ its2) hH e (by simp) (r.append r2) ?_, rfl, q⟩
  rw [List.length_append]
  omega

def rPop : V → List V → Hp → VK → Prop := fun x vs H Q => ∃ l xs y, x = .ref l ∧ vs = [] ∧ H l = some (.lst xs) ∧ xs[xs.length - 1]? = some y ∧ Q y (upd H l (.lst xs.dropLast))
theorem mt_pop : MtM X "list.pop" rPop := by
  intro pins s σ H x vs v us Q I rx rv h
  obtain ⟨l, xs, y, rfl, rfl, hH, hy, q⟩ := h
  cases rx
  have hus := rv.zero
  subst hus
  obtain ⟨z, its, n, r, hl, e⟩ := I.lstM hH
  obtain ⟨u, hu, ru⟩ := r.get hy
  have hy' : its.toArray[its.toArray.size - 1]? = some u := by
    show its.toArray[its.length - 1]? = some u
    rw [← Array.getElem?_toList, ← hl]
    exact hu
  refine call_meets F.slot_list_pop ⟨_, e, rfl⟩ F.entry_list_pop (F.args_list_pop_1 _) (MeetsSeq.list_pop_last l its.toArray n u hy' (by rw [List.size_toArray]; omega)) ⟨e, ?_⟩
  refine ⟨y, _, I.lset (its' := its.dropLast) hH e ?_ r.dropLast ?_, ru, q⟩
  · show its.toArray.eraseIdxIfInBounds (its.toArray.size - 1) = its.dropLast.toArray
    rw [List.size_toArray, List.eraseIdxIfInBounds_toArray, erase_last]
  · rw [List.length_dropLast]
    omega

def rPopAt : V → List V → Hp → VK → Prop := fun x vs H Q => ∃ l xs i k y, x = .ref l ∧ vs = [.int i] ∧ H l = some (.lst xs) ∧ -(2 ^ 63) ≤ i ∧ i < 2 ^ 63 ∧ seqIndex? i xs.length = some k ∧ xs[k]? = some y ∧ Q y (upd H l (.lst (xs.eraseIdx k)))
theorem mt_popAt : MtM X "list.pop" rPopAt := by
  intro pins s σ H x vs v us Q I rx rv h
  obtain ⟨l, xs, i, k, y, rfl, rfl, hH, h1, h2, hk, hy, q⟩ := h
  cases rx
  obtain ⟨u, rfl, ru⟩ := rv.one
  obtain ⟨t, rfl⟩ := ru
  obtain ⟨z, its, n, r, hl, e⟩ := I.lstM hH
  obtain ⟨w, hw, rw'⟩ := r.get hy
  refine call_meets F.slot_list_pop ⟨_, e, rfl⟩ F.entry_list_pop (F.args_list_pop_2 _ _)
    (MeetsSeq.list_pop_at l its.toArray n i t k w (fitsIndex_both h1 h2) (by rw [List.size_toArray, ← hl]; exact hk) (by rw [← Array.getElem?_toList]; exact hw) (by rw [List.size_toArray]; omega)) ⟨e, ?_⟩
  refine ⟨y, _, I.lset (its' := its.eraseIdx k) hH e ?_ (r.eraseIdx k) ?_, rw', q⟩
  · show its.toArray.eraseIdxIfInBounds k = (its.eraseIdx k).toArray
    rw [List.eraseIdxIfInBounds_toArray]
  · have := len_erase xs k
    omega

def rReverse : V → List V → Hp → VK → Prop := fun x vs H Q => ∃ l xs, x = .ref l ∧ vs = [] ∧ H l = some (.lst xs) ∧ Q .non (upd H l (.lst xs.reverse))
theorem mt_reverse : MtM X "list.reverse" rReverse := by
  intro pins s σ H x vs v us Q I rx rv h
  obtain ⟨l, xs, rfl, rfl, hH, q⟩ := h
  cases rx
  have hus := rv.zero
  subst hus
  obtain ⟨z, its, n, r, hl, e⟩ := I.lstM hH
  refine call_meets F.slot_list_reverse ⟨_, e, rfl⟩ F.entry_list_reverse (F.args_list_reverse_1 _) (AutoSeq1.list_reverse_list_0 l its.toArray n (by rw [List.size_toArray]; omega)) ⟨e, ?_⟩
  refine ⟨.non, _, I.lset (its' := its.reverse) hH e (by simp) r.reverse ?_, rfl, q⟩
  rw [List.length_reverse]
  omega

def rClear : V → List V → Hp → VK → Prop := fun x vs H Q => ∃ l xs, x = .ref l ∧ vs = [] ∧ H l = some (.lst xs) ∧ Q .non (upd H l (.lst []))
theorem mt_clear : MtM X "list.clear" rClear := by
  intro pins s σ H x vs v us Q I rx rv h
  obtain ⟨l, xs, rfl, rfl, hH, q⟩ := h
  cases rx
  have hus := rv.zero
  subst hus
  obtain ⟨z, its, n, r, hl, e⟩ := I.lstM hH
  refine call_meets F.slot_list_clear ⟨_, e, rfl⟩ F.entry_list_clear (F.args_list_clear_1 _) (AutoSeq1.list_clear_list_0 l its.toArray n (by rw [List.size_toArray]; omega)) ⟨e, ?_⟩
  exact ⟨.non, _, I.lset (its' := []) (ys := []) hH e rfl .nil (Nat.zero_le _), rfl, q⟩

/-! ### list + list, list += list, list * int -/
def rCat : R2 := fun x y H Q => ∃ l b xs zs, x = .ref l ∧ y = .ref b ∧ H l = some (.lst xs) ∧ H b = some (.lst zs) ∧ xs.length + zs.length ≤ sizeLine ∧ ∀ p, H p = none → Q (.ref p) (upd H p (.lst (xs ++ zs)))
theorem op_cat : OpR X (binaryOp .Add) rCat := by
  intro pins s σ H x y v u Q I rx ry h
  obtain ⟨l, b, xs, zs, rfl, rfl, hH, hB, hz, q⟩ := h
  cases rx
  cases ry
  obtain ⟨z, its, n, r, hl, e⟩ := I.lstM hH
  obtain ⟨z2, its2, n2, r2, hl2, e2⟩ := I.lstM hB
  refine PySem.P.add_list e e2 ?_ (by rw [List.size_toArray, List.size_toArray]; omega)
  have ea : its.toArray ++ its2.toArray = (its ++ its2).toArray := by simp
  rw [ea]
  exact ⟨.ref _, _, I.lnew (t' := s.toks) (r.append r2) (by rw [List.length_append]; omega), rfl, q _ I.fresh⟩
/-- a list times an int (a negative one is nothing) -/
def rRep : R2 := fun x y H Q => ∃ l k xs, x = .ref l ∧ y = .int k ∧ H l = some (.lst xs) ∧ -(2 ^ 63) ≤ k ∧ k < 2 ^ 63 ∧ xs.length * k.toNat ≤ sizeLine ∧
  ∀ p, H p = none → Q (.ref p) (upd H p (.lst (List.replicate k.toNat xs).flatten))
theorem len_rep {α : Type} (xs : List α) (k : Nat) : (List.replicate k xs).flatten.length = k * xs.length := by
  induction k with
  | zero => simp
  | succ k ih => rw [List.replicate_succ, List.flatten_cons, List.length_append, ih, Nat.succ_mul, Nat.add_comm]
theorem op_rep : OpR X (binaryOp .Mult) rRep := by
  intro pins s σ H x y v u Q I rx ry h
  obtain ⟨l, k, xs, rfl, rfl, hH, h1, h2, hz, q⟩ := h
  cases rx
  obtain ⟨t, rfl⟩ := ry
  obtain ⟨z, its, n, r, hl, e⟩ := I.lstM hH
  have hlen : its.toArray.size * k.toNat ≤ sizeLine := by rw [List.size_toArray, ← hl]; exact hz
  have hcap : ¬ its.toArray.size * k.toNat > (2 ^ 63 - 1) / 8 := by
    have : (sizeLine : Nat) ≤ (2 ^ 63 - 1) / 8 := by decide
    omega
  have hfit : ¬ (!Builtin.List.listFitsIndex k) = true := by
    rw [fitsIndex_both h1 h2]
    exact Bool.false_ne_true
  have hlong : ¬ Builtin.List.listTooLong (its.toArray.size * k.toNat) = true := by
    rw [notLongL hlen]
    exact Bool.false_ne_true
  have hnew : List.foldl (fun x1 x2 => x1 ++ x2) #[] (List.replicate (if its.toArray.isEmpty = true then 0 else k.toNat) its.toArray) = (List.replicate k.toNat its).flatten.toArray := by
    have f0 : ∀ m : Nat, List.foldl (fun x1 x2 => x1 ++ x2) #[] (List.replicate m its.toArray) = (List.replicate m its).flatten.toArray := fun m => by
      have := foldl_rep its m []
      rw [List.nil_append] at this
      exact this
    rw [f0]
    cases its with
    | nil => simp
    | cons a r' => rw [if_neg (by simp)]
  refine wpAny_binaryOp_repeat_ref (T := "list") (U := "int") (by decide) ⟨_, e, rfl⟩ (fun s' => typeIs_int s' k t) noFill_list_mul F.fills_int_mul F.slot_int_rmul repeat_list F.slot_int_index.lookup
    (call_meets F.slot_int_rmul (typeIs_int s k t) F.entry_int_rmul (F.args_int_rmul_2 _ _) (int___rmul___int_list k t l its.toArray n)
      ⟨e, rfl, ⟨_, e, rfl⟩, call_meets F.slot_list_mul ⟨_, e, rfl⟩ F.entry_list_mul (F.args_list_mul_2 _ _) (AutoListH.list___mul___list_int_3 l its.toArray n k t hfit hcap hlong) ⟨e, ?_⟩⟩)
  rw [hnew]
  exact ⟨.ref _, _, I.lnew (t' := s.toks) (r.rep k.toNat) (by rw [len_rep, Nat.mul_comm]; exact hz), rfl, q _ I.fresh⟩

/-! ### del xs[i] -/
theorem del_list {pins : List (Addr × Obj)} {s : Shared} {σ : St} {H : Hp} {l : Addr} {xs : List V} {i : Int} {t : Tok} {k : Nat} {Q : Unit → Shared → Prop} (I : Inv X pins σ H s) (hH : H l = some (.lst xs))
    (h1 : -(2 ^ 63) ≤ i) (h2 : i < 2 ^ 63) (hk : seqIndex? i xs.length = some k) (h : ∀ s', Inv X pins σ (upd H l (.lst (xs.eraseIdx k))) s' → Q () s') :
    wpAny (model X.prog X.w) X.A (delItem (.ref l) (.int i t)) Q X.xe s := by
  obtain ⟨z, its, n, r, hl, e⟩ := I.lstM hH
  refine PySem.P.delItem_list (k := k) e (fitsIndex_both h1 h2) (by rw [List.size_toArray, ← hl]; exact hk) (h _ ?_) (by rw [List.size_toArray]; omega)
  refine I.lset (its' := its.eraseIdx k) (t' := s.toks) hH e ?_ (r.eraseIdx k) ?_
  · show its.toArray.eraseIdxIfInBounds k = (its.eraseIdx k).toArray
    rw [List.eraseIdxIfInBounds_toArray]
  · have := len_erase xs k
    omega
end

/-! ### xs[a:b] = ys -/
section
variable {prog : Program} {w : World} {A : Around} {E : Value → Shared → Prop} {s : Shared}
theorem splice_eq (its its2 : List Value) (a c : Nat) : its.toArray.extract 0 a ++ its2.toArray ++ its.toArray.extract c its.toArray.size = (its.take a ++ its2 ++ its.drop c).toArray := by
  apply Array.toList_inj.mp
  first
    | (simp
       exact List.take_of_length_le (by simp))
    | simp [List.take_of_length_le]
    | simp
theorem bounds_run {a c n : Nat} (hac : a ≤ c) (hc : c ≤ n) : sliceBounds (some (a : Int)) (some (c : Int)) none n = ((a : Int), (c : Int), 1) := by
  simp only [sliceBounds, Option.getD_none]
  have h1 : ¬ ((a : Int) < 0) := by omega
  have h2 : ¬ ((c : Int) < 0) := by omega
  simp only [h1, h2, if_false, show (1 : Int) > 0 by decide, if_true]
  congr 1
  · omega
  · congr 1; omega
set_option maxRecDepth 100000 in
/-- list.__setitem__ with a slice of step one and another list -/
theorem setItem_slice {l b sl : Addr} {items new : Array Value} {n n2 : Nat} {vl vu : Value} {a c : Nat} {Q : Unit → Shared → Prop}
    (e : s.heap.get? l = some { cls := .type "list", data := .seq items n }) (e2 : s.heap.get? b = some { cls := .type "list", data := .seq new n2 }) (hne : l ≠ b)
    (hs : s.heap.IsSliceOf sl vl vu .none) (pl : IsPart vl (some (a : Int))) (pu : IsPart vu (some (c : Int))) (hac : a ≤ c) (hc : c ≤ items.size)
    (hsz : items.size + new.size ≤ sizeLine) (h : Q () { s with heap := s.heap.update l (Obj.mapSeq fun xs => xs.extract 0 a ++ new ++ xs.extract c xs.size) }) :
    wpAny (model prog w) A (setItem (.ref l) (.ref sl) (.ref b)) Q E s := by
  have hl : s.heap.IsList l items := PySem.IsL.isList e
  have hb : s.heap.IsList b new := PySem.IsL.isList e2
  obtain ⟨os, hos, hcs, hds⟩ := id hs
  have hTs : s.TypeIs (.ref sl) "slice" := ⟨os, hos, hcs⟩
  have hstep : ¬ ((rawPart none == rawInt 0) = true) := Bool.false_ne_true
  have hsame : Builtin.List.listSameRef (.ref l) (.ref b) = false := by
    unfold Builtin.List.listSameRef
    exact beq_eq_false_iff_ne.mpr hne
  have hmax : (max (a : Int) (c : Int)).toNat = c := by omega
  have hz' : ((fun xs : Array Value => xs.extract 0 a ++ new ++ xs.extract c xs.size) items).size ≤ sizeLine + 1 := by
    simp only [Array.size_append, Array.size_extract]
    omega
  unfold setItem
  try with_reducible refine wpAny_holding ?_
  first | refine wpAny_bind (wpAny_pure ?_) | skip
  refine wpAny_bind (wpAny_sequenceKey hl.typeIs (by decide) ?_)
  refine wpAny_bind (wpAny_callSpecial?_slot (name := Str.ofString "__setitem__") hl.typeIs slot_list_setitem
    (wpAny_call_entry slot_list_setitem hl.typeIs entry_list_setitem ?_ (args_list_setitem _ _ _)))
  show wpAny _ _ (Builtin.List.listSubscript? (.ref sl) >>= _) _ _ s
  refine wpAny_bind ?_
  unfold Builtin.List.listSubscript?
  refine wpAny_bind (wpAny_specialOf hTs slice_no_index ?_)
  simp only [Option.isNone_none, if_true]
  refine wpAny_pure ?_
  show wpAny _ _ (typeOf (.ref sl) >>= _) _ _ s
  refine wpAny_bind (wpAny_typeOf hTs ?_)
  first
    | rw [if_neg (by decide)]
    | refine PySem.W.KFB.if_not (by decide) ?_
  rw [listSliceParts_eq]
  refine wpAny_bind (wpAny_bind (wpAny_field hos hds (x := .none) rfl (wpAny_bind (wpAny_listPart .none ?_))))
  rw [if_neg hstep]
  refine wpAny_bind (wpAny_field hos hds (x := vl) rfl (wpAny_bind (wpAny_listPart pl ?_)))
  refine wpAny_bind (wpAny_field hos hds (x := vu) rfl (wpAny_bind (wpAny_listPart pu (wpAny_pure ?_))))
  first
    | simp only [hsame, Bool.false_eq_true, if_false]
    | refine PySem.W.KFB.if_not hsame ?_
    | (dsimp only
       rw [if_neg (by rw [hsame]; exact Bool.false_ne_true)])
  refine wpAny_bind (m := Builtin.List.listAllItems (.ref b) "must assign iterable to extended slice") ?_
  unfold Builtin.List.listAllItems
  refine wpAny_bind (wpAny_typeOf hb.typeIs ?_)
  first
    | refine PySem.W.KFB.if_so (by decide) ?_
    | rw [if_pos (by decide)]
    | simp only [beq_self_eq_true, Bool.true_or, if_true]
  unfold Builtin.List.listItems
  refine wpAny_bind (wpAny_seqItems e2 rfl (wpAny_pure ?_))
  refine wpAny_bind (wpAny_bind (wpAny_seqItems e rfl (wpAny_pure ?_)))
  refine wpAny_bind (wpAny_of_eq ((sliceIndices_raw (some (a : Int)) (some (c : Int)) none items.size (by simp)).trans (congrArg (pure : Int × Int × Int → Sem (Int × Int × Int)) (bounds_run hac hc))) ?_)
  show wpAny _ _ (if ((1 : Int) == 1) = true then _ else _) _ _ s
  rw [if_pos (by decide)]
  refine wpAny_bind (wpAny_rule ?_)
  first
    | simp only [notLongL hsz, Bool.false_eq_true, if_false]
    | refine PySem.W.KFB.if_not (notLongL hsz) ?_
  first | refine wpAny_bind (wpAny_pure ?_) | skip
  show wpAny _ _ (updateSeq l (fun xs => xs.extract 0 ((a : Int)).toNat ++ new ++ xs.extract (max (a : Int) (c : Int)).toNat xs.size) >>= _) _ _ s
  rw [hmax, Int.toNat_natCast]
  refine wpAny_bind (wpAny_updateSeq (hz := Nat.le_trans (Nat.le_add_right _ _) hsz) (_hz' := hz') e rfl ?_)
  refine wpAny_bind (wpAny_letGo ?_)
  first
    | exact wpAny_bind (wpAny_pure (wpAny_pure ⟨.none, rfl, wpAny_pure h⟩))
    | exact wpAny_pure ⟨.none, rfl, wpAny_pure h⟩
end

section
variable {X : Cx}
/-- xs[a:c] = ys of another list, at the value level: sl is the slice object that was just made -/
theorem set_slice {pins : List (Addr × Obj)} {s : Shared} {σ : St} {H : Hp} {l b sl : Addr} {xs ys : List V} {a c : Int} {vl vu : Value} {Q : Unit → Shared → Prop} (I : Inv X pins σ H s)
    (hH : H l = some (.lst xs)) (hB : H b = some (.lst ys)) (hne : l ≠ b) (hs : s.heap.IsSliceOf sl vl vu .none) (ra : RelV (.int a) vl) (rc : RelV (.int c) vu) (h0 : 0 ≤ a) (hac : a ≤ c) (hc : c ≤ xs.length)
    (hz : xs.length + ys.length ≤ sizeLine) (h : ∀ s', Inv X pins σ (upd H l (.lst (xs.take a.toNat ++ ys ++ xs.drop c.toNat))) s' → Q () s') :
    wpAny (model X.prog X.w) X.A (setItem (.ref l) (.ref sl) (.ref b)) Q X.xe s := by
  obtain ⟨ta, rfl⟩ := ra
  obtain ⟨tc, rfl⟩ := rc
  obtain ⟨z, its, n, r, hl, e⟩ := I.lstM hH
  obtain ⟨z2, its2, n2, r2, hl2, e2⟩ := I.lstM hB
  obtain ⟨a', rfl⟩ := Int.eq_ofNat_of_zero_le h0
  obtain ⟨c', rfl⟩ := Int.eq_ofNat_of_zero_le (Int.le_trans h0 hac)
  simp only [Int.toNat_natCast] at h
  refine setItem_slice (a := a') (c := c') e e2 hne hs (.int _ _) (.int _ _) (by omega) (by rw [List.size_toArray]; omega) (by rw [List.size_toArray, List.size_toArray]; omega) (h _ ?_)
  refine I.lset (its' := its.take a' ++ its2 ++ its.drop c') (t' := s.toks) hH e ?_ (Vals.append (Vals.append (r.take _) r2) (r.drop _)) ?_
  · exact splice_eq its its2 a' c'
  · rw [List.length_append, List.length_append, List.length_take, List.length_drop]
    omega
end
end L2

namespace Att
open PySem PySem.W PySem.Calls PyProof.Rows

/-! ### the script -/
theorem ints_of_wellAll {P : Params} {h : Heap} : ∀ (ns : List Int) (vs : List Value), WellAll P h vs (ns.map WData.int) → IntsAre vs ns := by
  intro ns
  induction ns with
  | nil =>
    intro vs w
    rw [List.map_nil] at w
    cases w
    exact .nil
  | cons n ns ih =>
    intro vs w
    rw [List.map_cons] at w
    cases w with
    | cons a b =>
      cases a
      exact .cons _ _ (ih _ b)

theorem script_of {l : OpenLaw} {n : Nat} (hn : l.most = some n) {P : Params} {h : Heap} {args : List WData} {vals : List Value}
    (hpre : l.row.toRowW.claim.pre args = true) (hwl : WellAll P h vals args) :
    ∃ a vs ns, vals = [Value.ref a] ∧ args = [WData.list (ns.map WData.int)] ∧ h.get? a = some { cls := .type "list", data := .seq vs.toArray } ∧ IntsAre vs ns ∧ ns.length ≤ n := by
  have hsh : WShape.hasAll [] args [.list .int] = true := (pre_splitW hpre).1
  have hc : l.pre.holds [] { args := args } = true := (pre_splitW hpre).2
  obtain ⟨d, r, rfl, h1, h2⟩ := hasAllW_cons hsh
  obtain rfl := hasAllW_nil h2
  obtain ⟨xs, rfl, h3⟩ := hasW_list h1
  obtain ⟨ns, rfl⟩ := items_int h3
  have hlen : ns.length ≤ n := by
    unfold OpenLaw.pre at hc
    have h4 : (WTm.not (.lt (.lit (.int (n : Int))) (.len (.arg 0)))).holds [] { args := [.list (ns.map .int)] } = true := by
      have h4 := (holds_andW hc).1
      rw [hn] at h4
      exact h4
    have h5 := condW_of h4 (w_not (w_lt w_lit (w_len_list (w_arg rfl))))
    rw [List.length_map] at h5
    refine Nat.le_of_not_lt fun q => ?_
    have q' : (n : Int) < ((ns.length : Nat) : Int) := by omega
    first
      | (rw [decide_eq_true q'] at h5; exact absurd h5 (by decide))
      | (simp at h5; omega)
  cases hwl with
  | cons w1 w2 =>
    cases w2
    cases w1 with
    | list ho hall => exact ⟨_, _, ns, rfl, rfl, ho, ints_of_wellAll ns _ hall, hlen⟩

theorem post_true (l : OpenLaw) (args : List WData) : l.row.toRowW.claim.post args (.bool true) args = true :=
  postW_of (r := l.row.toRowW) (X := (true == true))
    (show WShape.has [] (.bool true) .bool = true by first | rfl | decide | simp [WShape.has, WShape.arms, WShape.armsAll])
    (show (WTm.eq .res (.lit (.bool true))).value [] { args := args, res := some (.bool true), after := args } = some (.bool (true == true)) from w_eq_bool (w_res rfl) w_lit) rfl

/-! ### the attachment: holds_open's last premise (the goal 'hc' behind k_head) from a wpAny of the law's body -/
theorem attach {l : OpenLaw} {n : Nat} {q : Program} {loose : List Str} {XP : (Str → Option Value) → Heap → Prop} {YP : World → Heap → Prop} {d : DefRec} {x : Str}
    (hn : l.most = some n) (hdf : d.params.defaults = [])
    (hbind : ∀ pm cd doc v : Value, bindArgs (docDef d.name d.params d.body d.scope pm cd doc) ⟨[v], []⟩ = pure [(x, v)])
    (hx : d.scope.names.lookup x = some .local ∨ d.scope.names.lookup x = some .cell)
    (hk : d.scope.kind = .function) (hco : d.scope.isCoroutine = false) (hgen : d.scope.isGenerator = false)
    (body : ∀ (w : World) (s₀ s₁ s : Shared) (mg mb : Str → Option Value) (fa : Addr) (o : Obj) (pm cd doc : Value) (a : Addr) (vs : List Value) (ns : List Int),
      Ground q loose [] XP w s₀ mg mb s₁.heap → YP w s₁.heap →
      s₁.heap.get? fa = some o → o.data = .func (docDef d.name d.params d.body d.scope pm cd doc) → s₁.heap.CodeRec cd d.name → mg d.name = some (.ref fa) →
      s₁.heap.get? a = some { cls := .type "list", data := .seq vs.toArray } → IntsAre vs ns → ns.length ≤ n →
      s.gens = #[] → s.os = s₁.os →
      Fr s₁.heap s₁.heap.objs.size s.heap (bindL (envOfC d.name d.scope s₁.heap.objs.size fa cd).kindOf [(x, .ref a)] fun _ => none) →
      Cl s₁.heap.objs.size (cellsFrom (s₁.heap.objs.size + 1) d.scope.names []) s.heap (bindC (envOfC d.name d.scope s₁.heap.objs.size fa cd).kindOf [(x, .ref a)] fun _ => none) →
      wpAny (model l.prog w) (callerA.deeper (envOfC d.name d.scope s₁.heap.objs.size fa cd)) (execs d.body (envOfC d.name d.scope s₁.heap.objs.size fa cd))
        (fun f s' => f = .ret (.bool true) ∧ OldK s₁.heap s'.heap ∧ s'.os = s₁.os ∧ AllBare s'.gens) (fun _ _ => False) s) :
    WalkO q loose XP YP l.row.toRowW d [] (fun f vs => PySem.call f vs) := by
  intro w s₀ s₁ mg mb G Y fa o pm cd doc dV kV ho hd hcd hD hmg hg args vals as hpre hlay hrd hwl hlo
  obtain rfl : dV = .none := Dflts.none hD hdf
  obtain rfl : kV = .none := Dflts.noKw hD
  obtain ⟨a, vs, ns, rfl, rfl, hobj, hints, hlen⟩ := script_of hn hpre hwl
  refine enter_call ?_
  refine call_cells_ret (o := o) (by rw [depth_caller]; decide) ho (fd_plain hd) G.T.nolimit hcd (hbind pm cd doc (.ref a)) (fun y hy => ?_) (fun h₁ tk F X => ?_) hco hgen hk
  · obtain rfl : y = (x, Value.ref a) := List.mem_singleton.mp hy
    rcases hx with e | e
    · exact .inl e
    · exact .inr ⟨e, cellsFrom_some _ _ _ (.inl e)⟩
  · refine wpAny_mono (body w s₀ s₁ { s₁ with heap := h₁, toks := tk } mg mb fa o pm cd doc a vs ns G Y ho (fd_plain hd) hcd hmg hobj hints hlen hg rfl F X) (fun f s' hq => ?_) (fun _ _ hq => hq)
    obtain ⟨rfl, h2, h3, h4⟩ := hq
    exact ⟨.inl ⟨.bool true, .bool true, [], rfl, fun _ => rfl, .bool true, post_true l _, fun _ => ⟨List.Pairwise.nil, fun _ hm => (nomatch hm)⟩⟩, h2, h3, h4⟩

/-- the same from a codeAny of the CALL (for a layer whose function contracts speak of calls) -/
theorem attach_call {l : OpenLaw} {n : Nat} {q : Program} {loose : List Str} {XP : (Str → Option Value) → Heap → Prop} {YP : World → Heap → Prop} {d : DefRec}
    (hn : l.most = some n) (hdf : d.params.defaults = [])
    (call : ∀ (w : World) (s₀ s₁ : Shared) (mg mb : Str → Option Value) (fa : Addr) (o : Obj) (pm cd doc : Value) (a : Addr) (vs : List Value) (ns : List Int),
      Ground q loose [] XP w s₀ mg mb s₁.heap → YP w s₁.heap →
      s₁.heap.get? fa = some o → o.data = .func (docDef d.name d.params d.body d.scope pm cd doc) → s₁.heap.CodeRec cd d.name → mg d.name = some (.ref fa) →
      s₁.heap.get? a = some { cls := .type "list", data := .seq vs.toArray } → IntsAre vs ns → ns.length ≤ n → s₁.gens = #[] →
      codeAny (model l.prog w) callerA (.call (.ref fa) ⟨[.ref a], []⟩) (fun r s' => r = .ok (.ret (.bool true)) ∧ OldK s₁.heap s'.heap ∧ s'.os = s₁.os ∧ AllBare s'.gens) s₁) :
    WalkO q loose XP YP l.row.toRowW d [] (fun f vs => PySem.call f vs) := by
  intro w s₀ s₁ mg mb G Y fa o pm cd doc dV kV ho hd hcd hD hmg hg args vals as hpre hlay hrd hwl hlo
  obtain rfl : dV = .none := Dflts.none hD hdf
  obtain rfl : kV = .none := Dflts.noKw hD
  obtain ⟨a, vs, ns, rfl, rfl, hobj, hints, hlen⟩ := script_of hn hpre hwl
  refine enter_call (codeAny_mono (call w s₀ s₁ mg mb fa o pm cd doc a vs ns G Y ho (fd_plain hd) hcd hmg hobj hints hlen hg) fun r s' hq => ?_)
  obtain ⟨rfl, h2, h3, h4⟩ := hq
  exact ⟨.inl ⟨.bool true, .bool true, [], rfl, fun _ => rfl, .bool true, post_true l _, fun _ => ⟨List.Pairwise.nil, fun _ hm => (nomatch hm)⟩⟩, h2, h3, h4⟩

/-- the same where the top left finished generators (o_head chose holds_openN): nothing may have changed at all and no generator may be left -/
theorem attachN {l : OpenLaw} {n : Nat} {q : Program} {loose : List Str} {XP : (Str → Option Value) → Heap → Prop} {YP : World → Heap → Prop} {d : DefRec} {x : Str}
    (hn : l.most = some n) (hdf : d.params.defaults = [])
    (hbind : ∀ pm cd doc v : Value, bindArgs (docDef d.name d.params d.body d.scope pm cd doc) ⟨[v], []⟩ = pure [(x, v)])
    (hx : d.scope.names.lookup x = some .local ∨ d.scope.names.lookup x = some .cell)
    (hk : d.scope.kind = .function) (hco : d.scope.isCoroutine = false) (hgen : d.scope.isGenerator = false)
    (body : ∀ (w : World) (s₀ s₁ s : Shared) (mg mb : Str → Option Value) (fa : Addr) (o : Obj) (pm cd doc : Value) (a : Addr) (vs : List Value) (ns : List Int),
      Ground q loose [] XP w s₀ mg mb s₁.heap → YP w s₁.heap →
      s₁.heap.get? fa = some o → o.data = .func (docDef d.name d.params d.body d.scope pm cd doc) → s₁.heap.CodeRec cd d.name → mg d.name = some (.ref fa) →
      s₁.heap.get? a = some { cls := .type "list", data := .seq vs.toArray } → IntsAre vs ns → ns.length ≤ n →
      s.gens = #[] → s.os = s₁.os →
      Fr s₁.heap s₁.heap.objs.size s.heap (bindL (envOfC d.name d.scope s₁.heap.objs.size fa cd).kindOf [(x, .ref a)] fun _ => none) →
      Cl s₁.heap.objs.size (cellsFrom (s₁.heap.objs.size + 1) d.scope.names []) s.heap (bindC (envOfC d.name d.scope s₁.heap.objs.size fa cd).kindOf [(x, .ref a)] fun _ => none) →
      wpAny (model l.prog w) (callerA.deeper (envOfC d.name d.scope s₁.heap.objs.size fa cd)) (execs d.body (envOfC d.name d.scope s₁.heap.objs.size fa cd))
        (fun f s' => f = .ret (.bool true) ∧ (∀ b o, s₁.heap.get? b = some o → s'.heap.get? b = some o) ∧ s'.os = s₁.os ∧ s'.gens = #[]) (fun _ _ => False) s) :
    WalkN q loose XP YP l.row.toRowW d [] (fun f vs => PySem.call f vs) := by
  intro w s₀ s₁ mg mb G Y fa o pm cd doc dV kV ho hd hcd hD hmg hg args vals as hpre hlay hrd hwl hlo
  obtain rfl : dV = .none := Dflts.none hD hdf
  obtain rfl : kV = .none := Dflts.noKw hD
  obtain ⟨a, vs, ns, rfl, rfl, hobj, hints, hlen⟩ := script_of hn hpre hwl
  refine enter_callW ?_
  refine call_cells_ret (o := o) (by rw [depth_caller]; decide) ho (fd_plain hd) G.T.nolimit hcd (hbind pm cd doc (.ref a)) (fun y hy => ?_) (fun h₁ tk F X => ?_) hco hgen hk
  · obtain rfl : y = (x, Value.ref a) := List.mem_singleton.mp hy
    rcases hx with e | e
    · exact .inl e
    · exact .inr ⟨e, cellsFrom_some _ _ _ (.inl e)⟩
  · refine wpAny_mono (body w s₀ s₁ { s₁ with heap := h₁, toks := tk } mg mb fa o pm cd doc a vs ns G Y ho (fd_plain hd) hcd hmg hobj hints hlen hg rfl F X) (fun f s' hq => ?_) (fun _ _ hq => hq)
    obtain ⟨rfl, h2, h3, h4⟩ := hq
    exact ⟨.inl ⟨.bool true, .bool true, [], rfl, fun _ => rfl, .bool true, post_true l _, fun _ => ⟨List.Pairwise.nil, fun _ hm => (nomatch hm)⟩⟩, h2, h3, h4⟩

/-! ### rules over ANY heap (no ledger) from facts about the written part K: the library's own take a ledger (News) for what they write -/
section
variable {prog : Program} {w : World} {A : Around} {E : Value → Shared → Prop} {s : Shared} {K : Frag}

/-- a def of the module, or a method (qual 'C.m'), entered: the frame is the next address; cells behind it -/
theorem call_fn {R : Result → Shared → Prop} {name qual : Str} {params : Arguments} {body : List Stmt} {scope : Scope} {dV kV doc pm cdv ct oc : Value} {an od : Option Addr} {osl : Array (Option Value)} {f : Addr} {args : Args} {binds : List (Str × Value)}
    (X : K.In s.heap) (hlim : s.heap.NoLimit) (ho : K.lookup f = some ⟨oc, od, .func (fnOf name qual params body scope dV kV doc pm an cdv ct), osl⟩) (hcd : codeIn K cdv qual = true) (hroom : A.depth < recursionLimit)
    (hbind : BindsTo s (fnOf name qual params body scope dV kV doc pm an cdv ct) args binds)
    (hkind : (binds.all fun y => scope.names.lookup y.1 == some .local || scope.names.lookup y.1 == some .cell) = true)
    (h : ∀ s₁, InCallC s s.heap.objs.size (bindL (envOfC qual scope s.heap.objs.size f cdv).kindOf binds fun _ => none) (cellsFrom (s.heap.objs.size + 1) scope.names [])
        (bindC (envOfC qual scope s.heap.objs.size f cdv).kindOf binds fun _ => none) s₁ →
      wpAny (model prog w) (A.deeper (envOfC qual scope s.heap.objs.size f cdv)) (execs body (envOfC qual scope s.heap.objs.size f cdv))
        (fun fl s' => R (.ok (.ret (match fl with | .ret v => v | _ => .none))) s')
        (fun e s' => wpAny (model prog w) (A.deeper (envOfC qual scope s.heap.objs.size f cdv)) (leaving (envOfC qual scope s.heap.objs.size f cdv) e) (fun _ s'' => R (.error e) s'') (fun e' s'' => R (.error e') s'') s') s₁)
    (hco : scope.isCoroutine = false) (hgen : scope.isGenerator = false) (hk : scope.kind = .function) : codeAny (model prog w) A (.call (.ref f) args) R s := by
  refine codeAny_call_function hroom (X _ _ ho) rfl hco hgen rfl (codeRec_of X hcd) (hbind _ _ _ _ ?_)
  refine wpAny_newFunctionEnv_cells hk (kindsX hkind _) fun env he s₁ x => ?_
  subst he
  exact ⟨hlim.keeps x.toInCall.keep, codeAny_func (h s₁ x)⟩

/-- C(..): dict at size, instance at size + 1, then __init__ -/
theorem make_obj {R : Result → Shared → Prop} {C fI : Addr} {rest : List Value} {kw : List (Str × Value)}
    (X : K.In s.heap) (hm : makesIn K C = true) (hi : findIn K (.ref C) "__init__" = some (some (.ref fI))) (hf : isFn K (.ref fI) = true)
    (h : codeAny (model prog w) (A.under (.builtin "type.__call__" ⟨.ref C :: rest, kw⟩)) (.call (.ref fI) ⟨.ref (s.heap.objs.size + 1) :: rest, kw⟩) (InitBack (s.heap.objs.size + 1) R)
      { s with heap := (s.heap.push emptyDict).push (instObj C s.heap.objs.size) }) : codeAny (model prog w) A (.call (.ref C) ⟨rest, kw⟩) R s := by
  obtain ⟨hh, g, d, t, os⟩ := s
  exact make_core (makes_of X hm) (looks_findIn X hi) (fun self => bind_fn X self (beq_iff_eq.mp hf)) (.inl rfl) h

/-- x.name where the instance's dict holds the name and the class does not -/
theorem get_field {x C : Addr} {ox : Obj} {es : List DictEntry} {n : Nat} {name : Str} {expr : Bool} {v : Value} {Q : Value → Shared → Prop}
    (X : K.In s.heap) (I : PySem.W.InstAt s.heap x ox C (some (dictOf es n))) (hg : plainGet K C name = true) (hh : hasDictIn K C = true) (ha : findIn K (.ref C) name = some none)
    (hl : getL name es = some (some v)) (hv : handedIn v = true) (h : Q v { s with toks := s.toks + 1 }) : wpAny (model prog w) A (getAttr (.ref x) name expr) Q E s :=
  get_value X I (plainGet_of hg).1 (findObj_own hh ha rfl hl) hv h

/-- x.m(..): the method found in the class -/
theorem get_method {x C f : Addr} {ox : Obj} {es : List DictEntry} {n : Nat} {name : Str} {pl : Sem Bool} {Q : Value × List Value → Shared → Prop}
    (X : K.In s.heap) (I : PySem.W.InstAt s.heap x ox C (some (dictOf es n))) (hg : plainGet K C name = true) (hf : findIn K (.ref C) name = some (some (.ref f))) (ht : isFn K (.ref f) = true)
    (hl : getL name es = some none) (h : Q (.ref f, [.ref x]) s) : wpAny (model prog w) A (getMethod (.ref x) name pl) Q E s :=
  method_fn X I (plainGet_of hg).1 (plainGet_of hg).2 hf (beq_iff_eq.mp ht) (by show (lookIn name (dictOf es n)).map _ = _; rw [lookIn_dict, hl]; rfl) h

/-! the whole heap as the ledger: makes every rule that writes through a ledger a rule over any heap -/
def noObjs (h : Heap) : Heap := { h with objs := #[] }
theorem noObjs_get (h : Heap) (b : Addr) : (noObjs h).get? b = none := by
  cases e : (noObjs h).get? b with
  | none => rfl
  | some o => exact absurd (Heap.lt_size e) (Nat.not_lt_zero _)
def ledger (h : Heap) (L d : Addr) : List (Addr × Obj) := (List.range h.objs.size).filterMap fun a => if a = L ∨ a = d then none else (h.get? a).map fun o => (a, o)
theorem mem_ledger {h : Heap} {L d a : Addr} {o : Obj} : (a, o) ∈ ledger h L d ↔ a ≠ L ∧ a ≠ d ∧ h.get? a = some o := by
  unfold ledger
  rw [List.mem_filterMap]
  constructor
  · rintro ⟨b, _, e⟩
    split at e
    · cases e
    · rename_i hb
      obtain ⟨o', ho, e'⟩ := Option.map_eq_some_iff.mp e
      cases e'
      exact ⟨fun q => hb (.inl q), fun q => hb (.inr q), ho⟩
  · rintro ⟨n1, n2, ho⟩
    refine ⟨a, List.mem_range.mpr (Heap.lt_size ho), ?_⟩
    rw [if_neg (show ¬ (a = L ∨ a = d) from fun q => q.elim n1 n2), ho] <;> rfl
theorem news_ledger {h : Heap} {L d : Addr} {od : Obj} (hne : d ≠ L) (ho : h.get? d = some od) : News (noObjs h) L h ([] ++ (d, od) :: ledger h L d) := by
  rintro ⟨a, o⟩ hp
  rcases List.mem_cons.mp hp with e | hp
  · cases e
    exact ⟨ho, hne, noObjs_get _ _⟩
  · obtain ⟨n1, n2, e⟩ := mem_ledger.mp hp
    exact ⟨e, n1, noObjs_get _ _⟩
theorem fr_all {h : Heap} {L : Addr} {m : Str → Option Value} (n : h.Ns L m) : Fr (noObjs h) L h m :=
  ⟨n, fun b o e => (by rw [noObjs_get] at e; cases e), Nat.zero_le _⟩
/-- Upd of the head entry (for append_K, setItem_K ..) -/
theorem upd_ledger {h : Heap} {L d : Addr} {o o' : Obj} : Upd d o o' ((d, o) :: ledger h L d) ((d, o') :: ledger h L d) :=
  .head fun ⟨_, _⟩ hp => (mem_ledger.mp hp).2.1

/-- x.name = v over any heap: L is any namespace of the heap (the frame's, say): its map stays, its object is not told; all else but the dict stays -/
theorem set_field {x C dx L : Addr} {ox : Obj} {m : Str → Option Value} {es es' : List DictEntry} {n n' : Nat} {name : Str} {v : Value} {Q : Unit → Shared → Prop}
    (X : K.In s.heap) (I : PySem.W.InstAt s.heap x ox C (some (dictOf es n))) (hd : ox.dict = some dx) (hL : s.heap.Ns L m) (hne : dx ≠ L)
    (hs : findIn K (.ref C) "__setattr__" = some (some (.builtin "object.__setattr__"))) (hp : plainOver K C = true) (ht : takerIn K C name = some none) (hh : hasDictIn K C = true) (hl : (getL name es).isSome = true)
    (e : (putL name (PyData.keyHash w.params name) (.str name (s.toks + 1)) v es, putN name es n) = (es', n')) (hz : es'.length ≤ 1000)
    (h : ∀ h' : Heap, h'.Ns L m → h'.get? dx = some (dictOf es' n') → (∀ b o, b ≠ dx → b ≠ L → s.heap.get? b = some o → h'.get? b = some o) → Q () { s with heap := h', toks := s.toks + 2 }) :
    wpAny (model prog w) A (setAttr (.ref x) name v) Q E s := by
  obtain ⟨e1, e2⟩ := Prod.mk.inj e
  have hdx : s.heap.get? dx = some (dictOf es n) := by
    have := I.dict
    rw [hd] at this
    exact this
  refine set_plain X I hs (osa_dict (s := { s with toks := s.toks + 1 }) (h₀ := noObjs s.heap) (L := L) (m := m) (od := dictOf es n) (od' := dictOf es' n') (es := es') (n := n') (pre := []) (post := ledger s.heap L dx)
    (fr_all hL) (news_ledger hne hdx) X I hd hp ht hh hl (fun _ q => nomatch q) (fun ⟨_, _⟩ q => (mem_ledger.mp q).2.1) (by rw [putName_dict, e1, e2]) rfl hz fun h' F' N' => ?_)
  exact h h' F'.ns (N'.get (List.Mem.head _)) fun b o n1 n2 ho => N'.get (List.Mem.tail _ (mem_ledger.mpr ⟨n2, n1, ho⟩))
end
end Att

namespace L2
open PySem PySem.Spec PyProof.Rows

theorem vals_ints : ∀ {vs : List Value} {ns : List Int}, IntsAre vs ns → Vals (ns.map V.int) vs
  | _, _, .nil => .nil
  | _, _, .cons n t h => .cons ⟨t, rfl⟩ (vals_ints h)

/-- nothing is tracked but the script, known to the object (or it is an object of the module) -/
def Only (H : Hp) : Prop := ∀ b, H b = none ∨ ∃ o xs, H b = some (.frz o (.lst xs))

/-- THE HEAD: the law's promise, at the heap behind the top. F, the promise of the law's def, may use that base is part of the heap (so K.In base, base.Ns mainGlobals mg stand in Mod) -/
theorem law_call {P : Program} {w : World} {K : PySem.W.Frag} {mg mb : Str → Option Value} {CX : CXT} {k : Nat} {fa a : Addr} {fd : FuncData} {x : Str} {sp : Sp} {s₁ : Shared} {vs : List Value} {ns : List Int}
    (KX : K.In s₁.heap) (hns : s₁.heap.Ns mainGlobals mg) (hb : s₁.heap.Ns builtinsNs mb) (hbb : ∀ x : Str, x ≠ "__name__" → mb x = bootBuiltins x) (hlim : s₁.heap.NoLimit) (hg : s₁.gens = #[])
    (ha : s₁.heap.get? a = some { cls := .type "list", data := .seq vs.toArray }) (hi : IntsAre vs ns) (hl : ns.length ≤ sizeLine) (hr : Room k callerA)
    (F : ∀ base : Heap, K.In base → base.Ns mainGlobals mg → FnOk P w K mg base CX k fa fd [x] sp) (hbind : ∀ (s : Shared) (u : Value), BindsTo s fd ⟨[u], []⟩ [(x, u)])
    (hsp : ∀ H : Hp, Only H → SqL K H a (ns.map V.int) → sp [.ref a] H (fun v _ => v = .bl true) fun _ _ _ => False)
    (hCX : ∀ H e s', CX [] H s₁ (fun _ _ _ => False) e s' → False) :
    codeAny (model P w) callerA (.call (.ref fa) ⟨[.ref a], []⟩) (fun r s' => r = .ok (.ret (.bool true)) ∧ OldK s₁.heap s'.heap ∧ s'.os = s₁.os ∧ AllBare s'.gens) s₁ := by
  have rv := vals_ints hi
  have lenV := hi.length
  -- from an abstract heap in which nothing but the script may be tracked
  have core : ∀ H : Hp, Only H → SqL K H a (ns.map V.int) → HOk P w H s₁.heap → (∀ b, H b ≠ none → b = a) → (H a ≠ none → K.lookup a = none) →
      codeAny (model P w) callerA (.call (.ref fa) ⟨[.ref a], []⟩) (fun r s' => r = .ok (.ret (.bool true)) ∧ OldK s₁.heap s'.heap ∧ s'.os = s₁.os ∧ AllBare s'.gens) s₁ := by
    intro H hO hS hok hA hK
    have base_of : ∀ {b : Addr} {o : Obj}, s₁.heap.get? b = some o → H b = none → (hidT s₁.heap H).get? b = some o := fun e n => hidT_get e n
    have noA : ∀ {b : Addr} {o : Obj} {es : Array DictEntry} {ep : Nat}, s₁.heap.get? b = some o → o.data = .dict es ep → H b = none := fun {b o es ep} e d => by
      cases q : H b with
      | none => rfl
      | some u =>
        have e' : b = a := hA b (by rw [q]; simp)
        subst e'
        rw [ha] at e; cases e
        have d' : Data.seq vs.toArray _ = Data.dict es ep := d
        cases d'
    have nsK : ∀ {b : Addr} {m : Str → Option Value}, s₁.heap.Ns b m → (hidT s₁.heap H).Ns b m := fun {b m} ⟨o, es, ep, e, d, r⟩ => ⟨o, es, ep, base_of e (noA e d), d, r⟩
    have hKb : K.In (hidT s₁.heap H) := fun b o e => base_of (KX b o e) (by
      cases q : H b with
      | none => rfl
      | some u =>
        have e' : b = a := hA b (by rw [q]; simp)
        subst e'
        rw [hK (by rw [q]; simp)] at e; cases e)
    have hM : Mod K mg (hidT s₁.heap H) := ⟨hKb, nsK hns, ⟨mb, nsK hb, hbb⟩, let ⟨mc, h1, h2⟩ := hlim; ⟨mc, nsK h1, h2⟩⟩
    have e0 : Env0 P w K mg (hidT s₁.heap H) callerA [] s₁ H := ⟨rfl, hM, fun b o e => of_hidT e, Nat.le_of_eq (hidT_size _ _), trivial, fun b hb => absurd (show b ∈ ([] : List Addr) from hb) (by simp), hok, .of_eq hg⟩
    refine codeAny_mono ((F _ hKb (nsK hns)).run callerA [] s₁ H ⟨[.ref a], []⟩ [.ref a] [.ref a] _ _ hr e0 (hbind s₁ (.ref a)) (.cons rfl .nil) (hsp H hO hS)) fun r s' h => ?_
    cases r with
    | error e => exact (hCX H e s' h).elim
    | ok fl =>
      cases fl with
      | next => exact False.elim h
      | brk => exact False.elim h
      | cont => exact False.elim h
      | ret u =>
        obtain ⟨v, H', os, bare, un, hok', r', q⟩ := h
        have q' : v = .bl true := q
        subst q'
        obtain rfl : u = Value.bool true := r'
        refine ⟨rfl, OldK.of_keep fun b o e => ?_, os, bare⟩
        cases q : H b with
        | none => exact un.keep b o e q (by intro z; exact absurd (show b ∈ ([] : List Addr) from z) (by simp)) (by simp)
        | some u =>
          rcases hO b with z | ⟨ob, xs, z⟩
          · rw [q] at z; cases z
          · have z2 := un.frzs b ob _ z
            obtain ⟨e1, _⟩ := hok b _ z
            obtain ⟨e2, _⟩ := hok' b _ z2
            rw [e] at e1; cases e1
            exact e2
  cases hk : K.lookup a with
  | some o =>
    -- the script is one of the module's own objects
    have e := KX a o hk
    rw [ha] at e
    cases e
    refine core (fun _ => none) (fun _ => .inl rfl) (.inr ⟨_, vs.toArray, _, hk, rfl, rfl, rfl, by rw [List.size_toArray, lenV]; exact hl, by simpa using rv⟩) (fun b u z => by have z' : (none : Option HO) = some u := z; cases z') (fun b z => absurd rfl z) fun z => absurd rfl z
  | none =>
    refine core (fun b => if b = a then some (.frz { cls := .type "list", data := .seq vs.toArray } (.lst (ns.map V.int))) else none) (fun b => ?_) (.inl (.inr ⟨{ cls := .type "list", data := .seq vs.toArray }, if_pos rfl⟩)) (fun b u z => ?_) (fun b z => ?_) fun _ => hk
    · by_cases hb : b = a
      · exact .inr ⟨_, _, if_pos hb⟩
      · exact .inl (if_neg hb)
    · by_cases hb : b = a
      · have z' := (if_pos hb).symm.trans z
        cases z'
        subst hb
        exact ⟨ha, by rw [List.length_map]; exact hl, vs, _, rv, ha⟩
      · have z' := (if_neg hb).symm.trans z
        cases z'
    · by_cases hb : b = a
      · exact hb
      · exact absurd (if_neg hb) z
end L2

namespace L2
open PySem PySem.Spec PyProof.Rows

abbrev KOf {K : PySem.W.Frag} {h : Heap} (_ : K.In h) : PySem.W.Frag := K

/-- the goal that k_head leaves (case hc), from the law's promise. F gives the function object fd (K's own) once, then the promise over every base -/
theorem walk_of {l : PySem.W.OpenLaw} {n k : Nat} {q : Program} {loose : List Str} {XP : (Str → Option Value) → Heap → Prop} {YP : World → Heap → Prop} {d : DefRec} {K : Params → PySem.W.Frag} {CX : World → CXT} {sp : World → Sp} {x : Str}
    (hn : l.most = some n) (hn2 : n ≤ sizeLine) (hdf : d.params.defaults = []) (hr : Room k callerA)
    (hY : ∀ (w : World) (h : Heap), YP w h → (K w.params).In h)
    (F : ∀ (w : World) (mg : Str → Option Value) (fa : Addr) (h : Heap), (K w.params).In h → h.Ns mainGlobals mg → mg d.name = some (.ref fa) →
      ∃ fd : FuncData, (∀ (s : Shared) (u : Value), BindsTo s fd ⟨[u], []⟩ [(x, u)]) ∧
        ∀ base : Heap, (K w.params).In base → base.Ns mainGlobals mg → FnOk l.prog w (K w.params) mg base (CX w) k fa fd [x] (sp w))
    (hsp : ∀ (w : World) (H : Hp) (a : Addr) (ns : List Int), ns.length ≤ n → Only H → SqL (K w.params) H a (ns.map V.int) → sp w [.ref a] H (fun v _ => v = .bl true) fun _ _ _ => False)
    (hCX : ∀ (w : World) (H : Hp) (s : Shared) (e : Value) (s' : Shared), CX w [] H s (fun _ _ _ => False) e s' → False) :
    PySem.W.WalkO q loose XP YP l.row.toRowW d [] (fun f vs => PySem.call f vs) := by
  refine Att.attach_call hn hdf fun w s₀ s₁ mg mb fa o pm cd doc a vs ns G Y ho hd hcd hmg hobj hints hlen hg => ?_
  have KX := hY w _ Y
  obtain ⟨fd, hb, hF⟩ := F w mg fa _ KX G.T.g hmg
  exact law_call KX G.T.g G.T.b G.T.builtins G.T.nolimit hg hobj hints (Nat.le_trans hlen hn2) hr hF hb (fun H hO hS => hsp w H a ns hlen hO hS) fun H e s' => hCX w H s₁ e s'
/-- the same where the promise hangs on the written part alone: (sp := My.sp_law), no hole under a binder -/
theorem walk_ofK {l : PySem.W.OpenLaw} {n k : Nat} {q : Program} {loose : List Str} {XP : (Str → Option Value) → Heap → Prop} {YP : World → Heap → Prop} {d : DefRec} {K : Params → PySem.W.Frag} {CX : CXT} {sp : PySem.W.Frag → Sp} {x : Str}
    (hn : l.most = some n) (hn2 : n ≤ sizeLine) (hdf : d.params.defaults = []) (hr : Room k callerA)
    (hY : ∀ (w : World) (h : Heap), YP w h → (K w.params).In h)
    (F : ∀ (w : World) (mg : Str → Option Value) (fa : Addr) (h : Heap), (K w.params).In h → h.Ns mainGlobals mg → mg d.name = some (.ref fa) →
      ∃ fd : FuncData, (∀ (s : Shared) (u : Value), BindsTo s fd ⟨[u], []⟩ [(x, u)]) ∧
        ∀ base : Heap, (K w.params).In base → base.Ns mainGlobals mg → FnOk l.prog w (K w.params) mg base CX k fa fd [x] (sp (K w.params)))
    (hsp : ∀ (K : PySem.W.Frag) (H : Hp) (a : Addr) (ns : List Int), ns.length ≤ n → Only H → SqL K H a (ns.map V.int) → sp K [.ref a] H (fun v _ => v = .bl true) fun _ _ _ => False)
    (hCX : ∀ (H : Hp) (s : Shared) (e : Value) (s' : Shared), CX [] H s (fun _ _ _ => False) e s' → False) :
    PySem.W.WalkO q loose XP YP l.row.toRowW d [] (fun f vs => PySem.call f vs) :=
  walk_of (K := K) (CX := fun _ => CX) (sp := fun w => sp (K w.params)) hn hn2 hdf hr hY F (fun w H a ns h1 h2 h3 => hsp (K w.params) H a ns h1 h2 h3) fun _ H s e s' => hCX H s e s'
end L2

/- THE LAST THEOREM (shape; LID, My.* are yours):
   My.Adr: a structure of the addresses that your layer names (classes, functions); My.Txt K t: a structure (Prop) of the equations over K;
   My.txt_mk : {K} {implicit addresses ..} (e1 : nsIn K mainGlobals "law" = some (some (.ref f))) (e2 : K.lookup f = some ⟨oc, od, .func (fnOf "law" "law" params body scope dV kV doc pm an cdv ct), sl⟩) (e3 : codeIn K cdv "law" = true) .. : ∃ t, My.Txt K t

set_option maxRecDepth 100000 in
set_option maxHeartbeats 0 in
theorem PySem.Challenge.cw_LID_holds : PySem.Challenge.rw_LID.Holds := by
  w_on; o_law; k_head; (case hw => w_witness2)
  k_fill
  refine L2.walk_of (l := PySem.Challenge.rw_LID) (n := 63) (k := 40) (x := "script") (CX := fun w => ..) (sp := fun _ => My.sp_law) rfl (by decide) rfl ⟨rfl, by decide, by decide⟩ (fun w h Y => PySem.W.kIn_of Y) ?F ?S ?C
  case F =>
    intro w mg fa h KX G hmg
    have T : ∃ t, My.Txt (L2.KOf KX) t := by
      dsimp only [L2.KOf]                          -- K must stand as «<heap const> w.params» for k_is
      refine' My.txt_mk ?e1 ?e2 ?e3 ..
      (case e1 => PySem.W.k_is)                    -- in the order: a name -> its address -> its object -> its parts
      (case e2 => PySem.W.k_is)
      ..
    obtain ⟨t, T⟩ := T
    have e0 := hmg.symm.trans (PySem.W.mg_of KX G T.law)
    cases e0                                       -- fa is the law's own address
    exact ⟨_, fun s u => .of_eq rfl, fun base kb nb => My.law_fn T kb nb⟩     -- if «.of_eq rfl» comes too early: refine' ⟨_, ?b, fun base kb nb => My.law_fn T kb nb⟩; exact fun s u => .of_eq rfl
  case S => exact fun w H a ns hl hO hS => ..
  case C => exact ..
(the tactic k_is has no namespace: write k_is) -/

/-! SHORT WORDS over the layer: a def of the text, its body, what a loop and a test want. -/
namespace L2
open PySem PySem.Spec PyProof.Rows

/-! ### the text by places -/
/-- the j-th statement of a class's body -/
def inClass (s : Stmt) (j : Nat) : Stmt := match s with
  | .ClassDef _ _ _ body _ _ _ _ _ _ _ => body.getD j (.Pass ⟨0, 0, 0, 0⟩)
  | _ => .Pass ⟨0, 0, 0, 0⟩
def defArgs (s : Stmt) : Arguments := match s with
  | .FunctionDef _ a _ _ _ _ _ _ _ _ => a
  | _ => { posonlyargs := [], args := [], vararg := none, kwonlyargs := [], kw_defaults := [], kwarg := none, defaults := [] }
def defBody (s : Stmt) : List Stmt := match s with
  | .FunctionDef _ _ b _ _ _ _ _ _ _ => b
  | _ => []
def defScope (s : Stmt) : Scope := match s with
  | .FunctionDef _ _ _ _ _ _ sc _ _ _ => sc
  | _ => { kind := .function, names := [], isGenerator := false, isCoroutine := false }

/-! ### no exception leaves a def -/
abbrev CX0 : CXT := fun _ _ _ _ _ _ => False
abbrev E0 : XK := fun _ _ _ => False
theorem pass0 {X : Cx} : Passes CX0 X E0 := fun _ _ _ _ _ _ _ h => h.elim

/-! ### a def (or method) of the text as it stands behind the top -/
structure Fun (K : PySem.W.Frag) (x qual : Str) (st : Stmt) (f : Addr) (fd : FuncData) : Prop where
  ex : ∃ (oc : Value) (od : Option Addr) (kV doc pm : Value) (an : Option Addr) (cdv ct : Value) (osl : Array (Option Value)),
    fd = PySem.W.fnOf x qual (defArgs st) (defBody st) (defScope st) .none kV doc pm an cdv ct ∧ K.lookup f = some ⟨oc, od, .func fd, osl⟩ ∧ PySem.W.codeIn K cdv qual = true
  kp : PySem.W.keepIn K (.ref f) = true
section
variable {P : Program} {w : World} {K : PySem.W.Frag} {mg : Str → Option Value} {base : Heap}
/-- THE RULE for a def: its body as a term of rules, and the reading of that term -/
theorem Fun.ok {x qual : Str} {st : Stmt} {f : Addr} {fd : FuncData} {N ps : List Str} {k : Nat} {sp : Sp} (F : Fun K x qual st f fd) (S : FnScope N ps (defScope st)) (len : ∀ vs H Q E, sp vs H Q E → vs.length = ps.length)
    (hbody : ∀ (cdv : Value) (A : Around) (outer : List Env) (s : Shared) (H : Hp) (vs : List V) (Q : VK) (E : XK), Room k (A.deeper (envOfC qual (defScope st) s.heap.objs.size f cdv)) → sp vs H Q E →
      ∃ t, PSs (cxOf CX0 P w K mg base N qual (defScope st) f cdv A outer s H E).nox (defBody st) t ∧ t { nx := fun _ H' => Q .non H', rt := Q } (start N vs) H) : FnOk P w K mg base CX0 (k + 1) f fd ps sp := by
  obtain ⟨oc, od, kV, doc, pm, an, cdv, ct, osl, rfl, lk, hcd⟩ := F.ex
  refine fn_of lk hcd S len fun A outer s H vs Q E hr hsp => ?_
  obtain ⟨t, h, q⟩ := hbody cdv A outer s H vs Q E hr hsp
  exact ⟨t, h.nox, q⟩
/-- how its arguments bind (no defaults): h is «fun _ _ _ _ _ _ us hl => match us, hl with | [_, _], _ => rfl», one _ a parameter -/
theorem Fun.binds {x qual : Str} {st : Stmt} {f : Addr} {fd : FuncData} {ps : List Str} (F : Fun K x qual st f fd)
    (h : ∀ (kV doc pm : Value) (an : Option Addr) (cdv ct : Value) (us : List Value), us.length = ps.length → bindArgs (PySem.W.fnOf x qual (defArgs st) (defBody st) (defScope st) .none kV doc pm an cdv ct) ⟨us, []⟩ = pure (ps.zip us)) : Binds K fd ps [] := by
  obtain ⟨oc, od, kV, doc, pm, an, cdv, ct, osl, rfl, lk, hcd⟩ := F.ex
  exact .all (h kV doc pm an cdv ct)
theorem fun_mk {x qual : Str} {st : Stmt} {f : Addr} {oc : Value} {od an : Option Addr} {osl : Array (Option Value)} {kV doc pm cdv ct : Value} (l : K.lookup f = some ⟨oc, od, .func (PySem.W.fnOf x qual (defArgs st) (defBody st) (defScope st) .none kV doc pm an cdv ct), osl⟩)
    (c : PySem.W.codeIn K cdv qual = true) (k : PySem.W.keepIn K (.ref f) = true) : Fun K x qual st f (PySem.W.fnOf x qual (defArgs st) (defBody st) (defScope st) .none kV doc pm an cdv ct) := ⟨⟨oc, od, kV, doc, pm, an, cdv, ct, osl, rfl, l, c⟩, k⟩
end
theorem hu_of {A : Around} {k : Nat} (hr : Room k A) : A.units + 1 < cLine := Nat.lt_of_le_of_lt (Nat.add_le_add_left (by decide : 1 ≤ 64) _) hr.units
theorem small1000 {n : Nat} (h : n ≤ 1000) : n < sizeLine := Nat.lt_of_le_of_lt h (by decide)

/-! ### expressions in short: the name that stands in the i-th slot -/
section
variable {X : Cx}
theorem pv (i : Nat) {x : Str} {pos : Pos} (hN : X.N[i]? = some x := by rfl) (hv : Vis X.env.scope x := by first | exact Or.inl rfl | exact Or.inr (Or.inl rfl) | exact Or.inr (Or.inr rfl)) (hd : (x == ("__debug__" : Str)) = false := by decide)
    (hcd : (x == ("__classdict__" : Str)) = false := by decide) : PE X (.Name x pos) (tVar i) := pe_var hN hv hd hcd
end

/-! ### tests -/
theorem iteF {A B : Prop} (h : B) : if false = true then A else B := by
  rw [if_neg Bool.false_ne_true]
  exact h
theorem iteT {A B : Prop} (h : A) : if true = true then A else B := by
  rw [if_pos rfl]
  exact h
theorem ite2 {c A B : Prop} [Decidable c] (h1 : c → A) (h2 : ¬ c → B) : if c then A else B := by
  by_cases h : c
  · rw [if_pos h]
    exact h1 h
  · rw [if_neg h]
    exact h2 h
theorem iteNS {c A B : Prop} [Decidable c] (hc : c) (h : B) : if (!decide c) = true then A else B := by
  rw [decide_eq_true hc]
  exact iteF h

/-! ### heaps -/
/-- all that was tracked is as it was -/
def Same (H H' : Hp) : Prop := ∀ b o, H b = some o → H' b = some o
theorem Same.refl (H : Hp) : Same H H := fun _ _ h => h
theorem Same.trans {H H1 H2 : Hp} (a : Same H H1) (b : Same H1 H2) : Same H H2 := fun c o h => b c o (a c o h)
theorem Same.free {H H' : Hp} (e : Same H H') {l : Addr} (h : H' l = Option.none) : H l = Option.none := by
  cases q : H l with
  | none => rfl
  | some o =>
    rw [e l o q] at h
    cases h
theorem Same.seq {K : PySem.W.Frag} {H H' : Hp} {a : Addr} {xs : List V} (e : Same H H') (h : SqL K H a xs) : SqL K H' a xs := by
  rcases h with (h | ⟨o, h⟩) | h
  · exact .inl (.inl (e _ _ h))
  · exact .inl (.inr ⟨o, e _ _ h⟩)
  · exact .inr h

end L2
end
section
set_option Elab.async false
set_option linter.all false
set_option maxRecDepth 100000
set_option maxHeartbeats 4000000
namespace Mth
theorem gcd_step {a b : Int} (ha : 0 ≤ a) (hb : 0 < b) : Int.gcd b (a % b) = Int.gcd a b := by
  obtain ⟨m, rfl⟩ := Int.eq_ofNat_of_zero_le ha
  obtain ⟨n, rfl⟩ := Int.eq_ofNat_of_zero_le (Int.le_of_lt hb)
  rw [← Int.natCast_emod]
  show Nat.gcd (n : Int).natAbs ((m % n : Nat) : Int).natAbs = Nat.gcd (m : Int).natAbs (n : Int).natAbs
  simp only [Int.natAbs_natCast]
  rw [Nat.gcd_comm m n, Nat.gcd_comm n (m % n)]
  exact (Nat.gcd_rec n m).symm
theorem gcd_abs (a b : Int) : Int.gcd (if a < 0 then -a else a) b = Int.gcd a b := by
  split
  · exact Int.neg_gcd
  · rfl
theorem gcd_abs' (a b : Int) : Int.gcd a (if b < 0 then -b else b) = Int.gcd a b := by
  rw [Int.gcd_comm, gcd_abs, Int.gcd_comm]
theorem gcd_zero {a : Int} (ha : 0 ≤ a) : (Int.gcd a 0 : Int) = a := by
  rw [Int.gcd_zero]; omega
/-- lowest terms -/
structure Low (t b : Int) : Prop where
  pos : 1 ≤ b
  one : Int.gcd t b = 1
theorem gcd_pos {a b : Int} (h : b ≠ 0) : 0 < (Int.gcd a b : Int) := by
  have := Int.gcd_pos_of_ne_zero_right a h
  omega
/-- exact division -/
theorem div_eq (a b : Int) : a = a / (Int.gcd a b : Int) * (Int.gcd a b : Int) := (Int.ediv_mul_cancel (Int.gcd_dvd_left a b)).symm
theorem div_eq' (a b : Int) : b = b / (Int.gcd a b : Int) * (Int.gcd a b : Int) := (Int.ediv_mul_cancel (Int.gcd_dvd_right a b)).symm
theorem div_low {a b : Int} (hb : 0 < b) : Low (a / (Int.gcd a b : Int)) (b / (Int.gcd a b : Int)) := by
  have hg := gcd_pos (a := a) (b := b) (by omega)
  refine ⟨?_, ?_⟩
  · have h1 := div_eq' a b
    have h2 : 0 < b / (Int.gcd a b : Int) := Int.ediv_pos_of_pos_of_dvd hb (by omega) (Int.gcd_dvd_right a b)
    omega
  · rw [Int.gcd_ediv (Int.gcd_dvd_left a b) (Int.gcd_dvd_right a b)]
    simp only [Int.natAbs_natCast]
    exact Nat.div_self (by omega)
theorem low_dvd {t b t' b' : Int} (h : Low t b) (e : t * b' = t' * b) : b ∣ b' := by
  have h1 : b.natAbs ∣ t.natAbs * b'.natAbs := by
    rw [← Int.natAbs_mul, e, Int.natAbs_mul]
    exact Nat.dvd_mul_left _ _
  have h2 : Nat.Coprime b.natAbs t.natAbs := by
    have := h.one
    unfold Nat.Coprime
    rw [Nat.gcd_comm]
    exact this
  exact Int.natAbs_dvd_natAbs.mp (h2.dvd_of_dvd_mul_left h1)
theorem low_unique {t b t' b' : Int} (h : Low t b) (h' : Low t' b') (e : t * b' = t' * b) : t = t' ∧ b = b' := by
  have d1 := low_dvd h e
  have d2 := low_dvd h' e.symm
  have p1 := h.pos
  have p2 := h'.pos
  have eb : b = b' := Int.le_antisymm (Int.le_of_dvd (by omega) d1) (Int.le_of_dvd (by omega) d2)
  subst eb
  exact ⟨Int.eq_of_mul_eq_mul_right (by omega) e, rfl⟩
/-- the fraction of two numbers -/
structure Frac (top bottom t b : Int) : Prop where
  low : Low t b
  eq : top * b = t * bottom
theorem frac_pos {a b : Int} (hb : 0 < b) : Frac a b (a / (Int.gcd a b : Int)) (b / (Int.gcd a b : Int)) := by
  refine ⟨div_low hb, ?_⟩
  have h1 := div_eq a b
  have h2 := div_eq' a b
  generalize a / (Int.gcd a b : Int) = x at *
  generalize b / (Int.gcd a b : Int) = y at *
  generalize (Int.gcd a b : Int) = g at *
  subst h1 h2
  grind
/-- ratio's two parts: the divisor has the bottom's sign -/
theorem frac_fdiv {a b : Int} (hb : b ≠ 0) (d : Int) (hd : d = if b < 0 then -(Int.gcd a b : Int) else (Int.gcd a b : Int)) : Frac a b (a.fdiv d) (b.fdiv d) := by
  have hg := gcd_pos (a := a) (b := b) hb
  by_cases h : b < 0
  · rw [if_pos h] at hd
    have f := frac_pos (a := -a) (b := -b) (by omega)
    rw [Int.gcd_neg, Int.neg_gcd] at f
    subst hd
    have e1 : a.fdiv (-(Int.gcd a b : Int)) = -a / (Int.gcd a b : Int) := by
      rw [← Int.neg_fdiv_neg, Int.neg_neg]; exact Int.fdiv_eq_ediv_of_nonneg _ (by omega)
    have e2 : b.fdiv (-(Int.gcd a b : Int)) = -b / (Int.gcd a b : Int) := by
      rw [← Int.neg_fdiv_neg, Int.neg_neg]; exact Int.fdiv_eq_ediv_of_nonneg _ (by omega)
    rw [e1, e2]
    exact ⟨f.low, by have := f.eq; grind⟩
  · rw [if_neg h] at hd
    subst hd
    rw [Int.fdiv_eq_ediv_of_nonneg _ (by omega), Int.fdiv_eq_ediv_of_nonneg _ (by omega)]
    exact frac_pos (by omega)
theorem frac_unique {a b t u t' u' : Int} (hb : b ≠ 0) (h : Frac a b t u) (h' : Frac a b t' u') : t = t' ∧ u = u' := by
  refine low_unique h.low h'.low ?_
  have e1 := h.eq
  have e2 := h'.eq
  have : b * (t * u') = b * (t' * u) := by grind
  exact Int.eq_of_mul_eq_mul_left hb this
theorem frac_self {t u : Int} (h : Low t u) : Frac t u t u := ⟨h, rfl⟩
end Mth
/-! WORDS OF OUR OWN over the hand layer. -/
namespace L2
open PySem PySem.Spec PyProof.Rows

/-! ### sizes -/
abbrev bits (i : Int) : Nat := Builtin.Int.intBits i
theorem bits_of {i : Int} {n : Nat} (h : i.natAbs < 2 ^ n) : bits i ≤ n := intBits_le h
theorem bits_lt {i : Int} {n : Nat} (h : bits i ≤ n) : i.natAbs < 2 ^ n := by
  unfold bits Builtin.Int.intBits at h
  by_cases h0 : i = 0
  · subst h0
    exact Nat.pos_of_ne_zero (by simp)
  · rw [if_neg (by simpa using h0)] at h
    have h1 : i.natAbs ≠ 0 := by omega
    exact (Nat.log2_lt h1).mp (by omega)
theorem bits_mono {i j : Int} {n : Nat} (h : i.natAbs ≤ j.natAbs) (hj : bits j ≤ n) : bits i ≤ n := bits_of (Nat.lt_of_le_of_lt h (bits_lt hj))
theorem bits_mul {i j : Int} {m n : Nat} (hi : bits i ≤ m) (hj : bits j ≤ n) : bits (i * j) ≤ m + n := by
  refine bits_of ?_
  rw [Int.natAbs_mul, Nat.pow_add]
  exact Nat.mul_lt_mul'' (bits_lt hi) (bits_lt hj)
theorem bits_add {i j : Int} {n : Nat} (hi : bits i ≤ n) (hj : bits j ≤ n) : bits (i + j) ≤ n + 1 := by
  refine bits_of ?_
  have h1 := bits_lt hi
  have h2 := bits_lt hj
  have h3 : (2 : Nat) ^ (n + 1) = 2 * 2 ^ n := by rw [Nat.pow_succ, Nat.mul_comm]
  omega
theorem bits_sub {i j : Int} {n : Nat} (hi : bits i ≤ n) (hj : bits j ≤ n) : bits (i - j) ≤ n + 1 := by
  refine bits_of ?_
  have h1 := bits_lt hi
  have h2 := bits_lt hj
  have h3 : (2 : Nat) ^ (n + 1) = 2 * 2 ^ n := by rw [Nat.pow_succ, Nat.mul_comm]
  omega
theorem bits_neg {i : Int} {n : Nat} (hi : bits i ≤ n) : bits (-i) ≤ n := bits_mono (by omega) hi
theorem bits_abs {i : Int} {n : Nat} (hi : bits i ≤ n) : bits (if i < 0 then -i else i) ≤ n := bits_mono (by split <;> omega) hi
theorem bits_ediv {i j : Int} {n : Nat} (hj : 0 < j) (hi : bits i ≤ n) : bits (i / j) ≤ n := by
  refine bits_mono ?_ hi
  exact Int.natAbs_ediv_le_natAbs i j
theorem bits_fdiv {i j : Int} {n : Nat} (hi : bits i ≤ n) : bits (i.fdiv j) ≤ n := PySem.intBits_fdiv_le hi
theorem bits_range {i b : Int} {n : Nat} (h0 : 0 ≤ i) (h1 : i ≤ b) (hb : bits b ≤ n) : bits i ≤ n := bits_mono (by omega) hb
theorem bits_le {i : Int} {m n : Nat} (h : bits i ≤ m) (hm : m ≤ n) : bits i ≤ n := Nat.le_trans h hm

/-! ### products, quotients -/
section
variable {X : Cx} {pos : Pos}
def CM (i j : Int) : Prop := IntMulOk i j
theorem CM.b {i j : Int} {m n : Nat} (hi : bits i ≤ m) (hj : bits j ≤ n) (hm : m ≤ 2 ^ 20) (hn : n ≤ 2 ^ 20) : CM i j := IntMulOk.of_bits (Nat.le_trans hi hm) (Nat.le_trans hj hn)
theorem CM.l {i j : Int} (h : -(2 ^ 64) < i ∧ i < 2 ^ 64) : CM i j := CMul.ok (.inl h)
theorem CM.r {i j : Int} (h : -(2 ^ 64) < j ∧ j < 2 ^ 64) : CM i j := CMul.ok (.inr h)
theorem op_mulX : OpR X (binaryOp .Mult) (rI CM fun i j => .int (i * j)) := opI fun _ _ _ _ _ _ _ hc q => mul_int q hc
def CD (_ j : Int) : Prop := 0 < j ∧ bits j ≤ 8000
theorem log2_of_bits {j : Int} {n : Nat} (hj : j ≠ 0) (h : bits j ≤ n) (hn : n ≤ 9000) : j.natAbs.log2 < 9000 := by
  have h1 : j.natAbs ≠ 0 := by omega
  have h2 := (Nat.log2_lt h1).mpr (bits_lt h)
  omega
theorem op_fdivP : OpR X (binaryOp .FloorDiv) (rI CD fun i j => .int (i / j)) := opI fun i j _ _ _ _ _ hc q => by
  have h1 : (0 : Int) < j := hc.1
  exact floordiv_int (by omega) (by rw [Int.fdiv_eq_ediv_of_nonneg i (by omega)]; exact q) (.inl (PyProof.noPylong_of_log2 (log2_of_bits (by omega) hc.2 (by decide))))
def CDZ (_ j : Int) : Prop := j ≠ 0 ∧ bits j ≤ 8000
theorem op_fdivZ : OpR X (binaryOp .FloorDiv) (rI CDZ fun i j => .int (i.fdiv j)) := opI fun i j _ _ _ _ _ hc q =>
  floordiv_int hc.1 q (.inl (PyProof.noPylong_of_log2 (log2_of_bits hc.1 hc.2 (by decide))))

/-! ### bit_length -/
theorem mt_bitlen : MtR X "int.bit_length" (fun x xs H Q => ∃ i, x = .int i ∧ xs = [] ∧ Q (.int ((bits i : Nat) : Int)) H) := by
  intro pins s σ H x xs v us Q I rx rs h
  obtain ⟨i, rfl, rfl, q⟩ := h
  obtain ⟨t, rfl⟩ := rx
  cases rs
  exact call_int_bit_length ⟨.int _, H, I.tok _, ⟨_, rfl⟩, q⟩
end

/-! ### the built-in names -/
theorem bt_int : bootBuiltins "int" = some (.type "int") := by decide +kernel
theorem bt_bool : bootBuiltins "bool" = some (.type "bool") := by decide +kernel
theorem bt_str : bootBuiltins "str" = some (.type "str") := by decide +kernel
theorem bt_tuple : bootBuiltins "tuple" = some (.type "tuple") := by decide +kernel
theorem bt_list : bootBuiltins "list" = some (.type "list") := by decide +kernel
theorem bt_dict : bootBuiltins "dict" = some (.type "dict") := by decide +kernel
theorem bt_isinstance : bootBuiltins "isinstance" = some (.builtin "isinstance") := by decide +kernel
theorem bt_abs : bootBuiltins "abs" = some (.builtin "abs") := by decide +kernel
theorem bt_len : bootBuiltins "len" = some (.builtin "len") := by decide +kernel
theorem bt_min : bootBuiltins "min" = some (.builtin "min") := by decide +kernel
theorem bt_max : bootBuiltins "max" = some (.builtin "max") := by decide +kernel
theorem pe_ty {X : Cx} {x : Str} {T : String} {pos : Pos} (hm : X.mg x = none) (hv : bootBuiltins x = some (.type T)) (hg : Gl X x := by rfl) (hn : x ≠ "__name__" := by decide) (hd : (x == ("__debug__" : Str)) = false := by decide) :
    PE X (.Name x pos) (tC (.ty T)) := pe_bltn hg hm hv rfl hn hd

/-! ### the kinds of things, and isinstance -/
inductive Kn (H : Hp) : V → String → Prop where
  | non : Kn H .non "NoneType"
  | bl (b : Bool) : Kn H (.bl b) "bool"
  | int (i : Int) : Kn H (.int i) "int"
  | str (x : Str) : Kn H (.str x) "str"
  | lst {a : Addr} {xs : List V} (e : H a = some (.lst xs)) : Kn H (.ref a) "list"
  | tup {a : Addr} {xs : List V} (e : H a = some (.tup xs)) : Kn H (.ref a) "tuple"
  | dict {a : Addr} {kvs : List (Key × V)} (e : H a = some (.dK kvs)) : Kn H (.ref a) "dict"
theorem Kn.ty {K : PySem.W.Frag} {H : Hp} {x : V} {t : String} (k : Kn H x t) : TyOf K H x (.type t) := by
  cases k with
  | non => exact .non
  | bl b => exact .bl b
  | int i => exact .int i
  | str x => exact .str x
  | lst e => exact .lst e
  | tup e => exact .tup e
  | dict e => exact .dK e
theorem Kn.mono {H H' : Hp} {x : V} {t : String} (k : Kn H x t) (s : Same H H') : Kn H' x t := by
  cases k with
  | non => exact .non
  | bl b => exact .bl b
  | int i => exact .int i
  | str x => exact .str x
  | lst e => exact .lst (s _ _ e)
  | tup e => exact .tup (s _ _ e)
  | dict e => exact .dict (s _ _ e)
def isSub (t T : String) : Bool := t == T || (t == "bool" && T == "int")
def Nice (T : String) : Prop := T = "int" ∨ T = "bool" ∨ T = "tuple" ∨ T = "list" ∨ T = "str"
theorem kit_of (K : PySem.W.Frag) {H : Hp} {x : V} {t T : String} (k : Kn H x t) (n : Nice T) : PySem.W.kitOne K (.type t) (.type T) = some (isSub t T) := by
  rcases n with rfl | rfl | rfl | rfl | rfl <;> cases k <;> kernel_rfl
theorem call_isinst {X : Cx} : CallR X (.builtin "isinstance") (fun xs H Q => ∃ x t T, xs = [x, .ty T] ∧ Kn H x t ∧ Nice T ∧ Q (.bl (isSub t T)) H) := by
  intro pins s σ H xs us Q I rs h
  obtain ⟨x, t, T, rfl, k, n, q⟩ := h
  obtain ⟨u, v, rfl, ru, rv⟩ := vals2 rs
  cases (show v = Value.type T from rv)
  exact isinst_ok I ru k.ty (kit_of X.K k n) fun tk => ⟨.bl _, H, I.tok _, rfl, q⟩

/-! ### defs -/
/-- a def of the text, with what it keeps -/
structure Fn (P : Program) (w : World) (K : PySem.W.Frag) (mg : Str → Option Value) (base : Heap) (x : Str) (ps : List Str) (k : Nat) (sp : Sp) : Prop where
  ex : ∃ (f : Addr) (fd : FuncData) (o : Obj), mg x = some (.ref f) ∧ PySem.W.keepIn K (.ref f) = true ∧ (∀ us : List Value, us.length = ps.length → bindArgs fd ⟨us, []⟩ = pure (ps.zip us)) ∧ (K.lookup f = some o ∧ o.data = .func fd) ∧ FnOk P w K mg base CX0 k f fd ps sp
theorem pe_fn {X : Cx} {x : Str} {ps : List Str} {k : Nat} {sp : Sp} {p pos : Pos} {e : Expr} {es : List Expr} {t : TA} (F : Fn X.prog X.w X.K X.mg X.base x ps k sp) (hr : Room k X.A) (hg : Gl X x) (ha : PA X (e :: es) t)
    (hdb : (x == ("__debug__" : Str)) = false := by decide) (he : starEach (e :: es) X.env = (false, eval e X.env) :: starEach es X.env := by rfl) (hpl : (backTo pos (starEach es X.env)).any (·.1) = false := by rfl) :
    PE X (.Call (.Name x p) (e :: es) [] pos) (tCall sp [] E0 t) := by
  obtain ⟨f, fd, o, hm, hk, hb, _, G⟩ := F.ex
  exact pe_call G hr hg hm hk (.all hb) .nil pass0 ha hdb he hpl
/-- a def as the top has laid it, without defaults -/
structure Df (K : PySem.W.Frag) (mg : Str → Option Value) (x : Str) (st : Stmt) : Prop where
  ex : ∃ (f : Addr) (oc : Value) (od : Option Addr) (kV doc pm : Value) (an : Option Addr) (cdv ct : Value) (osl : Array (Option Value)),
    mg x = some (.ref f) ∧ K.lookup f = some ⟨oc, od, .func (PySem.W.fnOf x x (defArgs st) (defBody st) (defScope st) .none kV doc pm an cdv ct), osl⟩ ∧ PySem.W.codeIn K cdv x = true ∧ PySem.W.keepIn K (.ref f) = true
theorem df_mk {K : PySem.W.Frag} {mg : Str → Option Value} {h : Heap} {x : Str} {st : Stmt} {f : Addr} {oc : Value} {od an : Option Addr} {osl : Array (Option Value)} {kV doc pm cdv ct : Value} (X : K.In h) (G : h.Ns mainGlobals mg)
    (a : PySem.W.nsIn K mainGlobals x = some (some (.ref f))) (l : K.lookup f = some ⟨oc, od, .func (PySem.W.fnOf x x (defArgs st) (defBody st) (defScope st) .none kV doc pm an cdv ct), osl⟩) (c : PySem.W.codeIn K cdv x = true) (k : PySem.W.keepIn K (.ref f) = true) :
    Df K mg x st := ⟨⟨f, oc, od, kV, doc, pm, an, cdv, ct, osl, PySem.W.mg_of X G a, l, c, k⟩⟩
theorem Df.fn {P : Program} {w : World} {K : PySem.W.Frag} {mg : Str → Option Value} {base : Heap} {x : Str} {st : Stmt} {N ps : List Str} {k : Nat} {sp : Sp} (D : Df K mg x st) (S : FnScope N ps (defScope st))
    (hbind : ∀ (kV doc pm : Value) (an : Option Addr) (cdv ct : Value) (us : List Value), us.length = ps.length → bindArgs (PySem.W.fnOf x x (defArgs st) (defBody st) (defScope st) .none kV doc pm an cdv ct) ⟨us, []⟩ = pure (ps.zip us))
    (len : ∀ vs H Q E, sp vs H Q E → vs.length = ps.length)
    (hbody : ∀ (f : Addr) (cdv : Value) (A : Around) (outer : List Env) (s : Shared) (H : Hp) (vs : List V) (Q : VK) (E : XK), Room k (A.deeper (envOfC x (defScope st) s.heap.objs.size f cdv)) → sp vs H Q E →
      ∃ t, PSs (cxOf CX0 P w K mg base N x (defScope st) f cdv A outer s H E).nox (defBody st) t ∧ t { nx := fun _ H' => Q .non H', rt := Q } (start N vs) H) : Fn P w K mg base x ps (k + 1) sp := by
  obtain ⟨f, oc, od, kV, doc, pm, an, cdv, ct, osl, hm, lk, hcd, hk⟩ := D.ex
  refine ⟨⟨f, _, _, hm, hk, hbind kV doc pm an cdv ct, ⟨lk, rfl⟩, fn_of lk hcd S len fun A outer s H vs Q E hr hsp => ?_⟩⟩
  obtain ⟨t, h, q⟩ := hbody f cdv A outer s H vs Q E hr hsp
  exact ⟨t, h.nox, q⟩

/-- the law's own def, once for every base -/
theorem law_fd {P : Program} {w : World} {K : PySem.W.Frag} {mg : Str → Option Value} {fa : Addr} {k : Nat} {sp : Sp} (h : Heap) (hfa : mg "law" = some (.ref fa)) (F : ∀ base : Heap, Fn P w K mg base "law" ["script"] k sp) :
    ∃ fd : FuncData, (∀ (s : Shared) (v : Value), BindsTo s fd ⟨[v], []⟩ [("script", v)]) ∧ ∀ base : Heap, K.In base → base.Ns mainGlobals mg → FnOk P w K mg base CX0 k fa fd ["script"] sp := by
  obtain ⟨f, fd, o, hm, _, hb, ⟨hl, hd⟩, _⟩ := (F h).ex
  rw [hfa] at hm
  cases hm
  refine ⟨fd, fun s v => .of_eq (hb [v] rfl), fun base _ _ => ?_⟩
  obtain ⟨f', fd', o', hm', _, _, ⟨hl', hd'⟩, G⟩ := (F base).ex
  rw [hfa] at hm'
  cases hm'
  rw [hl] at hl'
  cases hl'
  rw [hd] at hd'
  cases hd'
  exact G
/-- what a law promises -/
def spLaw (K : PySem.W.Frag) : Sp := fun vs H Q _ => ∃ (a : Addr) (ns : List Int), vs = [.ref a] ∧ SqL K H a (ns.map V.int) ∧ ns.length ≤ 63 ∧ ∀ H', Q (.bl true) H'
theorem law_walk {l : PySem.W.OpenLaw} {k : Nat} {q : Program} {loose : List Str} {XP : (Str → Option Value) → Heap → Prop} {YP : World → Heap → Prop} {d : DefRec} {K : Params → PySem.W.Frag} (hk : Room k callerA) (hn : l.most = some 63) (hdf : d.params.defaults = [])
    (hY : ∀ (w : World) (h : Heap), YP w h → (K w.params).In h)
    (F : ∀ (w : World) (mg : Str → Option Value) (fa : Addr) (h : Heap), (K w.params).In h → h.Ns mainGlobals mg → mg d.name = some (.ref fa) →
      ∃ fd : FuncData, (∀ (s : Shared) (u : Value), BindsTo s fd ⟨[u], []⟩ [("script", u)]) ∧ ∀ base : Heap, (K w.params).In base → base.Ns mainGlobals mg → FnOk l.prog w (K w.params) mg base CX0 k fa fd ["script"] (spLaw (K w.params))) :
    PySem.W.WalkO q loose XP YP l.row.toRowW d [] (fun f vs => PySem.call f vs) :=
  L2.walk_of (n := 63) (k := k) (x := "script") (CX := fun _ => CX0) (sp := fun w => spLaw (K w.params)) hn (by decide) hdf hk hY F (fun _ _ a ns hl _ hS => ⟨a, ns, rfl, hS, hl, fun _ => rfl⟩) fun _ _ _ _ _ z => z

/-! ### heaps -/
theorem Same.new {H : Hp} {p : Addr} {o : HO} (h : H p = none) : Same H (upd H p o) := fun b o' e => by
  rw [upd_ne (ne_of_none e h)]
  exact e
theorem Same.new' {H H1 : Hp} {p : Addr} {o : HO} (s : Same H H1) (h : H1 p = none) : Same H (upd H1 p o) := s.trans (.new h)
theorem while_test {c : TT} {tb : TS} {D : Ends} {σ : St} {H : Hp} (Pv : St → Hp → Prop) (μ : St → Hp → Nat) (h0 : Pv σ H)
    (hs : ∀ σ H, Pv σ H → c σ H fun b H1 => (b = true → tb { D with nx := fun σ' H' => Pv σ' H' ∧ μ σ' H' < μ σ H, ct := fun σ' H' => Pv σ' H' ∧ μ σ' H' < μ σ H, bk := D.nx } σ H1) ∧ (b = false → D.nx σ H1))
    (mono : ∀ σ H Q Q', (∀ b H1, Q b H1 → Q' b H1) → c σ H Q → c σ H Q') : tWhile c tb D σ H := by
  refine while_by Pv μ h0 (fun σ H p => mono σ H _ _ (fun b H1 q => ?_) (hs σ H p)) mono
  cases b with
  | true => exact iteT (q.1 rfl)
  | false => exact iteF (q.2 rfl)
/-- the test of a while read for another end -/
theorem ite3 {c : Bool} {A B : Prop} (h1 : c = true → A) (h2 : c = false → B) : if c = true then A else B := by
  cases c with
  | true => exact iteT (h1 rfl)
  | false => exact iteF (h2 rfl)
theorem iteSame {b : Bool} {A B : Prop} (h : B) : if (!(b == b)) = true then A else B := by
  cases b <;> exact iteF h
theorem iteNot {b : Bool} {A B : Prop} (hb : b = true) (h : B) : if (!b) = true then A else B := by
  subst hb
  exact iteF h
theorem iteFalse {b : Bool} {A B : Prop} (hb : b = false) (h : B) : if b = true then A else B := by
  subst hb
  exact iteF h
theorem iteTrue {b : Bool} {A B : Prop} (hb : b = true) (h : A) : if b = true then A else B := by
  subst hb
  exact iteT h
/-- the body of a for -/
def forBody (s : Stmt) : List Stmt := match s with
  | .For _ _ b _ _ => b
  | _ => []
def isIntV : V → Bool
  | .int _ => true
  | _ => false
theorem mem_cutV {xs : List V} {lo hi : Option Int} {x : V} (h : x ∈ cutV xs lo hi) : x ∈ xs := List.mem_of_mem_drop (List.mem_of_mem_take h)
end L2
/-! WHAT THE SMALL DEFS KEEP -/
namespace Sp1
open PySem PySem.Spec L2 Mth
/-! ### what each def keeps -/
def spWhole : Sp := fun vs H Q _ => ∃ x t, vs = [x] ∧ Kn H x t ∧ Q (.bl (isIntV x)) H
def spGcd : Sp := fun vs H Q _ => ∃ a b : Int, vs = [.int a, .int b] ∧ Q (.int (Int.gcd a b : Int)) H
def spCommon : Sp := fun vs H Q _ => ∃ a b : Int, vs = [.int a, .int b] ∧ 0 ≤ a ∧ 0 ≤ b ∧ Q (.int (Int.gcd a b : Int)) H
def spLess : Sp := fun vs H Q _ => ∃ (p q : Addr) (a b c d : Int), vs = [.ref p, .ref q] ∧ H p = some (.tup [.int a, .int b]) ∧ H q = some (.tup [.int c, .int d]) ∧ (bits a ≤ 2000 ∧ bits b ≤ 2000 ∧ bits c ≤ 2000 ∧ bits d ≤ 2000) ∧ Q (.bl (decide (a * d < c * b))) H
def spFloor : Sp := fun vs H Q _ => ∃ (p : Addr) (a b : Int), vs = [.ref p] ∧ H p = some (.tup [.int a, .int b]) ∧ (0 < b ∧ bits b ≤ 2000) ∧ Q (.int (a / b)) H
def lowB (a b : Int) : Bool := decide (1 ≤ b) && decide (Int.gcd a b = 1)
def lowL : List V → Bool
  | [.int a, .int b] => lowB a b
  | _ => false
def lowV (H : Hp) : V → Bool
  | .ref p => match H p with
    | some (.tup xs) => lowL xs
    | _ => false
  | _ => false
/-- a thing of a known kind; a tuple's parts are so, too -/
structure Thing (H : Hp) (x : V) : Prop where
  kn : ∃ t, Kn H x t
  parts : ∀ p xs, x = .ref p → H p = some (.tup xs) → ∀ y ∈ xs, ∃ t, Kn H y t
def spLow : Sp := fun vs H Q _ => ∃ x, vs = [x] ∧ Thing H x ∧ Q (.bl (lowV H x)) H
def spMixed : Sp := fun vs H Q _ => ∃ c k : Int, vs = [.int c, .int k] ∧ ∀ n : Int, Q (.int n) H
def spNumbers : Sp := fun vs H Q _ => ∃ (c : Int) (m : Nat) (b : Int), vs = [.int c, .int (m : Int), .int b] ∧ m ≤ 100 ∧ (0 < b ∧ bits b ≤ 2000) ∧
  ∀ (p : Addr) (ns : List Int) (H' : Hp), ns.length = m → (∀ n ∈ ns, 0 ≤ n ∧ n < b) → Same H H' → H' p = some (.lst (ns.map V.int)) → Q (.ref p) H'
def spFraction : Sp := fun vs H Q _ => ∃ v t b : Int, vs = [.int v, .int t, .int b] ∧ (bits t ≤ 300 ∧ bits b ≤ 300 ∧ 0 ≤ b) ∧
  ∀ (p : Addr) (x y : Int), Low x y → bits x ≤ 400 → bits y ≤ 400 → H p = none → Q (.ref p) (upd H p (.tup [.int x, .int y]))
def spNear : Sp := fun vs H Q _ => ∃ (q : Addr) (a b v : Int), vs = [.ref q, .int v] ∧ H q = some (.tup [.int a, .int b]) ∧ (Low a b ∧ bits a ≤ 400 ∧ bits b ≤ 400) ∧ Q (.ref q) H ∧
  ∀ (p : Addr) (x y : Int), Low x y → bits x ≤ 500 → bits y ≤ 500 → H p = none → Q (.ref p) (upd H p (.tup [.int x, .int y]))
def spThing : Sp := fun vs H Q _ => ∃ (q : Addr) (a b n : Int), vs = [.ref q, .int n] ∧ H q = some (.tup [.int a, .int b]) ∧ (bits a ≤ 2000 ∧ bits b ≤ 2000) ∧ ∀ (v : V) (H' : Hp), Same H H' → Thing H' v → Q v H'
def spTruth : Sp := fun vs H Q _ => ∃ b c : Bool, vs = [.bl b, .bl c] ∧ Q (.bl (b == c)) H
theorem whole_sub {H : Hp} {x : V} {t : String} (k : Kn H x t) : (isSub t "int" = true → (!isSub t "bool") = isIntV x) ∧ (isSub t "int" = false → isIntV x = false) := by
  cases k with
  | non => exact ⟨fun h => absurd h (by decide), fun _ => rfl⟩
  | bl b => exact ⟨fun _ => (show (!isSub "bool" "bool") = false by decide), fun h => absurd h (by decide)⟩
  | int i => exact ⟨fun _ => (show (!isSub "int" "bool") = true by decide), fun h => absurd h (by decide)⟩
  | str x => exact ⟨fun h => absurd h (by decide), fun _ => rfl⟩
  | lst e => exact ⟨fun h => absurd h (by decide), fun _ => rfl⟩
  | tup e => exact ⟨fun h => absurd h (by decide), fun _ => rfl⟩
  | dict e => exact ⟨fun h => absurd h (by decide), fun _ => rfl⟩
theorem abs_nonneg (a : Int) : 0 ≤ (if a < 0 then -a else a) := by split <;> omega
/-! ### is_ratio and the law's own look -/
theorem Kn.cases_int {H : Hp} {y : V} {t : String} (k : Kn H y t) : (∃ a, y = .int a ∧ t = "int") ∨ ((∀ a, y ≠ .int a) ∧ isIntV y = false) := by
  cases k with
  | int a => exact .inl ⟨a, rfl, rfl⟩
  | non => exact .inr ⟨fun a e => (nomatch e), rfl⟩
  | bl b => exact .inr ⟨fun a e => (nomatch e), rfl⟩
  | str x => exact .inr ⟨fun a e => (nomatch e), rfl⟩
  | lst e => exact .inr ⟨fun a e => (nomatch e), rfl⟩
  | tup e => exact .inr ⟨fun a e => (nomatch e), rfl⟩
  | dict e => exact .inr ⟨fun a e => (nomatch e), rfl⟩
theorem Kn.cases_tup {H : Hp} {y : V} {t : String} (k : Kn H y t) : (∃ p xs, y = .ref p ∧ H p = some (.tup xs) ∧ t = "tuple") ∨ (lowV H y = false ∧ isSub t "tuple" = false) := by
  cases k with
  | tup e => exact .inl ⟨_, _, rfl, e, rfl⟩
  | non => exact .inr ⟨rfl, by decide⟩
  | bl b => exact .inr ⟨rfl, by decide⟩
  | str x => exact .inr ⟨rfl, by decide⟩
  | int a => exact .inr ⟨rfl, by decide⟩
  | lst e => exact .inr ⟨by simp only [lowV, e], by decide⟩
  | dict e => exact .inr ⟨by simp only [lowV, e], by decide⟩
theorem lowV_tup {H : Hp} {p : Addr} {xs : List V} (e : H p = some (.tup xs)) : lowV H (.ref p) = lowL xs := by simp only [lowV, e]
theorem lowL_len {xs : List V} (h : xs.length ≠ 2) : lowL xs = false := by
  unfold lowL
  split
  · exact absurd rfl h
  · rfl
theorem lowL_fst {y z : V} (h : ∀ a, y ≠ .int a) : lowL [y, z] = false := by
  unfold lowL
  split
  · rename_i a b e
    cases e
    exact absurd rfl (h a)
  · rfl
theorem lowL_snd {y z : V} (h : ∀ a, z ≠ .int a) : lowL [y, z] = false := by
  unfold lowL
  split
  · rename_i a b e
    cases e
    exact absurd rfl (h b)
  · rfl
theorem sz {n : Nat} (h : n ≤ 1000) : n ≤ sizeLine := Nat.le_of_lt (small1000 h)
theorem gcd_bits {a b : Int} {n : Nat} (hb : 0 < b) (h : bits b ≤ n) : bits (Int.gcd a b : Int) ≤ n := by
  refine bits_mono ?_ h
  have h1 : (Int.gcd a b : Int) ≤ b := Int.le_of_dvd hb (Int.gcd_dvd_right a b)
  omega
/-! ### things -/
theorem grow {H : Hp} {p : Addr} {o : HO} (h : H p = none) : ∃ H1, upd H p o = H1 ∧ Same H H1 ∧ H1 p = some o := ⟨_, rfl, Same.new h, upd_same⟩
theorem atI_mem {α : Type} {xs : List α} {k : Int} (h0 : 0 ≤ k) (h1 : k < (xs.length : Int)) : ∃ v, atI xs k = some v ∧ v ∈ xs := by
  have hk : k.toNat < xs.length := by omega
  have ek : k = ((k.toNat : Nat) : Int) := by omega
  have q := atI_nat (xs := xs) (j := k.toNat) (List.getElem?_eq_getElem hk)
  rw [← ek] at q
  exact ⟨xs[k.toNat], q, List.getElem_mem hk⟩
theorem th_flat {H : Hp} {x : V} {t : String} (k : Kn H x t) (h : ∀ p, x ≠ .ref p) : Thing H x := ⟨⟨t, k⟩, fun p xs e => absurd e (h p)⟩
theorem th_lst {H : Hp} {p : Addr} {xs : List V} (e : H p = some (.lst xs)) : Thing H (.ref p) := ⟨⟨_, .lst e⟩, fun p' ys e1 e2 => by
  cases e1
  rw [e] at e2
  cases e2⟩
theorem th_tup {H : Hp} {p : Addr} {xs : List V} (e : H p = some (.tup xs)) (h : ∀ y ∈ xs, ∃ t, Kn H y t) : Thing H (.ref p) := ⟨⟨_, .tup e⟩, fun p' ys e1 e2 => by
  cases e1
  rw [e] at e2
  cases e2
  exact h⟩
theorem floor_lo {u v : Int} (hv : 0 < v) : ¬ u < u / v * v := by
  have h1 := Int.emod_nonneg u (show v ≠ 0 by omega)
  have h2 := Int.emod_add_mul_ediv u v
  rw [Int.mul_comm] at h2
  omega
theorem floor_hi {u v : Int} (hv : 0 < v) : ¬ (u / v + 1) * v ≤ u := by
  have h1 := Int.emod_lt_of_pos u hv
  have h2 := Int.emod_add_mul_ediv u v
  rw [Int.add_mul, Int.one_mul, Int.mul_comm]
  omega
theorem lt64 {n : Int} (h0 : 0 ≤ n) (h1 : n < 2147483647) : -(2 ^ 64) < n ∧ n < 2 ^ 64 := by
  have e : (2 : Int) ^ 64 = 18446744073709551616 := by decide
  rw [e]
  omega
/-! ### fractions made -/
def spRatio (C : Addr) : Sp := fun vs H Q E => ∃ a b : Int, vs = [.int a, .int b] ∧ (bits a ≤ 2000 ∧ bits b ≤ 2000) ∧ (b = 0 → E (.ref C) none H) ∧
  (b ≠ 0 → ∀ (p : Addr) (t u : Int), Frac a b t u → bits t ≤ 2000 → bits u ≤ 2000 → H p = none → Q (.ref p) (upd H p (.tup [.int t, .int u])))
def spMade : Sp := fun vs H Q _ => ∃ a b : Int, vs = [.int a, .int b] ∧ (bits a ≤ 2000 ∧ bits b ≤ 2000) ∧ ∀ H', Same H H' → Q (.bl true) H'
def spTwo : Sp := fun vs H Q _ => ∃ c : Int, vs = [.int c] ∧ ∀ (p : Addr) (x y : Int) (H' : Hp), bits x ≤ 1000 → bits y ≤ 1000 → Same H H' → H' p = some (.tup [.int x, .int y]) → Q (.ref p) H'
theorem gcd_bits2 {a b : Int} {n : Nat} (hb : b ≠ 0) (h : bits b ≤ n) : bits (Int.gcd a b : Int) ≤ n := by
  refine bits_mono ?_ h
  have h1 : (Int.gcd a b) ∣ b.natAbs := Int.gcd_dvd_natAbs_right a b
  have h2 := Nat.le_of_dvd (by omega) h1
  omega
end Sp1
/-! TUPLES OF WHOLE NUMBERS compared -/
namespace L2
open PySem PySem.Spec PyProof.Rows
theorem all_same (ns ms : List Int) : ((List.range (min ns.length ms.length)).all (fun j => decide (ns[j]? = ms[j]?)) && ns.length == ms.length) = decide (ns = ms) := by
  rw [Bool.eq_iff_iff]
  simp only [Bool.and_eq_true, List.all_eq_true, List.mem_range, decide_eq_true_eq, beq_iff_eq]
  constructor
  · rintro ⟨h1, h2⟩
    refine List.ext_getElem? fun j => ?_
    by_cases hj : j < ns.length
    · exact h1 j (by omega)
    · rw [List.getElem?_eq_none (by omega), List.getElem?_eq_none (by omega)]
  · rintro rfl
    exact ⟨fun _ _ => rfl, rfl⟩
theorem val_at {ns : List Int} {us : List Value} {j : Nat} (r : Vals (ns.map V.int) us) (h : j < us.length) : ∃ a, ns[j]? = some a ∧ RelV (.int a) us[j] := by
  have hl := r.length
  rw [List.length_map] at hl
  have hj : j < ns.length := by omega
  obtain ⟨u, e, q⟩ := r.get (i := j) (x := .int ns[j]) (by rw [List.getElem?_map, List.getElem?_eq_getElem hj]; rfl)
  rw [List.getElem?_eq_getElem h] at e
  cases e
  exact ⟨ns[j], List.getElem?_eq_getElem hj, q⟩
section
variable {X : Cx}
def rEqI (K : PySem.W.Frag) (neg : Bool) : R2 := fun x y H Q => ∃ (p q : Addr) (ns ms : List Int), x = .ref p ∧ y = .ref q ∧ SqT K H p (ns.map V.int) ∧ SqT K H q (ms.map V.int) ∧ Q (.bl (if neg then !decide (ns = ms) else decide (ns = ms))) H
theorem items_eq {A : Around} {s : Shared} {ns ms : List Int} {us vs : List Value} (r : Vals (ns.map V.int) us) (r' : Vals (ms.map V.int) vs) (j : Nat) (h1 : j < us.toArray.size) (h2 : j < vs.toArray.size) :
    SeqAt.EqAt A s us.toArray[j] vs.toArray[j] (decide (ns[j]? = ms[j]?)) := by
  rw [List.size_toArray] at h1 h2
  obtain ⟨a, ea, ra⟩ := val_at r h1
  obtain ⟨b, eb, rb⟩ := val_at r' h2
  have q := eqAt_V (A := A) (s := s) ra rb rfl rfl
  have e : eqV (.int a) (.int b) = decide (ns[j]? = ms[j]?) := by
    rw [ea, eb]
    show (a == b) = decide (some a = some b)
    rw [Bool.eq_iff_iff]
    simp
  rw [e] at q
  exact q
theorem op_eqI (hu : X.A.units < cLine) : OpR X (compareOp .Eq) (rEqI X.K false) := by
  intro pins s σ H x y v u Q I rx ry h
  obtain ⟨p, q, ns, ms, rfl, rfl, hp, hq, k⟩ := h
  cases rx
  cases ry
  obtain ⟨its, r, pl, _⟩ := I.tuple hp
  obtain ⟨jts, r', pl', _⟩ := I.tuple hq
  refine SeqAt.eq_tupleAt pl pl' hu (items_eq r r') ⟨.bl _, H, I, rfl, ?_⟩
  have e1 := r.length
  have e2 := r'.length
  rw [List.length_map] at e1 e2
  rw [List.size_toArray, List.size_toArray, ← e1, ← e2, all_same]
  exact k
theorem op_neI (hu : X.A.units < cLine) : OpR X (compareOp .NotEq) (rEqI X.K true) := by
  intro pins s σ H x y v u Q I rx ry h
  obtain ⟨p, q, ns, ms, rfl, rfl, hp, hq, k⟩ := h
  cases rx
  cases ry
  obtain ⟨its, r, pl, _⟩ := I.tuple hp
  obtain ⟨jts, r', pl', _⟩ := I.tuple hq
  refine SeqAt.RcNeAt.tuples pl pl' hu (items_eq r r') _ _ _ _ ⟨.bl _, H, I, rfl, ?_⟩
  have e1 := r.length
  have e2 := r'.length
  rw [List.length_map] at e1 e2
  rw [List.size_toArray, List.size_toArray, ← e1, ← e2, all_same]
  exact k
end
end L2
/-! A LIST unpacked: a, b = f(..) where f tells a list -/
namespace L2
open PySem PySem.Spec PyProof.Rows
section
variable {prog : Program} {w : World} {A : Around} {E : Value → Shared → Prop}
theorem drawn_list {it l : Addr} {its : List Value} (hne : l ≠ it) : ∀ (n i : Nat) (s : Shared) (Q : List Value → Shared → Prop), s.heap.IsListIter it l i → s.heap.IsList l its.toArray → i + n ≤ its.length →
    (∀ h', h'.IsListIter it l (i + n) → Heap.SameBut it s.heap h' → Q ((its.drop i).take n) { s with heap := h' }) → wpAny (model prog w) A (draw (.ref it) n) Q E s := by
  intro n
  induction n with
  | zero =>
    intro i s Q hit _ _ hQ
    exact wpAny_pure (by simpa using hQ s.heap hit (Heap.SameBut.refl ..))
  | succ n ih =>
    intro i s Q hit hl hle hQ
    have hlt : i < its.length := by omega
    refine wpAny_bind (m := pyNext (.ref it)) (wpAny_pyNext_list_item hit hl (x := its[i]) (by simp [hlt]) fun h1 hit1 sb1 => ?_)
    refine wpAny_bind (wpAny_holding (ih (i + 1) _ _ hit1 (hl.extBut sb1.extBut hne) (by omega) fun h2 hit2 sb2 => wpAny_pure ?_))
    have hd : its.drop i = its[i] :: its.drop (i + 1) := List.drop_eq_getElem_cons hlt
    have q := hQ h2 (by rw [show i + (n + 1) = i + 1 + n by omega]; exact hit2) (sb1.trans sb2)
    rw [hd, List.take_succ_cons] at q
    exact q
theorem unpacked_list {l : Addr} {its : List Value} {s : Shared} {Q : List Value → Shared → Prop} (hh : A.handled = none) (hl : s.heap.IsList l its.toArray)
    (hQ : ∀ h', (∀ b o, s.heap.get? b = some o → h'.get? b = some o) → Q its { s with heap := h' }) : wpAny (model prog w) A (unpackItems (.ref l) its.length none) Q E s := by
  have hlt : l ≠ s.heap.objs.size := by
    obtain ⟨o, ho, _⟩ := hl
    exact Nat.ne_of_lt (Heap.lt_size ho)
  unfold unpackItems
  refine wpAny_bind (m := notIterableAtAll _) ?_
  unfold notIterableAtAll
  refine wpAny_bind (wpAny_specialOf hl.typeIs slot_list_iter.lookup (wpAny_pure ?_))
  simp only [if_false, Bool.false_eq_true]
  refine wpAny_bind (wpAny_holding (wpAny_pyIter_list hl ?_))
  refine wpAny_bind (wpAny_holding (drawn_list hlt its.length 0 _ _ ⟨_, Heap.get?_push_size _ rfl, rfl, rfl⟩ (hl.push _) (by omega) fun h1 hit1 sb1 => ?_))
  have hall : (its.drop 0).take its.length = its := by rw [List.drop_zero, List.take_length]
  rw [hall, if_neg (by simp)]
  have hlh : h1.IsList l its.toArray := (hl.push _).extBut sb1.extBut hlt
  refine wpAny_bind (wpAny_holding (wpAny_pyNext_list_end hh hit1 hlh (by simp) fun h2 eb => ?_))
  simp only [Option.isSome_none, if_false, Bool.false_eq_true]
  exact wpAny_pure (hQ h2 fun b o e => eb b o (Nat.ne_of_lt (Heap.lt_size e)) (sb1.extBut b o (Nat.ne_of_lt (Heap.lt_size e)) (Heap.get?_push_of_some _ e)))
end
def gLst (K : PySem.W.Frag) (n : Nat) (t : TGs) : TG := fun v σ H Q => ∃ a xs, v = .ref a ∧ SqL K H a xs ∧ xs.length = n ∧ t xs σ H Q
theorem pg_lst {X : Cx} {pos : Pos} {es : List Expr} {k : Nat} {t : TGs} {n : Nat} (hc : X.calm = true) (h : PGs X es t)
    (hn : (assignEach es X.env).length = n := by rfl) (hst : (assignEach es X.env).findIdx? (·.1) = none := by rfl) : PG X (.Tuple es k pos) (gLst X.K n t) := by
  intro pins s σ H v u Q I r hw
  obtain ⟨a, xs, rfl, hq, hl, hw⟩ := hw
  cases r
  obtain ⟨its, rv, pl, hz⟩ := I.list hq
  have hlen : its.length = n := by rw [← rv.length]; exact hl
  rw [assign_Tuple]
  refine wpAny_bind (wpAny_standAt ?_)
  unfold unpack
  rw [hst, hn, ← hlen]
  refine wpAny_bind (wpAny_holding (unpacked_list (I.ok.hd hc) pl.isList fun h' kp => ?_))
  exact h pins _ σ H xs _ Q (I.kept (t' := s.toks) kp) rv hw
end L2
/-! EXCEPTIONS over the hand layer: own classes, raised in a def, passed on, caught by their name. -/
namespace L2
open PySem PySem.Spec PyProof.Rows

theorem ObjOk.has {P : Program} {w : World} {H : Hp} {h : Heap} {a : Addr} {o : HO} (x : ObjOk P w H h a o) : ∃ ob, h.get? a = some ob := by
  cases o with
  | lst xs => obtain ⟨_, _, _, _, e⟩ := x; exact ⟨_, e⟩
  | tup xs => obtain ⟨_, _, _, ob, e, _⟩ := x; exact ⟨_, e⟩
  | dK kvs => obtain ⟨_, _, _, _, ob, _, _, e, _⟩ := x; exact ⟨_, e⟩
  | dT kvs => obtain ⟨_, _, _, _, ob, _, _, e, _⟩ := x; exact ⟨_, e⟩
  | set S n => obtain ⟨ob, _, _, _, e, _⟩ := x; exact ⟨_, e⟩
  | ins C dx fs => obtain ⟨_, _, _, e, _⟩ := x; exact ⟨_, e⟩
  | own y => obtain ⟨ob, e⟩ := x; exact ⟨_, e⟩
  | xd fs => obtain ⟨_, ⟨od, _, _, e, _⟩, _⟩ := x; exact ⟨_, e⟩
  | rng lo hi => obtain ⟨_, _, _, e⟩ := x; exact ⟨_, e⟩
  | frz ob u => obtain ⟨e, _⟩ := x; exact ⟨_, e⟩
  | tbl ps => exact ⟨_, (show h.get? a = some _ from x)⟩
  | met f y => exact ⟨_, (show h.get? a = some _ from x)⟩
  | ext φ => obtain ⟨_, ⟨ob, e⟩, _⟩ := x; exact ⟨_, e⟩

/-- B holds what an exception on its way leaves as it is: what is tracked, and what was there ahead, but the frames -/
structure Big (B : Heap) (fs : List Addr) (H' : Hp) (h : Heap) : Prop where
  tr : ∀ b o, H' b = some o → ∃ ob, B.get? b = some ob
  old : ∀ b o, h.get? b = some o → b ∉ fs → ∃ ob, B.get? b = some ob
section
variable {P : Program} {w : World} {fs fs' : List Addr} {H H1 H' : Hp} {h h1 h2 B : Heap}
theorem Un.fly (un : Un fs [] H H' h h1) (big : Big B fs H' h) (st1 : B.StaysIn h1) (st2 : B.StaysIn h2) (sl : h1.UpToSlots h2)
    (fr : ∀ b ∈ fs, H b = none ∧ ∀ o, h1.get? b = some o → ∀ vs, o.data ≠ .fields vs) : Un fs [] H H' h h2 where
  keep := fun b o e n hb hx => by
    have e1 := un.keep b o e n hb hx
    obtain ⟨ob, eb⟩ := big.old b o e hb
    have e2 := st1 b ob eb
    rw [e1] at e2
    cases e2
    exact st2 b _ eb
  slot := fun b o e n hb hx => by
    obtain ⟨s1, e1⟩ := un.slot b o e n hb hx
    obtain ⟨s2, e2⟩ := sl b _ e1 ((fr b hb).2 _ e1)
    exact ⟨s2, e2⟩
  free := un.free
  there := fun b o e hx => by
    by_cases hb : b ∈ fs
    · obtain ⟨s1, e1⟩ := un.slot b o e (fr b hb).1 hb hx
      obtain ⟨s2, e2⟩ := sl b _ e1 ((fr b hb).2 _ e1)
      exact ⟨_, e2⟩
    · obtain ⟨ob, eb⟩ := big.old b o e hb
      exact ⟨_, st2 b ob eb⟩
  tups := un.tups
  frzs := un.frzs
  tbls := un.tbls
theorem HOk.fly (hok : HOk P w H' h1) (big : Big B fs H' h) (st1 : B.StaysIn h1) (st2 : B.StaysIn h2) : HOk P w H' h2 := fun a o e => by
  refine (hok a o e).stay (fun b u hb q => ?_) (fun _ q => q) fun _ _ q => q
  have hb' : ∃ ob, B.get? b = some ob := by
    rcases hb with z | z
    · rw [z]
      exact big.tr a o e
    · exact big.tr b _ z
  obtain ⟨ob, eb⟩ := hb'
  have e2 := st1 b ob eb
  rw [q] at e2
  cases e2
  exact st2 b _ eb
/-- a def's own frame is left: it was not there ahead -/
theorem Un.shed (a : Un fs [] H H1 h h1) (b : Un fs' [] H1 H' h1 h2) (sub : ∀ x ∈ fs, x ∈ fs') (out : ∀ x o, h.get? x = some o → x ∈ fs' → x ∈ fs) : Un fs [] H H' h h2 where
  keep := fun x o e n hx hn => b.keep x o (a.keep x o e n hx hn) (a.free x o e n hn) (fun z => hx (out x o e z)) hn
  slot := fun x o e n hx hn => by
    obtain ⟨s1, e1⟩ := a.slot x o e n hx hn
    obtain ⟨s2, e2⟩ := b.slot x _ e1 (a.free x o e n hn) (sub x hx) hn
    exact ⟨s2, e2⟩
  free := fun x o e n hn => by
    obtain ⟨o1, e1⟩ := a.there x o e hn
    exact b.free x o1 e1 (a.free x o e n hn) hn
  there := fun x o e hn => by
    obtain ⟨o1, e1⟩ := a.there x o e hn
    exact b.there x o1 e1 hn
  tups := fun x xs e => b.tups x xs (a.tups x xs e)
  frzs := fun x o xs e => b.frzs x o xs (a.frzs x o xs e)
  tbls := fun x ps e => by
    obtain ⟨m1, e1⟩ := a.tbls x ps e
    obtain ⟨m2, e2⟩ := b.tbls x _ e1
    exact ⟨m1 ++ m2, by rw [e2, Array.append_assoc]⟩
end

/-- how an exception lies behind a call -/
def CXE (P : Program) (w : World) : CXT := fun outer H s E e s' => ∃ (ea t : Addr) (cls : Value) (H' : Hp) (B : Heap),
  e = .ref ea ∧ s'.os = s.os ∧ AllBare s'.gens ∧ Un (frs outer) [] H H' s.heap s'.heap ∧ HOk P w H' s'.heap ∧ Heap.FlyingW B outer ea cls (.ref t) s'.heap ∧ Big B (frs outer) H' s.heap ∧ E cls none H'

section
variable {P : Program} {w : World} {K : PySem.W.Frag} {mg : Str → Option Value} {base : Heap} {N : List Str} {qual : Str} {scope : Scope} {f : Addr} {cdv : Value} {A : Around} {outer : List Env} {s₀ : Shared} {H₀ : Hp} {E : XK}
/-- the frames of a def's body -/
theorem frs_cons {env : Env} {L : Addr} (hf : env.frame = some L) (l : List Env) : frs (env :: l) = L :: frs l := by
  unfold frs
  rw [List.filterMap_cons, hf]
/-- an exception that was made just now leaves the def -/
theorem raised {pins : List (Addr × Obj)} {σ : St} {H : Hp} {s : Shared} {h' : Heap} {e : Addr} {cls : Value} {vs : List Value} (I : Inv (cxOf (CXE P w) P w K mg base N qual scope f cdv A outer s₀ H₀ E) pins σ H s)
    (hx : Heap.MadeExcOf s.heap h' e cls vs) (q : E cls none H) : (cxOf (CXE P w) P w K mg base N qual scope f cdv A outer s₀ H₀ E).xe (.ref e) { s with heap := h' } := by
  have hin : ∀ env ∈ (cxOf (CXE P w) P w K mg base N qual scope f cdv A outer s₀ H₀ E).stack, ∀ a, env.frame = some a → a ∈ frs (cxOf (CXE P w) P w K mg base N qual scope f cdv A outer s₀ H₀ E).stack :=
    fun env he a ha => List.mem_filterMap.mpr ⟨env, he, ha⟩
  have neL : ∀ b o, s₀.heap.get? b = some o → b ∉ frs outer → b ∉ frs (cxOf (CXE P w) P w K mg base N qual scope f cdv A outer s₀ H₀ E).stack := fun b o eb hb hm => by
    rcases List.mem_cons.mp (I.stkSub b hm) with z | z
    · exact absurd z (Nat.ne_of_lt (Nat.lt_of_lt_of_le (Heap.lt_size eb) I.ok.above))
    · exact hb z
  refine wpAny_leaves_madeW (base := PySem.W.hideAll s.heap (frs (cxOf (CXE P w) P w K mg base N qual scope f cdv A outer s₀ H₀ E).stack)) (h := s.heap) (L := s₀.heap.objs.size) I.ok.frames rfl (fun b o z => PySem.W.of_hideAll _ z) (PySem.W.funFrames_hide I.stack hin) hx fun h'' t fl _ _ up => ?_
  have big : Big (PySem.W.hideAll s.heap (frs (cxOf (CXE P w) P w K mg base N qual scope f cdv A outer s₀ H₀ E).stack)) (frs outer) H s₀.heap := by
    refine ⟨fun b o eb => ?_, fun b o eb hb => ?_⟩
    · obtain ⟨ob, z⟩ := (I.hok b o eb).has
      refine ⟨ob, PySem.W.hideAll_get _ z fun hm => ?_⟩
      rw [I.stkFree b hm] at eb
      cases eb
    · obtain ⟨ob, z⟩ := I.base.there b o eb (by intro z; cases z)
      exact ⟨ob, PySem.W.hideAll_get _ z (neL b o eb hb)⟩
  have st1 : (PySem.W.hideAll s.heap (frs (cxOf (CXE P w) P w K mg base N qual scope f cdv A outer s₀ H₀ E).stack)).StaysIn s.heap := fun b o z => PySem.W.of_hideAll _ z
  have sl : s.heap.UpToSlots h'' := (Heap.UpToSlots.of_keeps hx.keeps).trans up
  exact ⟨e, t, cls, H, _, rfl, I.os, I.bare, Un.fly I.base big st1 fl.1 sl fun b hb => ⟨I.ok.frf b hb, fun o eo => by
      obtain ⟨_, o', eo', nf⟩ := I.funs.mem hb
      rw [eo] at eo'
      cases eo'
      exact nf⟩, HOk.fly I.hok big st1 fl.1, fl, big, q⟩
/-- an exception of a callee leaves the def, too -/
theorem pass_on {E1 : XK} (hE : ∀ c o H', E1 c o H' → E c o H') : Passes (CXE P w) (cxOf (CXE P w) P w K mg base N qual scope f cdv A outer s₀ H₀ E) E1 := by
  intro pins σ H s e s' I h
  obtain ⟨ea, t, cls, H', B, rfl, os, bare, un, hok, fl, big, q⟩ := h
  refine wpAny_leaves_onW (L := s₀.heap.objs.size) I.ok.frames rfl fl fun h'' fl' up => ?_
  have out : ∀ x o, s₀.heap.get? x = some o → x ∈ frs (cxOf (CXE P w) P w K mg base N qual scope f cdv A outer s₀ H₀ E).stack → x ∈ frs outer := fun x o ex hm => by
    rcases List.mem_cons.mp (I.stkSub x hm) with z | z
    · exact absurd z (Nat.ne_of_lt (Nat.lt_of_lt_of_le (Heap.lt_size ex) I.ok.above))
    · exact z
  have sub : ∀ x ∈ frs outer, x ∈ frs (cxOf (CXE P w) P w K mg base N qual scope f cdv A outer s₀ H₀ E).stack := fun x hx => by
    show x ∈ frs (_ :: outer)
    rw [frs_cons (L := s₀.heap.objs.size) rfl]
    exact List.mem_cons_of_mem _ hx
  have un1 : Un (frs outer) [] H₀ H' s₀.heap s'.heap := Un.shed I.base un sub out
  have big1 : Big B (frs outer) H' s₀.heap := by
    refine ⟨big.tr, fun b o eb hb => ?_⟩
    obtain ⟨ob, z⟩ := I.base.there b o eb (by intro z; cases z)
    exact big.old b ob z fun hm => hb (out b o eb hm)
  refine ⟨ea, t, cls, H', B, rfl, os.trans I.os, bare, Un.fly un1 big1 fl.1 fl'.1 up fun b hb => ⟨I.ok.frf b hb, fun o eo => ?_⟩, HOk.fly hok big1 fl.1 fl'.1, fl', big1, hE _ _ _ q⟩
  obtain ⟨_, o', eo', nf⟩ := fl'.2.2.1.mem hb
  obtain ⟨_, o2, eo2, nf2⟩ := fl.2.2.1.mem (sub b hb)
  rw [eo] at eo2
  cases eo2
  exact nf2
end

/-! ### raise -/
/-- an own class of exceptions, straight or not under ValueError -/
structure ExcC (K : PySem.W.Frag) (mg : Str → Option Value) (x : Str) (C : Addr) : Prop where
  bound : mg x = some (.ref C)
  obj : ∀ h : Heap, K.In h → ∃ bm N nm qn bs hd sn sub ab col dd k0 k1 k2 k3 k5 mN, h.get? C = some (excClassObj nm qn C N bs bm hd sn sub ab col dd k0 k1 k2 k3 k5 "ValueError.__new__") ∧ h.Ns N mN ∧ mN "__init__" = none ∧
    OwnTail h [.type "ValueError", .type "Exception", .type "BaseException", .type "object"] bm
theorem exc_obj {K : PySem.W.Frag} {h : Heap} {C : Addr} {bmB : List Value} {newId : String} (X : K.In h) (q : PySem.W.excIn K C bmB newId = true) :
    ∃ bm N nm qn bs hd sn sub ab col dd k0 k1 k2 k3 k5 mN, h.get? C = some (excClassObj nm qn C N bs bm hd sn sub ab col dd k0 k1 k2 k3 k5 newId) ∧ h.Ns N mN ∧ mN "__init__" = none ∧ OwnTail h bmB bm := by
  unfold PySem.W.excIn at q
  split at q
  next dct cl sls look =>
    split at q
    next C2 bms a0 a1 a2 a3 nid a5 hmro hsls =>
      simp only [Bool.not_eq_true', beq_iff_eq, Bool.and_eq_true] at q
      obtain ⟨⟨⟨⟨⟨q1, q2⟩, q3⟩, q4⟩, q5⟩, q6⟩ := q
      subst q1 q2
      obtain ⟨c1, c2, c3, c4, c5, c6, c7, c8, c9, c10, c11⟩ := cl
      dsimp only at hmro q3 q5 q6
      subst hmro q3
      obtain ⟨lst⟩ := sls
      simp only at hsls
      subst hsls
      exact ⟨bms, c4, c1, c5, c2, c6, c7, c8, c9, c10, dct, a0, a1, a2, a3, a5, _, X _ _ look, .of_isNs (PySem.W.isNs_of_in X q5), PySem.W.nsMap_none_of_in X q5 q6, PySem.W.tail_of_in X q4⟩
    next => cases q
  next => cases q
theorem exc_mk {K : PySem.W.Frag} {mg : Str → Option Value} {h : Heap} {x : Str} {C : Addr} (X : K.In h) (G : h.Ns mainGlobals mg) (a : PySem.W.nsIn K mainGlobals x = some (some (.ref C)))
    (q : PySem.W.excIn K C [.type "ValueError", .type "Exception", .type "BaseException", .type "object"] "ValueError.__new__" = true) : ExcC K mg x C := ⟨PySem.W.mg_of X G a, fun _ Y => exc_obj Y q⟩
section
variable {P : Program} {w : World} {K : PySem.W.Frag} {mg : Str → Option Value} {base : Heap} {N : List Str} {qual : Str} {scope : Scope} {f : Addr} {cdv : Value} {A : Around} {outer : List Env} {s₀ : Shared} {H₀ : Hp} {E : XK}
/-- raise X() -/
theorem ps_raise {x : Str} {C : Addr} {np cpos pos : Pos} (O : ExcC K mg x C) (hg : Gl (cxOf (CXE P w) P w K mg base N qual scope f cdv A outer s₀ H₀ E) x) (hdb : (x == ("__debug__" : Str)) = false := by decide) :
    PS (cxOf (CXE P w) P w K mg base N qual scope f cdv A outer s₀ H₀ E) (.Raise (some (.Call (.Name x np) [] [] cpos)) none pos) (fun _ _ H => E (.ref C) none H) := by
  intro pins s σ H D I h
  obtain ⟨bm, N', nm, qn, bs, hd, sn, sub, ab, col, dd, k0, k1, k2, k3, k5, mN, hC, hN, hni, T⟩ := O.obj s.heap I.kIn
  refine wpAny_Raise_call_subT (C := C) (nm := nm) (q := qn) (N := N') (bs := bs) (bm := bm) (hdct := hd) (sn := sn) (sub := sub) (ab := ab) (col := col) (dd := dd) (k0 := k0) (k1 := k1) (k2 := k2) (k3 := k3) (k5 := k5) PySem.F.excBase_ValueError (mN := mN) (T.hasType (by decide +kernel)) (I.ok.hd rfl) rfl hni (ld_glob I hg O.bound ⟨rfl, ?_⟩ hdb)
  exact evalArgs_empty ⟨rfl, Nat.zero_le _, hC, hN, T, fun h' e hx => raised I hx h⟩
end

/-! ### try: one call, one clause -/
/-- the context within an except suite -/
abbrev Cx.inH (X : Cx) (e : Addr) : Cx := { X with A := X.A.mark (some (.ref e)), calm := false, xe := fun _ _ => False }
theorem Inv.inH {X : Cx} {pins : List (Addr × Obj)} {σ : St} {H : Hp} {s : Shared} (I : Inv X pins σ H s) (e : Addr) : Inv (X.inH e) pins σ H s :=
  ⟨⟨I.ok.mod, I.ok.kind, I.ok.glob, I.ok.blt, I.ok.above, I.ok.inj, I.ok.has, I.ok.cab, (fun z => by cases z), I.ok.frames, I.ok.stk, I.ok.exf, I.ok.bs, I.ok.bsz, I.ok.noex, I.ok.exfs, I.ok.funs, I.ok.frf⟩,
    I.os, I.bare, I.base, I.loc, I.cell, I.free, I.freeC, I.pin, I.hok, I.len⟩
theorem Inv.outH {X : Cx} {e : Addr} {pins : List (Addr × Obj)} {σ : St} {H : Hp} {s : Shared} (ok : X.Ok) (I : Inv (X.inH e) pins σ H s) : Inv X pins σ H s :=
  ⟨ok, I.os, I.bare, I.base, I.loc, I.cell, I.free, I.freeC, I.pin, I.hok, I.len⟩
theorem SP.outH {X : Cx} {e : Addr} {pins : List (Addr × Obj)} {D : Ends} {fl : Flow} {s : Shared} (ok : X.Ok) (h : SP (X.inH e) pins D fl s) : SP X pins D fl s := by
  cases fl with
  | next => obtain ⟨σ', H', I, q⟩ := h; exact ⟨σ', H', I.outH ok, q⟩
  | brk => obtain ⟨σ', H', I, q⟩ := h; exact ⟨σ', H', I.outH ok, q⟩
  | cont => obtain ⟨σ', H', I, q⟩ := h; exact ⟨σ', H', I.outH ok, q⟩
  | ret u => obtain ⟨v, σ', H', I, r, q⟩ := h; exact ⟨v, σ', H', I.outH ok, r, q⟩
section
variable {X : Cx}
/-- an exception of a callee is met by a clause that names its very class -/
theorem caught {pins : List (Addr × Obj)} {σ : St} {H : Hp} {s s' : Shared} {E1 : XK} {ev : Value} {x : Str} {C : Addr} {np pos : Pos} {b₀ : Stmt} {suite : List Stmt} {rest : List ExceptHandler} {D : Ends} {th : TS} {Ex : Value → Shared → Prop}
    (I : Inv X pins σ H s) (stk : X.stack = X.env :: X.outer) (hf : X.env.frame = some X.env.locals) (O : ExcC X.K X.mg x C) (hg : Gl X x) (h : CXE X.prog X.w X.stack H s E1 ev s')
    (hE : ∀ c o H', E1 c o H' → c = .ref C ∧ th D σ H') (hb : ∀ e : Addr, PSs (X.inH e) (b₀ :: suite) th) (hdb : (x == ("__debug__" : Str)) = false := by decide) :
    wpAny (model X.prog X.w) X.A (noteFrame ev X.env) (fun _ s₂ => wpAny (model X.prog X.w) X.A (setFlight ev none) (fun _ s₃ =>
      wpAny (model X.prog X.w) X.A (handleBy ev X.env (.ExceptHandler (some (.Name x np)) none (b₀ :: suite) pos :: rest)) (SP X pins D) Ex s₃) Ex s₂) Ex s' := by
  obtain ⟨ea, t, cls, H', B, rfl, os, bare, un, hok, fl, big, q⟩ := h
  obtain ⟨rfl, rd⟩ := hE _ _ _ q
  have hfr := I.ok.frames
  rw [stk] at hfr
  have fr : ∀ b ∈ frs X.stack, H b = none ∧ ∀ o, s'.heap.get? b = some o → ∀ vs, o.data ≠ .fields vs := fun b hb => ⟨I.stkFree b hb, fun o eo => by
    obtain ⟨_, o', eo', nf⟩ := fl.2.2.1.mem hb
    rw [eo] at eo'
    cases eo'
    exact nf⟩
  have J : ∀ h2 : Heap, B.StaysIn h2 → s'.heap.UpToSlots h2 → Inv X pins σ H' { s' with heap := h2 } := fun h2 st2 sl =>
    I.call' (s' := { s' with heap := h2 }) (ch := []) os (Un.fly un big fl.1 st2 sl fr) (HOk.fly hok big fl.1 st2) bare fun b z => absurd z (by simp)
  have fl0 := fl
  rw [stk] at fl0
  refine wpAny_looks_onW (L := X.env.locals) hfr hf fl0 fun h4 hheld up4 => ?_
  refine wpAny_landsW hheld fun h5 fl5 up5 => ?_
  have up45 := up4.trans up5
  have I5 := (J h5 fl5.1 up45).inH ea
  obtain ⟨oe, he, hc⟩ := fl5.there
  obtain ⟨bm, N', nm, qn, bs, hd, sn, sub, ab, col, dd, k0, k1, k2, k3, k5, mN, hC, hN, hni, T⟩ := O.obj h5 I5.kIn
  refine wpAny_handleBy_cons (codeAny_handlers_test (ld_glob I5 hg O.bound ?_ hdb)) (by intro z; cases z)
  refine wpAny_excMatches_sub_self hC he hc (T.hasType (by decide +kernel)) (codeAny_handlers_suite ?_)
  refine lands_againW fl5 fun h6 fl6 up6 => ?_
  have I6 := (J h6 fl6.1 (up45.trans up6)).inH ea
  exact wpAny_mono (hb ea pins _ σ H' D I6 rd) (fun f s₂ z => z.outH I.ok) fun _ _ z => False.elim z
end

/-- statements from which an exception may come: R is what is wanted of it, its class, the frame and the heap at that time -/
abbrev TX := (Value → St → Hp → Prop) → TS
def XP (X : Cx) (pins : List (Addr × Obj)) (R : Value → St → Hp → Prop) (ev : Value) (s' : Shared) : Prop :=
  ∃ (s₁ : Shared) (σ₁ : St) (H₁ : Hp) (E1 : XK), Inv X pins σ₁ H₁ s₁ ∧ CXE X.prog X.w X.stack H₁ s₁ E1 ev s' ∧ ∀ c o H', E1 c o H' → R c σ₁ H'
def PX (X : Cx) (st : Stmt) (t : TX) : Prop :=
  ∀ (pins : List (Addr × Obj)) (s : Shared) (σ : St) (H : Hp) (D : Ends) (R : Value → St → Hp → Prop), Inv X pins σ H s → t R D σ H → wpAny (model X.prog X.w) X.A (exec st X.env) (SP X pins D) (XP X pins R) s
def PXs (X : Cx) (st : List Stmt) (t : TX) : Prop :=
  ∀ (pins : List (Addr × Obj)) (s : Shared) (σ : St) (H : Hp) (D : Ends) (R : Value → St → Hp → Prop), Inv X pins σ H s → t R D σ H → wpAny (model X.prog X.w) X.A (execs st X.env) (SP X pins D) (XP X pins R) s
/-- a def that may raise, with what it keeps -/
structure Fx (P : Program) (w : World) (K : PySem.W.Frag) (mg : Str → Option Value) (base : Heap) (x : Str) (ps : List Str) (k : Nat) (ds : List V) (sp : Sp) : Prop where
  ex : ∃ (f : Addr) (fd : FuncData) (its : List Value), mg x = some (.ref f) ∧ PySem.W.keepIn K (.ref f) = true ∧ Binds K fd ps [] ∧ Binds K fd ps its ∧ Vals ds its ∧ FnOk P w K mg base (CXE P w) k f fd ps sp
/-- a def with defaults ds, as the top has laid it -/
structure DfD (K : PySem.W.Frag) (mg : Str → Option Value) (x : Str) (st : Stmt) (ds : List V) : Prop where
  ex : ∃ (f T : Addr) (oT : Obj) (n : Nat) (its : List Value) (oc : Value) (od : Option Addr) (kV doc pm : Value) (an : Option Addr) (cdv ct : Value) (osl : Array (Option Value)),
    mg x = some (.ref f) ∧ K.lookup f = some ⟨oc, od, .func (PySem.W.fnOf x x (defArgs st) (defBody st) (defScope st) (.ref T) kV doc pm an cdv ct), osl⟩ ∧ PySem.W.codeIn K cdv x = true ∧ PySem.W.keepIn K (.ref f) = true ∧ K.lookup T = some oT ∧ oT.data = .seq its.toArray n ∧ Vals ds its
theorem dfd_mk {K : PySem.W.Frag} {mg : Str → Option Value} {h : Heap} {x : Str} {st : Stmt} {ds : List V} {its : List Value} {f T : Addr} {oT : Obj} {n : Nat} {oc : Value} {od an : Option Addr} {osl : Array (Option Value)} {kV doc pm cdv ct : Value} (X : K.In h) (G : h.Ns mainGlobals mg)
    (a : PySem.W.nsIn K mainGlobals x = some (some (.ref f))) (l : K.lookup f = some ⟨oc, od, .func (PySem.W.fnOf x x (defArgs st) (defBody st) (defScope st) (.ref T) kV doc pm an cdv ct), osl⟩) (c : PySem.W.codeIn K cdv x = true) (k : PySem.W.keepIn K (.ref f) = true)
    (t : K.lookup T = some oT) (d : oT.data = .seq its.toArray n) (v : Vals ds its) : DfD K mg x st ds := ⟨⟨f, T, oT, n, its, oc, od, kV, doc, pm, an, cdv, ct, osl, PySem.W.mg_of X G a, l, c, k, t, d, v⟩⟩
/-- hb: all arguments given; hd: those of the defaults left out -/
theorem DfD.fx {P : Program} {w : World} {K : PySem.W.Frag} {mg : Str → Option Value} {base : Heap} {x : Str} {st : Stmt} {ds : List V} {N ps : List Str} {k : Nat} {sp : Sp} (D : DfD K mg x st ds) (S : FnScope N ps (defScope st))
    (hb : ∀ (T : Addr) (kV doc pm : Value) (an : Option Addr) (cdv ct : Value) (us its : List Value) (oT : Obj) (n : Nat) (s : Shared), Vals ds its → us.length = ps.length → s.heap.get? T = some oT → oT.data = .seq its.toArray n →
      BindsTo s (PySem.W.fnOf x x (defArgs st) (defBody st) (defScope st) (.ref T) kV doc pm an cdv ct) ⟨us, []⟩ (ps.zip us))
    (hd : ∀ (T : Addr) (kV doc pm : Value) (an : Option Addr) (cdv ct : Value) (us its : List Value) (oT : Obj) (n : Nat) (s : Shared), Vals ds its → (us ++ its).length = ps.length → s.heap.get? T = some oT → oT.data = .seq its.toArray n →
      BindsTo s (PySem.W.fnOf x x (defArgs st) (defBody st) (defScope st) (.ref T) kV doc pm an cdv ct) ⟨us, []⟩ (ps.zip (us ++ its)))
    (len : ∀ vs H Q E, sp vs H Q E → vs.length = ps.length)
    (hbody : ∀ (f : Addr) (cdv : Value) (A : Around) (outer : List Env) (s : Shared) (H : Hp) (vs : List V) (Q : VK) (E : XK), Room k (A.deeper (envOfC x (defScope st) s.heap.objs.size f cdv)) → sp vs H Q E →
      ∃ t, PSs (cxOf (CXE P w) P w K mg base N x (defScope st) f cdv A outer s H E) (defBody st) t ∧ t { nx := fun _ H' => Q .non H', rt := Q } (start N vs) H) : Fx P w K mg base x ps (k + 1) ds sp := by
  obtain ⟨f, T, oT, n, its, oc, od, kV, doc, pm, an, cdv, ct, osl, hm, lk, hcd, hk, hT, hs, hv⟩ := D.ex
  refine ⟨⟨f, _, its, hm, hk, fun s us KX hl => ?_, fun s us KX hl => hd T kV doc pm an cdv ct us its oT n s hv hl (KX _ _ hT) hs, hv, fn_of lk hcd S len fun A outer s H vs Q E hr hsp => hbody f cdv A outer s H vs Q E hr hsp⟩⟩
  rw [List.append_nil] at hl ⊢
  exact hb T kV doc pm an cdv ct us its oT n s hv hl (KX _ _ hT) hs
theorem Df.fx {P : Program} {w : World} {K : PySem.W.Frag} {mg : Str → Option Value} {base : Heap} {x : Str} {st : Stmt} {N ps : List Str} {k : Nat} {sp : Sp} (D : Df K mg x st) (S : FnScope N ps (defScope st))
    (hbind : ∀ (kV doc pm : Value) (an : Option Addr) (cdv ct : Value) (us : List Value), us.length = ps.length → bindArgs (PySem.W.fnOf x x (defArgs st) (defBody st) (defScope st) .none kV doc pm an cdv ct) ⟨us, []⟩ = pure (ps.zip us))
    (len : ∀ vs H Q E, sp vs H Q E → vs.length = ps.length)
    (hbody : ∀ (f : Addr) (cdv : Value) (A : Around) (outer : List Env) (s : Shared) (H : Hp) (vs : List V) (Q : VK) (E : XK), Room k (A.deeper (envOfC x (defScope st) s.heap.objs.size f cdv)) → sp vs H Q E →
      ∃ t, PSs (cxOf (CXE P w) P w K mg base N x (defScope st) f cdv A outer s H E) (defBody st) t ∧ t { nx := fun _ H' => Q .non H', rt := Q } (start N vs) H) : Fx P w K mg base x ps (k + 1) [] sp := by
  obtain ⟨f, oc, od, kV, doc, pm, an, cdv, ct, osl, hm, lk, hcd, hk⟩ := D.ex
  have hb : Binds K (PySem.W.fnOf x x (defArgs st) (defBody st) (defScope st) .none kV doc pm an cdv ct) ps [] := .all (hbind kV doc pm an cdv ct)
  exact ⟨⟨f, _, [], hm, hk, hb, hb, .nil, fn_of lk hcd S len fun A outer s H vs Q E hr hsp => hbody f cdv A outer s H vs Q E hr hsp⟩⟩
/-- a def that may raise is called in one that may raise -/
theorem pe_fx {P : Program} {w : World} {K : PySem.W.Frag} {mg : Str → Option Value} {base : Heap} {N : List Str} {qual : Str} {scope : Scope} {f : Addr} {cdv : Value} {A : Around} {outer : List Env} {s₀ : Shared} {H₀ : Hp} {E : XK}
    {x : Str} {ps : List Str} {k : Nat} {ds : List V} {sp : Sp} {p pos : Pos} {e : Expr} {es : List Expr} {t : TA} (F : Fx P w K mg base x ps k ds sp) (hr : Room k (cxOf (CXE P w) P w K mg base N qual scope f cdv A outer s₀ H₀ E).A) (hg : Gl (cxOf (CXE P w) P w K mg base N qual scope f cdv A outer s₀ H₀ E) x)
    (ha : PA (cxOf (CXE P w) P w K mg base N qual scope f cdv A outer s₀ H₀ E) (e :: es) t)
    (hdb : (x == ("__debug__" : Str)) = false := by decide) (he : starEach (e :: es) (cxOf (CXE P w) P w K mg base N qual scope f cdv A outer s₀ H₀ E).env = (false, eval e (cxOf (CXE P w) P w K mg base N qual scope f cdv A outer s₀ H₀ E).env) :: starEach es (cxOf (CXE P w) P w K mg base N qual scope f cdv A outer s₀ H₀ E).env := by rfl)
    (hpl : (backTo pos (starEach es (cxOf (CXE P w) P w K mg base N qual scope f cdv A outer s₀ H₀ E).env)).any (·.1) = false := by rfl) :
    PE (cxOf (CXE P w) P w K mg base N qual scope f cdv A outer s₀ H₀ E) (.Call (.Name x p) (e :: es) [] pos) (tCall sp [] E t) := by
  obtain ⟨g, fd, its, hm, hk, hb, _, _, G⟩ := F.ex
  exact pe_call G hr hg hm hk hb .nil (pass_on fun _ _ _ z => z) ha hdb he hpl
/-- nothing is raised -/
theorem pass_none {P : Program} {w : World} {X : Cx} : Passes (CXE P w) X E0 := fun _ _ _ _ _ _ _ h => by
  obtain ⟨_, _, _, _, _, _, _, _, _, _, _, _, q⟩ := h
  exact q.elim
theorem pe_fx0 {X : Cx} {x : Str} {ps : List Str} {k : Nat} {ds : List V} {sp : Sp} {p pos : Pos} {e : Expr} {es : List Expr} {t : TA} (F : Fx X.prog X.w X.K X.mg X.base x ps k ds sp) (hr : Room k X.A) (hg : Gl X x) (ha : PA X (e :: es) t)
    (hdb : (x == ("__debug__" : Str)) = false := by decide) (he : starEach (e :: es) X.env = (false, eval e X.env) :: starEach es X.env := by rfl) (hpl : (backTo pos (starEach es X.env)).any (·.1) = false := by rfl) :
    PE X (.Call (.Name x p) (e :: es) [] pos) (tCall sp [] E0 t) := by
  obtain ⟨g, fd, its, hm, hk, hb, _, _, G⟩ := F.ex
  exact pe_call G hr hg hm hk hb .nil pass_none ha hdb he hpl
/-- .. with the defaults -/
theorem pe_fxd0 {X : Cx} {x : Str} {ps : List Str} {k : Nat} {ds : List V} {sp : Sp} {p pos : Pos} {e : Expr} {es : List Expr} {t : TA} (F : Fx X.prog X.w X.K X.mg X.base x ps k ds sp) (hr : Room k X.A) (hg : Gl X x) (ha : PA X (e :: es) t)
    (hdb : (x == ("__debug__" : Str)) = false := by decide) (he : starEach (e :: es) X.env = (false, eval e X.env) :: starEach es X.env := by rfl) (hpl : (backTo pos (starEach es X.env)).any (·.1) = false := by rfl) :
    PE X (.Call (.Name x p) (e :: es) [] pos) (tCall sp ds E0 t) := by
  obtain ⟨g, fd, its, hm, hk, _, hb, hv, G⟩ := F.ex
  exact pe_call G hr hg hm hk hb hv pass_none ha hdb he hpl
section
variable {X : Cx}
/-- the call itself -/
theorem run_fx {pins : List (Addr × Obj)} {s : Shared} {σ : St} {H : Hp} {Q : VK} {R : Value → St → Hp → Prop} {x : Str} {ps : List Str} {k : Nat} {ds : List V} {sp : Sp} {p pos : Pos} {e : Expr} {es : List Expr} {t : TA} (I : Inv X pins σ H s)
    (F : Fx X.prog X.w X.K X.mg X.base x ps k ds sp) (hr : Room k X.A) (hg : Gl X x) (ha : PA X.nox (e :: es) t) (q : t σ H fun vs H1 => sp vs H1 Q fun c _ H2 => R c σ H2)
    (hdb : (x == ("__debug__" : Str)) = false) (he : starEach (e :: es) X.env = (false, eval e X.env) :: starEach es X.env) (hpl : (backTo pos (starEach es X.env)).any (·.1) = false) :
    wpAny (model X.prog X.w) X.A (eval (.Call (.Name x p) (e :: es) [] pos) X.env) (EP X pins σ Q) (XP X pins R) s := by
  obtain ⟨f, fd, its, hm, hk, hb, _, _, G⟩ := F.ex
  refine wpAny_Call_Name_kw (ld_glob I hg hm ?_ hdb)
  refine PySem.W.callWith_K (h₀ := X.base) I.ok.mod.kin hk (wpAny_mono (ha pos pins s σ H _ (I.wish _) q) (fun us s1 ⟨vs, H1, J1, r, q1⟩ => ?_) fun _ _ z => False.elim z) he hpl
  have I1 : Inv X pins σ H1 s1 := J1.unwish
  refine ⟨I1.kIn, ?_⟩
  have hl : (us ++ []).length = ps.length := by rw [List.append_nil, ← r.length]; exact G.len _ _ _ _ q1
  have hbb := hb s1 us I1.kIn hl
  rw [List.append_nil] at hbb
  refine wpAny_call (codeAny_mono (G.run X.A X.stack s1 H1 ⟨us, []⟩ us vs Q _ hr I1.env0 hbb r q1) fun rr s' hq => ?_)
  cases rr with
  | error ev => exact ⟨s1, σ, H1, (fun c _ H2 => R c σ H2), I1, hq, fun c o H' z => z⟩
  | ok flw =>
    cases flw with
    | ret u => exact I1.after hq
    | next => exact False.elim hq
    | brk => exact False.elim hq
    | cont => exact False.elim hq
variable {x fn : Str} {i : Nat} {ps : List Str} {k : Nat} {ds : List V} {sp : Sp} {e : Expr} {es : List Expr} {ta : TA} {px pf cpos pos : Pos}
/-- x = f(..) -/
theorem px_set (hN : X.N.Nodup) (hi : X.N[i]? = some x) (hx : Loc X.env.scope x) (F : Fx X.prog X.w X.K X.mg X.base fn ps k ds sp) (hr : Room k X.A) (hg : Gl X fn) (ha : PA X.nox (e :: es) ta)
    (hs : swapsWith (.Call (.Name fn pf) (e :: es) [] cpos) (some (.Name x px)) pos.line X.env = pure false := by rfl) (hf : X.fn x = true ∨ X.env.scope.names.lookup x = some .local := by first | exact .inl rfl | exact .inr rfl | assumption)
    (hdb : (fn == ("__debug__" : Str)) = false := by decide) (he : starEach (e :: es) X.env = (false, eval e X.env) :: starEach es X.env := by rfl) (hpl : (backTo cpos (starEach es X.env)).any (·.1) = false := by rfl) :
    PX X (.Assign [.Name x px] (.Call (.Name fn pf) (e :: es) [] cpos) pos) (fun R D σ H => ta σ H fun vs H1 => sp vs H1 (fun v H2 => D.nx (σ.set i (some v)) H2) fun c _ H2 => R c σ H2) := by
  intro pins s σ H D R I h
  refine wpAny_Assign_Name (thn (run_fx I F hr hg ha h hdb he hpl) fun v s1 ⟨y, H1, I1, r1, q1⟩ => ?_) hs
  exact store_ok I1 hN hi hx r1 (fun s2 I2 => ⟨_, H1, I2, q1⟩) hf
/-- f(..) -/
theorem px_expr (F : Fx X.prog X.w X.K X.mg X.base fn ps k ds sp) (hr : Room k X.A) (hg : Gl X fn) (ha : PA X.nox (e :: es) ta) (hs : swapsWith (.Call (.Name fn pf) (e :: es) [] cpos) none pos.line X.env = pure false := by rfl)
    (hdb : (fn == ("__debug__" : Str)) = false := by decide) (he : starEach (e :: es) X.env = (false, eval e X.env) :: starEach es X.env := by rfl) (hpl : (backTo cpos (starEach es X.env)).any (·.1) = false := by rfl) :
    PX X (.Expr (.Call (.Name fn pf) (e :: es) [] cpos) pos) (fun R D σ H => ta σ H fun vs H1 => sp vs H1 (fun _ H2 => D.nx σ H2) fun c _ H2 => R c σ H2) := by
  intro pins s σ H D R I h
  exact wpAny_Expr_any (thn (run_fx I F hr hg ha h hdb he hpl) fun v s1 ⟨y, H1, I1, r1, q1⟩ => ⟨σ, H1, I1, q1⟩) I.quiet hs
theorem pxs_one {st : Stmt} {t : TX} (h1 : PX X st t) : PXs X [st] t := by
  intro pins s σ H D R I h
  refine wpAny_execs_cons (thn (h1 pins s σ H D R I h) fun f s1 q => ?_)
  cases f with
  | next => exact wpAny_execs_nil q
  | ret v => exact q
  | brk => exact q
  | cont => exact q
/-- try with one clause that names an own class -/
theorem ps_try {n : Str} {C : Addr} {np hpos : Pos} {body : List Stmt} {b₀ : Stmt} {suite : List Stmt} {tx : TX} {th : TS} (stk : X.stack = X.env :: X.outer) (hfr : X.env.frame = some X.env.locals) (hb : PXs X body tx) (O : ExcC X.K X.mg n C) (hg : Gl X n)
    (hh : ∀ e : Addr, PSs (X.inH e) (b₀ :: suite) th) (hdb : (n == ("__debug__" : Str)) = false := by decide) :
    PS X (.Try body [.ExceptHandler (some (.Name n np)) none (b₀ :: suite) hpos] [] [] pos) (fun D σ H => tx (fun c σ' H' => c = .ref C ∧ th D σ' H') D σ H) := by
  intro pins s σ H D I h
  refine wpAny_Try_except (wpAny_mono (hb pins s σ H D _ I h) (fun f s1 q => ?_) fun ev s1 q => ?_)
  · cases f with
    | next => exact wpAny_execs_nil q
    | ret v => exact q
    | brk => exact q
    | cont => exact q
  · obtain ⟨s₁, σ₁, H₁, E1, I1, hx, hE⟩ := q
    exact caught I1 stk hfr O hg hx (fun c o H' z => hE c o H' z) hh hdb
end
end L2
/-! PLACES: what the defs about places keep -/
namespace Sp2
open PySem PySem.Spec L2 Mth Sp1
def placeL (n : Int) : List V → Bool
  | [.int a, .int b] => lowB a b && (decide (0 ≤ a) && decide (a ≤ n * b))
  | _ => false
def placeV (n : Int) (H : Hp) : V → Bool
  | .ref p => match H p with
    | some (.tup xs) => placeL n xs
    | _ => false
  | _ => false
theorem lowV_inv {H : Hp} {x : V} (h : lowV H x = true) : ∃ p a b, x = .ref p ∧ H p = some (.tup [.int a, .int b]) ∧ Low a b := by
  unfold lowV at h
  split at h
  · split at h
    · rename_i p _ xs e
      unfold lowL at h
      split at h
      · rename_i a b
        unfold lowB at h
        rw [Bool.and_eq_true, decide_eq_true_eq, decide_eq_true_eq] at h
        exact ⟨p, a, b, rfl, e, h.1, h.2⟩
      · cases h
    · cases h
  · cases h
theorem placeV_tup {n : Int} {H : Hp} {p : Addr} {a b : Int} (e : H p = some (.tup [.int a, .int b])) : placeV n H (.ref p) = (lowB a b && (decide (0 ≤ a) && decide (a ≤ n * b))) := by
  simp only [placeV, e, placeL]
theorem lowV_two {H : Hp} {p : Addr} {a b : Int} (e : H p = some (.tup [.int a, .int b])) : lowV H (.ref p) = lowB a b := by
  simp only [lowV, e, lowL]
theorem placeV_low {n : Int} {H : Hp} {x : V} (h : lowV H x = false) : placeV n H x = false := by
  unfold placeV
  split
  · split
    · rename_i p _ xs e
      unfold placeL
      split
      · rename_i a b
        rw [lowV_two e] at h
        rw [h, Bool.false_and]
      · rfl
    · rfl
  · rfl
theorem low_B {a b : Int} (h : Low a b) : lowB a b = true := by
  unfold lowB
  rw [decide_eq_true h.pos, decide_eq_true h.one]
  rfl
theorem placeV_of {n : Int} {H : Hp} {p : Addr} {a b : Int} (e : H p = some (.tup [.int a, .int b])) (h : Low a b) (h0 : 0 ≤ a) (h1 : a ≤ n * b) : placeV n H (.ref p) = true := by
  rw [placeV_tup e, low_B h, decide_eq_true h0, decide_eq_true h1]
  rfl
theorem placeV_inv {n : Int} {H : Hp} {x : V} (h : placeV n H x = true) : ∃ p a b, x = .ref p ∧ H p = some (.tup [.int a, .int b]) ∧ Low a b ∧ 0 ≤ a ∧ a ≤ n * b := by
  cases hl : lowV H x with
  | false =>
    rw [placeV_low hl] at h
    cases h
  | true =>
    obtain ⟨p, a, b, rfl, e, lw⟩ := lowV_inv hl
    rw [placeV_tup e, low_B lw, Bool.true_and, Bool.and_eq_true, decide_eq_true_eq, decide_eq_true_eq] at h
    exact ⟨p, a, b, rfl, e, lw, h.1, h.2⟩
def spLast : Sp := fun vs H Q _ => ∃ (p : Addr) (xs : List V), vs = [.ref p] ∧ H p = some (.lst xs) ∧ Q (.int ((xs.length : Int) - 1)) H
def spIsPlace : Sp := fun vs H Q _ => ∃ (p : Addr) (xs : List V) (x : V), vs = [.ref p, x] ∧ H p = some (.lst xs) ∧ xs.length ≤ 100 ∧ Thing H x ∧ Q (.bl (placeV ((xs.length : Int) - 1) H x)) H
def spLook (C : Addr) : Sp := fun vs H Q E => ∃ (p : Addr) (xs : List V) (x : V), vs = [.ref p, x] ∧ H p = some (.lst xs) ∧ xs.length ≤ 100 ∧ Thing H x ∧ (placeV ((xs.length : Int) - 1) H x = false → E (.ref C) none H) ∧ (placeV ((xs.length : Int) - 1) H x = true → Q .non H)
def shareB (a b c d : Int) : Bool := if c * b < a * d then !decide ((c / d + 1) * b < a * 1) else !decide ((a / b + 1) * d < c * 1)
structure Small (a b : Int) : Prop where
  pos : 0 < b
  ba : bits a ≤ 1000
  bb : bits b ≤ 1000
def spShare : Sp := fun vs H Q _ => ∃ (p q : Addr) (a b c d : Int), vs = [.ref p, .ref q] ∧ H p = some (.tup [.int a, .int b]) ∧ H q = some (.tup [.int c, .int d]) ∧ Small a b ∧ Small c d ∧ ∀ H', Same H H' → Q (.bl (shareB a b c d)) H'
def spIn (C : Addr) : Sp := fun vs H Q E => ∃ (p : Addr) (xs : List V) (x y : V), vs = [.ref p, x, y] ∧ H p = some (.lst xs) ∧ xs.length ≤ 100 ∧ Thing H x ∧ Thing H y ∧
  ((placeV ((xs.length : Int) - 1) H x = false ∨ placeV ((xs.length : Int) - 1) H y = false) → E (.ref C) none H) ∧
  (placeV ((xs.length : Int) - 1) H x = true → placeV ((xs.length : Int) - 1) H y = true → ∃ (u v : Addr) (a b c d : Int), x = .ref u ∧ y = .ref v ∧ H u = some (.tup [.int a, .int b]) ∧ H v = some (.tup [.int c, .int d]) ∧ Small a b ∧ Small c d ∧ ∀ H', Same H H' → Q (.bl (shareB a b c d)) H')
def spRefused : Sp := fun vs H Q _ => ∃ (p : Addr) (xs : List V) (x y : V), vs = [.ref p, x, y] ∧ H p = some (.lst xs) ∧ xs.length ≤ 100 ∧ Thing H x ∧ Thing H y ∧
  (placeV ((xs.length : Int) - 1) H x = false ∨ placeV ((xs.length : Int) - 1) H y = false) ∧ Q (.bl true) H
/-- a line in the heap -/
structure LineAt (H : Hp) (l : Addr) (qs : List (Addr × Int × Int)) : Prop where
  lst : H l = some (.lst (qs.map fun q => V.ref q.1))
  crn : ∀ q ∈ qs, H q.1 = some (.tup [.int q.2.1, .int q.2.2]) ∧ bits q.2.1 ≤ 50 ∧ bits q.2.2 ≤ 50
theorem LineAt.mono {H H' : Hp} {l : Addr} {qs : List (Addr × Int × Int)} (L : LineAt H l qs) (s : Same H H') : LineAt H' l qs := ⟨s _ _ L.lst, fun q h => ⟨s _ _ (L.crn q h).1, (L.crn q h).2⟩⟩
def spLine : Sp := fun vs H Q _ => ∃ (pn : Addr) (ns : List Int) (m : Nat), vs = [.ref pn, .int (m : Int)] ∧ H pn = some (.lst (ns.map V.int)) ∧ 1 ≤ m ∧ m ≤ 10 ∧ 4 + 2 * m ≤ ns.length ∧
  ∀ (l : Addr) (qs : List (Addr × Int × Int)) (H' : Hp), LineAt H' l qs → 1 ≤ qs.length → qs.length ≤ m → Same H H' → Q (.ref l) H'
def spPlaceL : Sp := fun vs H Q _ => ∃ (p : Addr) (xs : List V) (v n : Int), vs = [.ref p, .int v, .int n] ∧ H p = some (.lst xs) ∧ 1 ≤ xs.length ∧ xs.length ≤ 20 ∧ 0 ≤ n ∧
  ∀ (q : Addr) (t b : Int) (H' : Hp), Low t b → 0 ≤ t → t ≤ ((xs.length : Int) - 1) * b → bits t ≤ 100 → bits b ≤ 60 → Same H H' → H' q = some (.tup [.int t, .int b]) → Q (.ref q) H'
def spSecond : Sp := fun vs H Q _ => ∃ (p pl pn : Addr) (x : V) (xs : List V) (a b : Int) (ns : List Int), vs = [.ref p, .ref pl, .ref pn] ∧ H p = some (.lst (x :: xs)) ∧ xs.length ≤ 15 ∧ H pl = some (.tup [.int a, .int b]) ∧ Low a b ∧ 0 ≤ a ∧ a ≤ (xs.length : Int) * b ∧ bits a ≤ 100 ∧ bits b ≤ 60 ∧
  H pn = some (.lst (ns.map V.int)) ∧ 5 ≤ ns.length ∧ (∀ n ∈ ns, 0 ≤ n) ∧
  ∀ (q : Addr) (t d : Int) (H' : Hp), Low t d → 0 ≤ t → t ≤ (xs.length : Int) * d → bits t ≤ 200 → bits d ≤ 60 → Same H H' → H' q = some (.tup [.int t, .int d]) → Q (.ref q) H'
def dueAt (a b c d : Int) (k : Nat) : Bool := decide ((k : Int) * b ≤ a) && decide (a ≤ ((k : Int) + 1) * b) && (decide ((k : Int) * d ≤ c) && decide (c ≤ ((k : Int) + 1) * d))
def dueB (n : Nat) (a b c d : Int) : Bool := (List.range n).any (dueAt a b c d)
def spDue : Sp := fun vs H Q _ => ∃ (p u v : Addr) (xs : List V) (a b c d : Int), vs = [.ref p, .ref u, .ref v] ∧ H p = some (.lst xs) ∧ xs.length ≤ 100 ∧ H u = some (.tup [.int a, .int b]) ∧ H v = some (.tup [.int c, .int d]) ∧ Q (.bl (dueB xs.length a b c d)) H
/-! ### small helps -/
theorem lt64s {n : Int} (h0 : -1000 ≤ n) (h1 : n ≤ 1000) : -(2 ^ 64) < n ∧ n < 2 ^ 64 := by
  have e : (2 : Int) ^ 64 = 18446744073709551616 := by decide
  rw [e]
  omega
theorem at_int {ns : List Int} {k : Int} (j : Nat) (e : k = (j : Int)) (h : j < ns.length) : atI (ns.map V.int) k = some (.int ns[j]) := by
  subst e
  exact atI_nat (by rw [List.getElem?_map, List.getElem?_eq_getElem h]; rfl)
theorem at_head (x : V) (xs : List V) : atI (x :: xs) 0 = some x := atI_nat (j := 0) rfl
theorem cut_from {ns : List Int} (k : Nat) : cutV (ns.map V.int) (some (k : Int)) none = (ns.drop k).map V.int := by
  unfold cutV
  rw [HT.sIx_nat, HT.sIx_none, List.length_map, ← List.map_drop]
  by_cases h : k ≤ ns.length
  · rw [Nat.min_eq_left h, List.take_of_length_le (by rw [List.length_map, List.length_drop]; exact Nat.le_refl _)]
  · rw [Nat.min_eq_right (by omega), List.drop_eq_nil_of_le (Nat.le_refl _), List.drop_eq_nil_of_le (by omega)]
    simp
theorem bits_small {n : Int} (h0 : -1000 ≤ n) (h1 : n ≤ 1000) : bits n ≤ 10 := by
  refine bits_of (n := 10) ?_
  show _ < 1024
  omega
theorem mm_lo {u v : Int} (h : 0 ≤ v) : 0 ≤ (if (if v < u then v else u) > 0 then (if v < u then v else u) else 0) := by
  split <;> omega
theorem mm_hi {u v : Int} (h : 0 ≤ v) : (if (if v < u then v else u) > 0 then (if v < u then v else u) else 0) ≤ v := by
  have hw : (if v < u then v else u) ≤ v := by split <;> omega
  generalize (if v < u then v else u) = w at hw ⊢
  split <;> omega
theorem mm_bits {u v : Int} (h : 0 ≤ v) (h1 : v ≤ 900) : bits (if (if v < u then v else u) > 0 then (if v < u then v else u) else 0) ≤ 10 := by
  have a := mm_lo (u := u) h
  have b := mm_hi (u := u) h
  exact bits_small (by omega) (by omega)
/-! ### the mathematics -/
theorem fl_le {a b : Int} (hb : 0 < b) : a / b * b ≤ a := by
  have h1 := Int.emod_nonneg a (show b ≠ 0 by omega)
  have h2 := Int.emod_add_mul_ediv a b
  rw [Int.mul_comm] at h2
  omega
theorem fl_lt {a b : Int} (hb : 0 < b) : a < (a / b + 1) * b := by
  have h1 := Int.emod_lt_of_pos a hb
  have h2 := Int.emod_add_mul_ediv a b
  rw [Int.add_mul, Int.one_mul, Int.mul_comm]
  omega
theorem fl_ge {a b k : Int} (hb : 0 < b) (h : k * b ≤ a) : k ≤ a / b := (Int.le_ediv_iff_mul_le hb).mpr h
theorem fl_nn {a b : Int} (hb : 0 < b) (h : 0 ≤ a) : 0 ≤ a / b := Int.ediv_nonneg h (by omega)
/-- a / b the lower one -/
theorem due_low {n : Nat} {a b c d : Int} (hb : 0 < b) (hd : 0 < d) (h0 : 0 ≤ a) (h1 : a < (n : Int) * b) (hle : a * d ≤ c * b) : dueB n a b c d = !decide ((a / b + 1) * d < c * 1) := by
  rw [Bool.eq_iff_iff]
  unfold dueB dueAt
  simp only [List.any_eq_true, List.mem_range, Bool.and_eq_true, decide_eq_true_eq, Bool.not_eq_true', decide_eq_false_iff_not, Int.mul_one, Int.not_lt]
  constructor
  · rintro ⟨k, _, ⟨k1, _⟩, _, k4⟩
    have q := fl_ge hb k1
    have q2 : ((k : Int) + 1) * d ≤ (a / b + 1) * d := Int.mul_le_mul_of_nonneg_right (by omega) (by omega)
    omega
  · intro h
    have q0 := fl_nn hb h0
    have ql := fl_le (a := a) hb
    have qu := fl_lt (a := a) hb
    have qn : a / b < (n : Int) := Int.ediv_lt_of_lt_mul hb h1
    refine ⟨(a / b).toNat, by omega, ?_⟩
    have e : (((a / b).toNat : Nat) : Int) = a / b := by omega
    rw [e]
    refine ⟨⟨ql, by omega⟩, ?_, h⟩
    have q3 : a / b * b * d ≤ c * b := Int.le_trans (Int.mul_le_mul_of_nonneg_right ql (by omega)) hle
    have q4 : a / b * d * b ≤ c * b := by
      have : a / b * b * d = a / b * d * b := by grind
      omega
    exact Int.le_of_mul_le_mul_right q4 hb
theorem due_swap (n : Nat) (a b c d : Int) : dueB n a b c d = dueB n c d a b := by
  unfold dueB
  congr 1
  funext k
  unfold dueAt
  rw [Bool.and_comm]
theorem due_share {n : Nat} {a b c d : Int} (hb : 0 < b) (hd : 0 < d) (h0 : 0 ≤ a) (h1 : a < (n : Int) * b) (h2 : 0 ≤ c) (h3 : c < (n : Int) * d) : dueB n a b c d = shareB a b c d := by
  unfold shareB
  split
  · rename_i h
    rw [due_swap, due_low hd hb h2 h3 (by omega)]
  · rename_i h
    rw [due_low hb hd h0 h1 (by omega)]
theorem low_add {t b n : Int} (h : Low t b) : Low (n * b + t) b := by
  refine ⟨h.pos, ?_⟩
  have e : Int.gcd (n * b + t) b = Int.gcd t b := by
    rw [Int.add_comm, Int.gcd_comm, Int.gcd_comm t b]
    exact Int.gcd_add_mul_right_right b t n
  rw [e]
  exact h.one
end Sp2
namespace L2
open PySem PySem.Spec PyProof.Rows
theorem op_isnotB {X : Cx} : OpR X (compareOp .IsNot) (fun x y H Q => ∃ a b, x = .bl a ∧ y = .bl b ∧ Q (.bl (!(a == b))) H) := by
  intro pins s σ H x y v u Q I rx ry h
  obtain ⟨a, b, rfl, rfl, q⟩ := h
  cases rx
  cases ry
  refine wpAny_isNot_plain (by cases a <;> cases b <;> rfl) ⟨.bl _, H, I, ?_, q⟩
  cases a <;> cases b <;> rfl
end L2
/-! COMPREHENSIONS of one clause without a test, over the hand layer -/
namespace L2
open PySem PySem.Spec PyProof.Rows
/-- the context of a comprehension's block -/
abbrev Cx.blk (X : Cx) (N' : List Str) (scope : Scope) (cl : List (Str × Addr)) (fp : List Addr) (s₀ : Shared) (H₀ : Hp) : Cx :=
  { X with N := N', s₀ := s₀, H₀ := H₀, env := compEnvC scope cl s₀.heap.objs.size X.env, outer := X.stack, ex := fp, fn := fun _ => false, pn := [], xe := fun _ _ => False }
theorem Un.same {fs ex : List Addr} {H H' : Hp} {h h1 h2 : Heap} {C : Addr} (un : Un fs ex H H' h h1) (sb : Heap.SameBut C h1 h2) (hC : h.objs.size ≤ C) : Un fs ex H H' h h2 := by
  have ne : ∀ b o, h.get? b = some o → b ≠ C := fun b o e => Nat.ne_of_lt (Nat.lt_of_lt_of_le (Heap.lt_size e) hC)
  refine ⟨fun b o e n hb hx => (sb.2 b (ne b o e)).trans (un.keep b o e n hb hx), fun b o e n hb hx => ?_, un.free, fun b o e hx => ?_, un.tups, un.frzs, un.tbls⟩
  · obtain ⟨sl, q⟩ := un.slot b o e n hb hx
    exact ⟨sl, (sb.2 b (ne b o e)).trans q⟩
  · obtain ⟨o', q⟩ := un.there b o e hx
    exact ⟨o', (sb.2 b (ne b o e)).trans q⟩
theorem HOk.same {P : Program} {w : World} {H : Hp} {h1 h2 : Heap} {C : Addr} (hok : HOk P w H h1) (sb : Heap.SameBut C h1 h2) (hC : H C = none) : HOk P w H h2 := fun a o e => by
  refine (hok a o e).stay (fun b u hb q => (sb.2 b ?_).trans q) (fun _ q => q) fun _ _ q => q
  rintro rfl
  rcases hb with rfl | hb
  · rw [hC] at e
    cases e
  · rw [hC] at hb
    cases hb
theorem lookup_mem {α : Type} {y : Str} {c : α} : ∀ {l : List (Str × α)}, l.lookup y = some c → (y, c) ∈ l
  | [], h => by simp at h
  | (n, d) :: r, h => by
    rw [List.lookup_cons] at h
    cases e : y == n with
    | true =>
      rw [e] at h
      cases h
      rw [beq_iff_eq.mp e]
      exact List.mem_cons_self
    | false =>
      rw [e] at h
      exact List.mem_cons_of_mem _ (lookup_mem h)
/-- what is asked of the names: x the clause's own name; fv the free ones with their slots -/
structure CompN (X : Cx) (scope : Scope) (cl : List (Str × Addr)) (x : Str) (fv : List (Str × Nat)) : Prop where
  clos : closureFor scope X.env = pure cl
  kind : scope.kind = .function
  cell : ∀ y ∈ scope.names, y.2 ≠ .cell
  names : ∀ y ∈ scope.names, y.2 = .local → scope.names.lookup y.1 = some .local
  own : scope.names.lookup x = some .local
  cells : ∀ p ∈ cl, X.env.cells.lookup p.1 = some p.2
  has : ((relabel scope X.env).names.all fun q => !(q.2 == .cell || q.2 == .free) || (cl.lookup q.1).isSome) = true
  nd : (x :: fv.map (·.1)).Nodup
  slot : ∀ p ∈ fv, X.N[p.2]? = some p.1 ∧ X.env.kindOf p.1 = some .cell ∧ Vis X.env.scope p.1 ∧ (cl.lookup p.1).isSome = true ∧ ((relabel scope X.env).names.lookup p.1 = some .cell)
  stk : X.stack = X.env :: X.outer ∧ X.env.frame = some X.env.locals
  noex : X.ex = []
def fvs (fv : List (Str × Nat)) (σ : St) : St := fv.map fun p => (σ[p.2]?).join
/-- the reading of a comprehension: W the invariant by the turn, a measure, what the list holds -/
def tComp (wi : TI) (fv : List (Str × Nat)) (te : TE) : TE := fun σ H Q => wi σ H fun J H1 => ∀ p, H1 p = none → ∃ W : Nat → Nat → List V → Hp → Prop, (∃ m, W 0 m [] (upd H1 p (.lst []))) ∧ ∀ i m acc H2, W i m acc H2 →
  H2 p = some (.lst acc) ∧ acc.length < sizeLine ∧ ((J.stop i H2 ∧ Q (.ref p) H2) ∨ (J.go i H2 ∧ ∀ x H3, J.yld i H2 x H3 → te (some x :: fvs fv σ) H3 fun y H4 => H4 p = some (.lst acc) ∧ ∃ m', m' < m ∧ W (i + 1) m' (acc ++ [y]) (upd H4 p (.lst (acc ++ [y])))))
section
variable {X : Cx} {scope : Scope} {cl : List (Str × Addr)} {x : Str} {fv : List (Str × Nat)} {elt iter : Expr} {px pos : Pos} {te : TE}
theorem blk_ok {pins : List (Addr × Obj)} {σ : St} {H : Hp} {s : Shared} {fp : List Addr} (C : CompN X scope cl x fv) (I : Inv X pins σ H s) (hf : ∀ b ∈ fp, FpOk X pins H b) (ho : ∀ b ∈ fp, b < s.heap.objs.size) : (X.blk (x :: fv.map (·.1)) scope cl fp s H).Ok := by
  have hcl : ∀ y c, cl.lookup y = some c → X.env.cells.lookup y = some c := fun y c h => C.cells _ (lookup_mem h)
  have old : ∀ b ∈ fp, X.s₀.heap.objs.size ≤ b := fun b hb => by
    rcases (hf b hb).2.2.2.1 with z | z
    · rw [C.noex] at z
      cases z
    · exact z
  refine ⟨I.ok.mod, by show (relabel scope X.env).kind = _; exact C.kind, I.ok.glob, I.ok.blt, Nat.le_refl _, fun y z c h1 h2 => I.ok.inj y z c (hcl y c h1) (hcl z c h2), fun y hy => ?_, (fun y c h => by cases h), I.ok.hd, I.ok.frames, .inl rfl, fun b hb => ?_, fun b o e => I.bs b o e, Nat.le_trans I.ok.bsz I.sz, fun b o e hb => ?_, fun b hb hm => ?_, I.stack, I.stkFree⟩
  · have q := C.has
    rw [List.all_eq_true] at q
    have hm : ∃ k, (y, k) ∈ (relabel scope X.env).names ∧ (k = .cell ∨ k = .free) := by
      rcases hy with hy | hy
      · exact ⟨_, lookup_mem hy, .inl rfl⟩
      · exact ⟨_, lookup_mem hy, .inr rfl⟩
    obtain ⟨k, hk, hk2⟩ := hm
    have q2 := q _ hk
    have q3 : (cl.lookup y).isSome = true := by
      rcases hk2 with rfl | rfl
      · simpa using q2
      · simpa using q2
    exact Option.isSome_iff_exists.mp q3
  · obtain ⟨f0, f1, f2, f3, f4, f5⟩ := hf b hb
    refine ⟨?_, fun y c h => f4 y c (hcl y c h)⟩
    exact Nat.ne_of_lt (ho b hb)
  · have z := Heap.lt_size e
    have z2 := old b hb
    exact absurd (Nat.lt_of_lt_of_le z (Nat.le_trans I.ok.bsz z2)) (Nat.lt_irrefl _)
  · obtain ⟨f0, f1, f2, f3, f4, f5⟩ := hf b hb
    rcases List.mem_cons.mp (I.stkSub b hm) with z | z
    · exact f1 z
    · exact f2 z
/-- the block begins -/
theorem blk_inv {pins : List (Addr × Obj)} {σ : St} {H : Hp} {s s4 : Shared} {fp : List Addr} (C : CompN X scope cl x fv) (I : Inv X pins σ H s) (hf : ∀ b ∈ fp, FpOk X pins H b) (ho : ∀ b ∈ fp, b < s.heap.objs.size)
    (hs : s4.os = s.os ∧ s4.gens = s.gens) (ns : s4.heap.Ns s.heap.objs.size fun _ => none) (kp : ∀ b o, s.heap.get? b = some o → s4.heap.get? b = some o) :
    Inv (X.blk (x :: fv.map (·.1)) scope cl fp s H) [] (none :: fvs fv σ) H s4 := by
  have hcl : ∀ y c, cl.lookup y = some c → X.env.cells.lookup y = some c := fun y c h => C.cells _ (lookup_mem h)
  refine ⟨blk_ok C I hf ho, hs.1, by rw [hs.2]; exact I.bare, Un.kept kp, ⟨_, ns, fun i y v e1 e2 e3 => ?_⟩, fun y c h => ?_, I.hok.fresh (Nat.le_refl _), fun y c h => I.freeC y c (hcl y c h), fun p hp => by simp at hp, I.hok.kept kp, by simp [fvs]⟩
  · cases i with
    | zero => simp at e2
    | succ j =>
      have e1' : (fv.map (·.1))[j]? = some y := by simpa using e1
      have e2' : (fvs fv σ)[j]? = some (some v) := by simpa using e2
      rw [List.getElem?_map] at e1'
      unfold fvs at e2'
      rw [List.getElem?_map] at e2'
      cases hq : fv[j]? with
      | none =>
        rw [hq] at e1'
        cases e1'
      | some q =>
        rw [hq] at e1' e2'
        have ey : q.1 = y := Option.some.inj e1'
        have ev : (σ[q.2]?).join = some v := Option.some.inj e2'
        have hm : q ∈ fv := List.mem_of_getElem? hq
        obtain ⟨s1, s2, s3, s4', s5⟩ := C.slot q hm
        have ev2 : σ[q.2]? = some (some v) := by
          cases hz : σ[q.2]? with
          | none =>
            rw [hz] at ev
            cases ev
          | some z =>
            rw [hz] at ev
            have ev' : z = some v := ev
            rw [ev']
        obtain ⟨m, hn, hl⟩ := I.loc
        obtain ⟨u, r, lk⟩ := hl q.2 q.1 v s1 ev2 s3
        obtain ⟨c, hc⟩ := Option.isSome_iff_exists.mp s4'
        refine ⟨u, r, .inr ⟨.inl (by rw [← ey]; exact s5), c, by rw [← ey]; exact hc, ?_⟩⟩
        rcases lk with ⟨k, _⟩ | ⟨_, c', hc', z⟩
        · rw [s2] at k
          cases k
        · rw [hcl _ _ hc] at hc'
          cases hc'
          obtain ⟨o, ho', hd⟩ := z
          exact ⟨o, kp _ _ ho', hd⟩
  · obtain ⟨v, o, ho', hd⟩ := I.cell y c (hcl y c h)
    exact ⟨v, o, kp _ _ ho', hd⟩
/-- the block, to its end -/
theorem blk_run {pins : List (Addr × Obj)} {σ : St} {H2 : Hp} {s2 : Shared} {it : Addr} {fp : List Addr} {tn : Nat → Heap → Prop} {J : It} {RR : Value → Addr → Result → Shared → Prop} {E : Value → Shared → Prop} {Qf : V → Hp → Prop}
    (hcalm : X.calm = true) (C : CompN X scope cl x fv) (I2 : Inv X pins σ H2 s2) (T : Turn X.prog X.w X.K (.Name x px) J fp it tn) (st : tn 0 s2.heap) (f2 : ∀ b ∈ fp, FpOk X pins H2 b)
    (rd : ∀ p, H2 p = none → ∃ W : Nat → Nat → List V → Hp → Prop, (∃ m, W 0 m [] (upd H2 p (.lst []))) ∧ ∀ i m acc H2, W i m acc H2 →
      H2 p = some (.lst acc) ∧ acc.length < sizeLine ∧ ((J.stop i H2 ∧ Qf (.ref p) H2) ∨ (J.go i H2 ∧ ∀ x H3, J.yld i H2 x H3 → te (some x :: fvs fv σ) H3 fun y H4 => H4 p = some (.lst acc) ∧ ∃ m', m' < m ∧ W (i + 1) m' (acc ++ [y]) (upd H4 p (.lst (acc ++ [y]))))))
    (he : ∀ (s₀ : Shared) (H₀ : Hp), PE (X.blk (x :: fv.map (·.1)) scope cl fp s₀ H₀) elt te)
    (hRR : ∀ (p C : Addr) (H' : Hp) (s' : Shared), (∃ m, s'.heap.Ns C m) → C ≠ X.env.locals → H' C = none → X.s₀.heap.objs.size ≤ C → (∀ y c, X.env.cells.lookup y = some c → c ≠ C) → (∀ q ∈ X.pn ++ pins, q.1 ≠ C) → Inv X pins σ H' s' → Qf (.ref p) H' → RR (.ref p) C (.ok .next) s') :
    wpAny (model X.prog X.w) X.A (newList []) (fun acc s₃ => wpAny (model X.prog X.w) X.A (newFunctionEnv scope X.env.globals cl [] X.env.qual none .none (some X.env)) (fun cenv s₄ =>
      codeAny (model X.prog X.w) X.A (.compStart (.ListComp elt [⟨.Name x px, iter, [], 0⟩] scope pos) 0 (.ref it) acc { cenv with scope := relabel scope X.env }) (RR acc cenv.locals) s₄) E s₃) E s2 := by
  refine wpAny_newObj_type ?_
  -- the new list
  have hfresh := I2.fresh
  have I3 : Inv X pins σ (upd H2 s2.heap.objs.size (.lst [])) { s2 with heap := s2.heap.push { cls := .type "list", data := .seq ([] : List Value).toArray } } :=
    I2.laid (t' := s2.toks) (fun b u q => Heap.get?_push_of_some _ q) (Nat.le_refl _) ⟨Nat.zero_le _, [], 0, .nil, Heap.get?_push_size _ rfl⟩
  generalize hs3 : ({ s2 with heap := s2.heap.push { cls := .type "list", data := .seq ([] : List Value).toArray } } : Shared) = s3 at I3 ⊢
  have hp3 : s2.heap.objs.size < s3.heap.objs.size := by rw [← hs3]; exact Nat.lt_of_lt_of_le (Nat.lt_succ_self _) (Nat.le_of_eq (Heap.size_push _ _).symm)
  have k23 : ∀ b o, s2.heap.get? b = some o → s3.heap.get? b = some o := fun b o e => by rw [← hs3]; exact Heap.get?_push_of_some _ e
  have fpo : ∀ b ∈ fp, b < s2.heap.objs.size := fun b hb => by
    obtain ⟨o, e, _⟩ := T.obj 0 _ st b hb
    exact Heap.lt_size e
  have f3 : ∀ b ∈ fp, FpOk X pins (upd H2 s2.heap.objs.size (.lst [])) b := fun b hb => ⟨by rw [upd_ne (Nat.ne_of_lt (fpo b hb))]; exact (f2 b hb).1, (f2 b hb).2⟩
  refine wpAny_newFunctionEnv C.cell (by intro y hy; simp at hy) (fun h1 hns1 hsb1 => ?_) C.kind
  have kp : ∀ b o, s3.heap.get? b = some o → h1.get? b = some o := fun b o e => (hsb1.2 b (Nat.ne_of_lt (Heap.lt_size e))).trans (Heap.get?_push_of_some _ e)
  have I4 := blk_inv (s4 := { s3 with heap := h1, toks := s3.toks + ([] : List (Str × Value)).length }) C I3 f3 (fun b hb => Nat.lt_trans (fpo b hb) hp3) ⟨rfl, rfl⟩ hns1 kp
  have st4 : tn 0 h1 := T.keep 0 _ _ st fun b _ o e => kp b o (k23 b o e)
  obtain ⟨W, ⟨m0, w0⟩, step⟩ := rd _ hfresh
  have loop : codeAny (model X.prog X.w) X.A (.compLoop (.ListComp elt [⟨.Name x px, iter, [], 0⟩] scope pos) 0 (.ref it) (.ref s2.heap.objs.size) (compEnvC scope cl s3.heap.objs.size X.env)) (RR (.ref s2.heap.objs.size) s3.heap.objs.size)
      { s3 with heap := h1, toks := s3.toks + ([] : List (Str × Value)).length } := by
    refine codeAny_compLoop_list (fun n s => ∃ i acc σv H', Inv (X.blk (x :: fv.map (·.1)) scope cl fp s3 (upd H2 s2.heap.objs.size (.lst []))) [] (σv :: fvs fv σ) H' s ∧ tn i s.heap ∧ (∀ b ∈ fp, H' b = none) ∧ W i n acc H') ?_ m0 ⟨0, [], none, _, I4, st4, fun b hb => (f3 b hb).1, w0⟩
    rintro n s ⟨i, acc, σv, H', I', st', fr', w'⟩
    obtain ⟨hp, hlen, alt⟩ := step i n acc H' w'
    have fpk : ∀ {H5 : Hp}, (∀ b ∈ fp, H5 b = none) → ∀ b ∈ fp, FpOk (X.blk (x :: fv.map (·.1)) scope cl fp s3 (upd H2 s2.heap.objs.size (.lst []))) [] H5 b := fun h5 b hb =>
      ⟨h5 b hb, (I'.ok.exf b hb).1, I'.ok.exfs b hb, .inl hb, fun y c e => (I'.ok.exf b hb).2 y c e, fun q hq => by simp at hq⟩
    rcases alt with ⟨stop, qf⟩ | ⟨go, turn⟩
    · refine wpAny_mono (T.done (X.blk (x :: fv.map (·.1)) scope cl fp s3 (upd H2 s2.heap.objs.size (.lst []))) rfl rfl rfl hcalm i [] s _ H' (fun _ _ => False) I' (fpk fr') st' stop) (fun r s5 ⟨hr, I5⟩ => ?_) fun _ _ z => False.elim z
      subst hr
      refine hRR _ _ H' s5 (let ⟨m, hn, _⟩ := I5.loc; ⟨m, hn⟩) (Nat.ne_of_gt I3.lt) I5.free I3.sz (fun y c e => ?_) (fun q hq => ?_) ?_ qf
      · obtain ⟨v, z⟩ := I3.cell y c e
        exact Nat.ne_of_lt z.lt
      · exact Nat.ne_of_lt (Heap.lt_size (I3.pin q hq).1)
      · exact I3.call' (s' := s5) (ch := fp) I5.os I5.base I5.hok I5.bare fun b hb => ⟨(f2 b hb).2.2.2.1, (f2 b hb).2.1, (f2 b hb).2.2.2.2.1, (f2 b hb).2.2.2.2.2⟩
    · refine wpAny_mono (T.item (X.blk (x :: fv.map (·.1)) scope cl fp s3 (upd H2 s2.heap.objs.size (.lst []))) rfl rfl rfl hcalm i [] s _ H' (fun _ _ => False) I' (fpk fr') st' go) (fun r s5 ⟨u, hr, h5⟩ => ?_) fun _ _ z => False.elim z
      subst hr
      have e5 : assign (.Name x px) (compEnvC scope cl s3.heap.objs.size X.env) u = (letOwnedTupleGo (.Name x px) (.ref it) u >>= fun _ => assign (.Name x px) (compEnvC scope cl s3.heap.objs.size X.env) u) := by
        rw [show letOwnedTupleGo (.Name x px) (.ref it) u = pure () from rfl]
        rfl
      show wpAny _ _ (assign (.Name x px) (compEnvC scope cl s3.heap.objs.size X.env) u) _ _ _
      rw [e5]
      refine wpAny_bind (wpAny_mono h5 (fun _ s6 ⟨y, H6, I6, r6, y6, st6, fr6⟩ => ?_) fun _ _ z => False.elim z)
      have I6' := I6.pinned (fpk fr6) (T.obj _ _ st6)
      have lx : (relabel scope X.env).names.lookup x = some .local := lookup_relabel_local C.own
      refine wpAny_mono (pg_name (X := X.blk (x :: fv.map (·.1)) scope cl fp s3 (upd H2 s2.heap.objs.size (.lst []))) (i := 0) C.nd rfl (.inl lx) (.inr lx) _ s6 _ H6 y u (fun σ7 H7 => σ7 = some y :: fvs fv σ ∧ H7 = H6) I6' r6 ⟨rfl, rfl⟩) (fun _ s7 ⟨σ7, H7, I7, e7, e7'⟩ => ?_) fun _ _ z => False.elim z
      subst e7 e7'
      refine wpAny_mono (he s3 _ _ s7 _ _ _ I7 (turn y _ y6)) (fun v8 s8 ⟨y8, H8, I8, r8, q8, m', hm', w8⟩ => ?_) fun _ _ z => False.elim z
      refine wpAny_mono (mt_append (X := X.blk (x :: fv.map (·.1)) scope cl fp s3 (upd H2 s2.heap.objs.size (.lst []))) _ s8 _ H8 (.ref s2.heap.objs.size) [y8] (.ref s2.heap.objs.size) [v8] (fun _ H9 => H9 = upd H8 s2.heap.objs.size (.lst (acc ++ [y8]))) I8 rfl (.cons r8 .nil) ⟨_, acc, y8, rfl, rfl, q8, hlen, rfl⟩) (fun _ s9 ⟨_, H9, I9, _, e9⟩ => ?_) fun _ _ z => False.elim z
      subst e9
      refine ⟨m', hm', i + 1, acc ++ [y8], some y, _, I9.unpinned, T.keep _ _ _ st6 fun b hb o e => (I9.pin (b, o) (List.mem_append_right _ (List.mem_append_right _ (mem_pinsAt hb e)))).1, fun b hb => ?_, w8⟩
      obtain ⟨o, e, d⟩ := T.obj _ _ st6 b hb
      exact (I9.pin (b, o) (List.mem_append_right _ (List.mem_append_right _ (mem_pinsAt hb e)))).2.1
  exact codeAny_compStart_list loop (T.self _ 0 _ _ _ st4 loop)
/-- [elt for x in iter] -/
theorem pe_comp {wi : TI} (hcalm : X.calm = true) (C : CompN X scope cl x fv) (hi : PI X (.Name x px) iter wi) (he : ∀ (fp : List Addr) (s₀ : Shared) (H₀ : Hp), PE (X.blk (x :: fv.map (·.1)) scope cl fp s₀ H₀) elt te)
    (hs : ∀ v, foldedSetIterable iter X.env v = pure v := by intro _; rfl) : PE X (.ListComp elt [⟨.Name x px, iter, [], 0⟩] scope pos) (tComp wi fv te) := by
  intro pins s σ H Q I h
  rw [eval_ListComp]
  refine wpAny_comprehension_free (use := none) rfl hs C.clos C.kind C.names (wpAny_mono (hi pins s σ H _ I h) (fun v s1 h1 => wpAny_mono h1 (fun itv s2 h2 => ?_) fun _ _ z => z) fun _ _ z => z)
  obtain ⟨it, fp, tn, J, H2, rfl, I2, T, st2, f2, rd⟩ := h2
  refine blk_run (Qf := Q) hcalm C I2 T st2 f2 rd (he fp) fun p D H' s' ns nL nH n0 nC nP I8 q => ?_
  obtain ⟨m, hn⟩ := ns
  exact ⟨m, hn, fun h'' sb => ⟨.ref p, H', I8.turned (t' := s'.toks) (fun b o hb e => (sb.2 b hb).trans e) nH nL (.inr n0) nC nP, rfl, q⟩⟩
/-- y = [elt for x in iter] -/
theorem ps_setComp {wi : TI} {y : Str} {j : Nat} {py spos : Pos} (hcalm : X.calm = true) (C : CompN X scope cl x fv) (hN : X.N.Nodup) (hj : X.N[j]? = some y) (hy : X.env.scope.names.lookup y = some .local) (hi : PI X (.Name x px) iter wi) (he : ∀ (fp : List Addr) (s₀ : Shared) (H₀ : Hp), PE (X.blk (x :: fv.map (·.1)) scope cl fp s₀ H₀) elt te)
    (hsw : swapsWith (.ListComp elt [⟨.Name x px, iter, [], 0⟩] scope pos) (some (.Name y py)) spos.line X.env = pure true := by rfl)
    (hs : ∀ v, foldedSetIterable iter X.env v = pure v := by intro _; rfl) : PS X (.Assign [.Name y py] (.ListComp elt [⟨.Name x px, iter, [], 0⟩] scope pos) spos) (tAsg (tComp wi fv te) (gName j)) := by
  intro pins s σ H D I h
  rw [exec_Assign_Name_used _ _ _ _ hsw]
  refine wpAny_bind (wpAny_standAt (wpAny_bind ?_))
  show wpAny _ _ (do let _ ← comprehension (.ListComp elt [⟨.Name x px, iter, [], 0⟩] scope pos) scope X.env _ (newList []) false (eval iter X.env) (some (assign (.Name y py) X.env))) _ _ s
  refine wpAny_bind (wpAny_mono (wpAny_comprehension_free (use := some (assign (.Name y py) X.env)) (Q := fun _ s' => SP X pins D .next s') rfl hs C.clos C.kind C.names
    (wpAny_mono (hi pins s σ H _ I h) (fun v s1 h1 => wpAny_mono h1 (fun itv s2 h2 => ?_) fun _ _ z => z) fun _ _ z => z)) (fun _ s' hq => wpAny_pure (wpAny_pure hq)) fun _ _ z => z)
  obtain ⟨it, fp, tn, J, H2, rfl, I2, T, st2, f2, rd⟩ := h2
  refine blk_run (Qf := fun v H' => gName j v σ H' D.nx) hcalm C I2 T st2 f2 rd (he fp) fun p D' H' s' ns nL nH n0 nC nP I8 q => ?_
  obtain ⟨m, hn⟩ := ns
  show wpAny _ _ (assign (.Name y py) X.env (.ref p)) _ _ _
  refine wpAny_assign_Name (store_ok2 I8 hN hj (.inl hy) (v := .ref p) rfl (fun s9 I9 ⟨a, sb, ha⟩ => ?_) (.inr hy))
  have aD : D' ≠ a := by
    rintro rfl
    rcases ha with z | z
    · exact nL z
    · exact nC y _ z rfl
  exact ⟨m, hn.sameBut sb aD, fun h'' sb2 => ⟨_, H', I9.turned (t' := s9.toks) (fun b o hb e => (sb2.2 b hb).trans e) nH nL (.inr n0) nC nP, q⟩⟩
end
end L2
namespace L2
open PySem PySem.Spec PyProof.Rows
theorem comp_range {n : Nat} {lo : Int} {fv : List (Str × Nat)} {te : TE} {σ : St} {H1 : Hp} {Qp : Hp → Prop} {l : Addr} (Pv : Nat → List V → Hp → Prop) (h0 : Pv 0 [] (upd H1 l (.lst []))) (hp : ∀ i acc H2, i ≤ n → Pv i acc H2 → H2 l = some (.lst acc) ∧ acc.length < sizeLine)
    (hs : ∀ i acc H2 (K : VK), i < n → Pv i acc H2 → (∀ y H4, H4 l = some (.lst acc) → Pv (i + 1) (acc ++ [y]) (upd H4 l (.lst (acc ++ [y]))) → K y H4) → te (some (.int (lo + i)) :: fvs fv σ) H2 K) (hd : ∀ acc H2, Pv n acc H2 → Qp H2) :
    ∃ W : Nat → Nat → List V → Hp → Prop, (∃ m, W 0 m [] (upd H1 l (.lst []))) ∧ ∀ i m acc H2, W i m acc H2 →
      H2 l = some (.lst acc) ∧ acc.length < sizeLine ∧ (((Itr lo n).stop i H2 ∧ Qp H2) ∨ ((Itr lo n).go i H2 ∧ ∀ x H3, (Itr lo n).yld i H2 x H3 → te (some x :: fvs fv σ) H3 fun y H4 => H4 l = some (.lst acc) ∧ ∃ m', m' < m ∧ W (i + 1) m' (acc ++ [y]) (upd H4 l (.lst (acc ++ [y]))))) := by
  refine ⟨fun i m acc H2 => m = n - i ∧ i ≤ n ∧ Pv i acc H2, ⟨n, by simp, Nat.zero_le _, h0⟩, ?_⟩
  rintro i m acc H2 ⟨rfl, hi, p⟩
  refine ⟨(hp i acc H2 hi p).1, (hp i acc H2 hi p).2, ?_⟩
  by_cases hlt : i < n
  · refine .inr ⟨hlt, fun x H3 y => ?_⟩
    obtain ⟨e1, e2⟩ := y
    subst e1 e2
    exact hs i acc _ _ hlt p fun y H4 z1 z2 => ⟨z1, n - (i + 1), by omega, rfl, hlt, z2⟩
  · have e : i = n := by omega
    subst e
    exact .inl ⟨Nat.le_refl _, hd acc H2 p⟩
/-- the scope of a comprehension that is assigned -/
def setScope (s : Stmt) : Scope := match s with
  | .Assign _ (.ListComp _ _ sc _) _ => sc
  | _ => { kind := .function, names := [], isGenerator := false, isCoroutine := false }
end L2
namespace L2
open PySem PySem.Spec PyProof.Rows
theorem ix_listK {X : Cx} {K : PySem.W.Frag} (h : X.K = K) : IxR X (rIxL K) := h ▸ ix_list
theorem ix_tupK {X : Cx} {K : PySem.W.Frag} (h : X.K = K) : IxR X (rIxT K) := h ▸ ix_tup
end L2
namespace L2
open PySem PySem.Spec PyProof.Rows
theorem comp_list {K : PySem.W.Frag} {a : Addr} {xs : List V} {fv : List (Str × Nat)} {te : TE} {σ : St} {H1 : Hp} {Qp : Hp → Prop} {l : Addr} (Pv : Nat → List V → Hp → Prop) (h0 : Pv 0 [] (upd H1 l (.lst []))) (hp : ∀ i acc H2, i ≤ xs.length → Pv i acc H2 → SqL K H2 a xs ∧ H2 l = some (.lst acc) ∧ acc.length < sizeLine)
    (hs : ∀ i x acc H2 (Kc : VK), xs[i]? = some x → Pv i acc H2 → (∀ y H4, H4 l = some (.lst acc) → Pv (i + 1) (acc ++ [y]) (upd H4 l (.lst (acc ++ [y]))) → Kc y H4) → te (some x :: fvs fv σ) H2 Kc) (hd : ∀ acc H2, Pv xs.length acc H2 → Qp H2) :
    ∃ W : Nat → Nat → List V → Hp → Prop, (∃ m, W 0 m [] (upd H1 l (.lst []))) ∧ ∀ i m acc H2, W i m acc H2 →
      H2 l = some (.lst acc) ∧ acc.length < sizeLine ∧ (((Itl K a).stop i H2 ∧ Qp H2) ∨ ((Itl K a).go i H2 ∧ ∀ x H3, (Itl K a).yld i H2 x H3 → te (some x :: fvs fv σ) H3 fun y H4 => H4 l = some (.lst acc) ∧ ∃ m', m' < m ∧ W (i + 1) m' (acc ++ [y]) (upd H4 l (.lst (acc ++ [y]))))) := by
  refine ⟨fun i m acc H2 => m = xs.length - i ∧ i ≤ xs.length ∧ Pv i acc H2, ⟨xs.length, by simp, Nat.zero_le _, h0⟩, ?_⟩
  rintro i m acc H2 ⟨rfl, hi, p⟩
  obtain ⟨q1, q2, q3⟩ := hp i acc H2 hi p
  refine ⟨q2, q3, ?_⟩
  by_cases hlt : i < xs.length
  · refine .inr ⟨⟨xs, xs[i], q1, List.getElem?_eq_getElem hlt⟩, fun x H3 y => ?_⟩
    obtain ⟨e1, e2⟩ := y
    subst e1
    exact hs i x acc _ _ (e2 xs q1) p fun y H4 z1 z2 => ⟨z1, xs.length - (i + 1), by omega, rfl, hlt, z2⟩
  · have e : i = xs.length := by omega
    subst e
    exact .inl ⟨⟨xs, q1, Nat.le_refl _⟩, hd acc H2 p⟩
end L2
/-! == and != of tuples and lists at any depth -/
namespace L2
open PySem PySem.Spec PyProof.Rows
/-- what == tells of two things; n: how deep it looks -/
inductive Eqs (H : Hp) : Nat → V → V → Bool → Prop where
  | flat {n : Nat} {x y : V} (fx : flatV x = true) (fy : flatV y = true) : Eqs H n x y (eqV x y)
  | same {n : Nat} {p : Addr} : Eqs H n (.ref p) (.ref p) true
  | tups {n : Nat} {p q : Addr} {xs ys : List V} {e : Nat → Bool} (hne : p ≠ q) (hp : H p = some (.tup xs)) (hq : H q = some (.tup ys)) (he : ∀ j x y, xs[j]? = some x → ys[j]? = some y → Eqs H n x y (e j)) :
      Eqs H (n + 1) (.ref p) (.ref q) ((List.range (min xs.length ys.length)).all e && xs.length == ys.length)
  | lsts {n : Nat} {p q : Addr} {xs ys : List V} {e : Nat → Bool} (hne : p ≠ q) (hp : H p = some (.lst xs)) (hq : H q = some (.lst ys)) (hl : xs.length = ys.length) (he : ∀ j x y, xs[j]? = some x → ys[j]? = some y → Eqs H n x y (e j)) :
      Eqs H (n + 1) (.ref p) (.ref q) ((List.range xs.length).all e)
  | lens {n : Nat} {p q : Addr} {xs ys : List V} (hne : p ≠ q) (hp : H p = some (.lst xs)) (hq : H q = some (.lst ys)) (hl : xs.length ≠ ys.length) : Eqs H (n + 1) (.ref p) (.ref q) false
theorem val_get {xs : List V} {us : List Value} {j : Nat} (r : Vals xs us) (h : j < us.length) : ∃ a, xs[j]? = some a ∧ RelV a us[j] := by
  have hl := r.length
  have hj : j < xs.length := by omega
  obtain ⟨u, e, q⟩ := r.get (i := j) (x := xs[j]) (List.getElem?_eq_getElem hj)
  rw [List.getElem?_eq_getElem h] at e
  cases e
  exact ⟨xs[j], List.getElem?_eq_getElem hj, q⟩
section
variable {X : Cx} {pins : List (Addr × Obj)} {σ : St} {H : Hp} {s : Shared}
theorem Eqs.at {n : Nat} {x y : V} {b : Bool} (h : Eqs H n x y b) : ∀ {A : Around} {u v : Value}, Inv X pins σ H s → RelV x u → RelV y v → A.units + n < cLine → SeqAt.EqAt A s u v b := by
  induction h with
  | flat fx fy =>
    intro A u v _ ru rv _
    exact eqAt_V ru rv fx fy
  | same =>
    intro A u v _ ru rv _
    cases ru
    cases rv
    exact SeqAt.EqAt.same _
  | @tups n p q xs ys e hne hp hq he ih =>
    intro A u v I ru rv hu
    cases ru
    cases rv
    obtain ⟨its, r, pl, _⟩ := I.tuple (SqT.of hp)
    obtain ⟨jts, r', pl', _⟩ := I.tuple (SqT.of hq)
    have e1 := r.length
    have e2 := r'.length
    have z := SeqAt.RcAt.tuples (A := A) (e := e) pl pl' (by omega) fun j h1 h2 => ?_
    · rw [List.size_toArray, List.size_toArray, ← e1, ← e2] at z
      exact SeqAt.EqAt.of_refs hne z
    · rw [List.size_toArray] at h1 h2
      obtain ⟨a, ea, ra⟩ := val_get r h1
      obtain ⟨c, ec, rc⟩ := val_get r' h2
      exact ih j a c ea ec (A := A.in1) I ra rc (by show A.units + 1 + n < cLine; omega)
  | @lsts n p q xs ys e hne hp hq hl he ih =>
    intro A u v I ru rv hu
    cases ru
    cases rv
    obtain ⟨its, r, pl, _⟩ := I.list (SqL.of hp)
    obtain ⟨jts, r', pl', _⟩ := I.list (SqL.of hq)
    have e1 := r.length
    have e2 := r'.length
    have z := SeqAt.RcAt.lists (A := A) (e := e) pl.isList pl'.isList (by rw [List.size_toArray, List.size_toArray]; omega) (by omega) fun j h1 h2 => ?_
    · rw [List.size_toArray, ← e1] at z
      exact SeqAt.EqAt.of_refs hne z
    · rw [List.size_toArray] at h1 h2
      obtain ⟨a, ea, ra⟩ := val_get r h1
      obtain ⟨c, ec, rc⟩ := val_get r' h2
      exact ih j a c ea ec (A := A.in1) I ra rc (by show A.units + 1 + n < cLine; omega)
  | @lens n p q xs ys hne hp hq hl =>
    intro A u v I ru rv hu
    cases ru
    cases rv
    obtain ⟨its, r, pl, _⟩ := I.list (SqL.of hp)
    obtain ⟨jts, r', pl', _⟩ := I.list (SqL.of hq)
    have e1 := r.length
    have e2 := r'.length
    exact SeqAt.EqAt.of_refs hne (SeqAt.RcAt.lists_lengths pl.isList pl'.isList (by rw [List.size_toArray, List.size_toArray]; simp; omega) (by omega))
/-- a tuple == a tuple -/
def rEqTT (neg : Bool) : R2 := fun x y H Q => ∃ p q xs ys e, x = .ref p ∧ y = .ref q ∧ H p = some (.tup xs) ∧ H q = some (.tup ys) ∧ (∀ (j : Nat) a b, xs[j]? = some a → ys[j]? = some b → Eqs H 8 a b (e j)) ∧
  Q (.bl (if neg then !((List.range (min xs.length ys.length)).all e && xs.length == ys.length) else ((List.range (min xs.length ys.length)).all e && xs.length == ys.length))) H
theorem op_eqTT (hu : X.A.units + 10 < cLine) : OpR X (compareOp .Eq) (rEqTT false) := by
  intro pins s σ H x y v u Q I rx ry h
  obtain ⟨p, q, xs, ys, e, rfl, rfl, hp, hq, he, k⟩ := h
  cases rx
  cases ry
  obtain ⟨its, r, pl, _⟩ := I.tuple (SqT.of hp)
  obtain ⟨jts, r', pl', _⟩ := I.tuple (SqT.of hq)
  have e1 := r.length
  have e2 := r'.length
  refine SeqAt.eq_tupleAt (e := e) pl pl' (by omega) (fun j h1 h2 => ?_) ⟨.bl _, H, I, rfl, ?_⟩
  · rw [List.size_toArray] at h1 h2
    obtain ⟨a, ea, ra⟩ := val_get r h1
    obtain ⟨c, ec, rc⟩ := val_get r' h2
    exact (he j a c ea ec).at I ra rc (by show X.A.units + 1 + 8 < cLine; omega)
  · rw [List.size_toArray, List.size_toArray, ← e1, ← e2]
    exact k
theorem op_neTT (hu : X.A.units + 10 < cLine) : OpR X (compareOp .NotEq) (rEqTT true) := by
  intro pins s σ H x y v u Q I rx ry h
  obtain ⟨p, q, xs, ys, e, rfl, rfl, hp, hq, he, k⟩ := h
  cases rx
  cases ry
  obtain ⟨its, r, pl, _⟩ := I.tuple (SqT.of hp)
  obtain ⟨jts, r', pl', _⟩ := I.tuple (SqT.of hq)
  have e1 := r.length
  have e2 := r'.length
  refine SeqAt.RcNeAt.tuples (e := e) pl pl' (by omega) (fun j h1 h2 => ?_) _ _ _ _ ⟨.bl _, H, I, rfl, ?_⟩
  · rw [List.size_toArray] at h1 h2
    obtain ⟨a, ea, ra⟩ := val_get r h1
    obtain ⟨c, ec, rc⟩ := val_get r' h2
    exact (he j a c ea ec).at I ra rc (by show X.A.units + 1 + 8 < cLine; omega)
  · rw [List.size_toArray, List.size_toArray, ← e1, ← e2]
    exact k
/-- a list != a list, of one length -/
def rNeLL : R2 := fun x y H Q => ∃ p q xs ys e, x = .ref p ∧ y = .ref q ∧ H p = some (.lst xs) ∧ H q = some (.lst ys) ∧ xs.length = ys.length ∧ (∀ (j : Nat) a b, xs[j]? = some a → ys[j]? = some b → Eqs H 8 a b (e j)) ∧ Q (.bl (!((List.range xs.length).all e))) H
theorem op_neLL (hu : X.A.units + 10 < cLine) : OpR X (compareOp .NotEq) rNeLL := by
  intro pins s σ H x y v u Q I rx ry h
  obtain ⟨p, q, xs, ys, e, rfl, rfl, hp, hq, hl, he, k⟩ := h
  cases rx
  cases ry
  obtain ⟨its, r, pl, _⟩ := I.list (SqL.of hp)
  obtain ⟨jts, r', pl', _⟩ := I.list (SqL.of hq)
  have e1 := r.length
  have e2 := r'.length
  refine SeqAt.RcNeAt.lists (e := e) pl.isList pl'.isList (by rw [List.size_toArray, List.size_toArray]; omega) (by omega) (fun j h1 h2 => ?_) _ _ _ _ ⟨.bl _, H, I, rfl, ?_⟩
  · rw [List.size_toArray] at h1 h2
    obtain ⟨a, ea, ra⟩ := val_get r h1
    obtain ⟨c, ec, rc⟩ := val_get r' h2
    exact (he j a c ea ec).at I ra rc (by show X.A.units + 1 + 8 < cLine; omega)
  · rw [List.size_toArray, ← e1]
    exact k
end
end L2
namespace L2
open PySem
theorem Room.units10 {k : Nat} {A : Around} (r : Room k A) : A.units + 10 < cLine := by have := r.un; omega
end L2
/-! POINTS: what the defs about points and squares keep -/
namespace L2
open PySem PySem.Spec PyProof.Rows
def CPX (i j : Int) : Prop := 0 ≤ j ∧ (Builtin.Int.intBits i : Int) * j ≤ 2 ^ 27
theorem op_powX {X : Cx} : OpR X (binaryOp .Pow) (rI CPX fun i j => .int (i ^ j.toNat)) := opI fun _ _ _ _ _ _ _ hc q => pow_int hc.1 hc.2 q
theorem cpx2 {i : Int} {n : Nat} (h : bits i ≤ n) (hn : n ≤ 100000) : CPX i 2 := ⟨by decide, by
  have e : (2 : Int) ^ 27 = 134217728 := by decide
  have h' : Builtin.Int.intBits i ≤ n := h
  rw [e]
  omega⟩
end L2
namespace Sp3
open PySem PySem.Spec L2 Mth Sp1 Sp2
def spRatioN (C : Addr) : Sp := fun vs H Q E => ∃ (a b : Int) (n : Nat), vs = [.int a, .int b] ∧ (bits a ≤ n ∧ bits b ≤ n ∧ n ≤ 2000) ∧ (b = 0 → E (.ref C) none H) ∧
  (b ≠ 0 → ∀ (p : Addr) (t u : Int), Frac a b t u → bits t ≤ n → bits u ≤ n → H p = none → Q (.ref p) (upd H p (.tup [.int t, .int u])))
structure Fr2 (H : Hp) (p : Addr) (a b : Int) (n : Nat) : Prop where
  at_ : H p = some (.tup [.int a, .int b])
  low : Low a b
  ba : bits a ≤ n
  bb : bits b ≤ n
theorem Fr2.mono {H H' : Hp} {p : Addr} {a b : Int} {n : Nat} (f : Fr2 H p a b n) (s : Same H H') : Fr2 H' p a b n := ⟨s _ _ f.at_, f.low, f.ba, f.bb⟩
theorem Fr2.wide {H : Hp} {p : Addr} {a b : Int} {m n : Nat} (f : Fr2 H p a b m) (h : m ≤ n) : Fr2 H p a b n := ⟨f.at_, f.low, bits_le f.ba h, bits_le f.bb h⟩
theorem Fr2.th {H : Hp} {p : Addr} {a b : Int} {n : Nat} (f : Fr2 H p a b n) : Thing H (.ref p) := th_tup f.at_ fun v hv => by
  simp only [List.mem_cons, List.not_mem_nil, or_false] at hv
  rcases hv with rfl | rfl <;> exact ⟨_, .int _⟩
def spBin (num den : Int → Int → Int → Int → Int) : Sp := fun vs H Q _ => ∃ (p q : Addr) (a b c d : Int) (n : Nat), vs = [.ref p, .ref q] ∧ Fr2 H p a b n ∧ Fr2 H q c d n ∧ n ≤ 900 ∧ den a b c d ≠ 0 ∧
  ∀ (r : Addr) (t u : Int) (H' : Hp), Frac (num a b c d) (den a b c d) t u → Fr2 H' r t u (2 * n + 1) → Same H H' → Q (.ref r) H'
/-- the number that number_at reckons, over the place's bottom -/
def numAt (x y t b : Int) : Int := x * b + (y - x) * (t % b)
def spNumAt : Sp := fun vs H Q _ => ∃ (x y : Int) (p : Addr) (t b : Int), vs = [.int x, .int y, .ref p] ∧ Fr2 H p t b 120 ∧ bits x ≤ 60 ∧ bits y ≤ 60 ∧
  ∀ (r : Addr) (u v : Int) (H' : Hp), Frac (numAt x y t b) b u v → Fr2 H' r u v 182 → Same H H' → Q (.ref r) H'
/-- the corners on both sides of the place t / b -/
def side0 (qs : List (Addr × Int × Int)) (t b : Int) : Int × Int := (qs.getD (t / b).toNat (0, 0, 0)).2
def side1 (qs : List (Addr × Int × Int)) (t b : Int) : Int × Int := (qs.getD (min ((t / b).toNat + 1) (qs.length - 1)) (0, 0, 0)).2
def ptX (qs : List (Addr × Int × Int)) (t b : Int) : Int := numAt (side0 qs t b).1 (side1 qs t b).1 t b
def ptY (qs : List (Addr × Int × Int)) (t b : Int) : Int := numAt (side0 qs t b).2 (side1 qs t b).2 t b
structure PtAt (H : Hp) (r : Addr) (X Y b : Int) (n : Nat) : Prop where
  ex : ∃ (rx ry : Addr) (u v c d : Int), H r = some (.tup [.ref rx, .ref ry]) ∧ Fr2 H rx u v n ∧ Fr2 H ry c d n ∧ Frac X b u v ∧ Frac Y b c d
theorem PtAt.mono {H H' : Hp} {r : Addr} {X Y b : Int} {n : Nat} (p : PtAt H r X Y b n) (s : Same H H') : PtAt H' r X Y b n := by
  obtain ⟨rx, ry, u, v, c, d, e, f, g, h, k⟩ := p.ex
  exact ⟨⟨rx, ry, u, v, c, d, s _ _ e, f.mono s, g.mono s, h, k⟩⟩
def spPoint (C : Addr) : Sp := fun vs H Q E => ∃ (l : Addr) (qs : List (Addr × Int × Int)) (x : V), vs = [.ref l, x] ∧ LineAt H l qs ∧ 1 ≤ qs.length ∧ qs.length ≤ 20 ∧ Thing H x ∧ (placeV ((qs.length : Int) - 1) H x = false → E (.ref C) none H) ∧
  (∀ (p : Addr) (t b : Int), x = .ref p → H p = some (.tup [.int t, .int b]) → Low t b → 0 ≤ t → t ≤ ((qs.length : Int) - 1) * b → bits t ≤ 120 ∧ bits b ≤ 120 ∧
    ∀ (r : Addr) (H' : Hp), PtAt H' r (ptX qs t b) (ptY qs t b) b 182 → Same H H' → Q (.ref r) H')
end Sp3
namespace Sp3
open PySem PySem.Spec L2 Mth Sp1 Sp2
/-- a point by its two fractions -/
structure PtF (H : Hp) (r : Addr) (u v c d : Int) (n : Nat) : Prop where
  ex : ∃ rx ry : Addr, H r = some (.tup [.ref rx, .ref ry]) ∧ Fr2 H rx u v n ∧ Fr2 H ry c d n
theorem PtF.mono {H H' : Hp} {r : Addr} {u v c d : Int} {n : Nat} (p : PtF H r u v c d n) (s : Same H H') : PtF H' r u v c d n := by
  obtain ⟨rx, ry, e, f, g⟩ := p.ex
  exact ⟨⟨rx, ry, s _ _ e, f.mono s, g.mono s⟩⟩
def spStep : Sp := fun vs H Q _ => ∃ (p q : Addr) (u v c d u' v' c' d' : Int), vs = [.ref p, .ref q] ∧ PtF H p u v c d 182 ∧ PtF H q u' v' c' d' 182 ∧
  ∀ (r : Addr) (a b e f : Int) (H' : Hp), Frac (u' * v - u * v') (v' * v) a b → Frac (c' * d - c * d') (d' * d) e f → PtF H' r a b e f 365 → Same H H' → Q (.ref r) H'
def spInner : Sp := fun vs H Q _ => ∃ (p : Addr) (a b e f : Int), vs = [.ref p, .ref p] ∧ PtF H p a b e f 365 ∧
  ∀ (r : Addr) (m n m' n' s w : Int) (H' : Hp), Frac (a * a) (b * b) m n → Frac (e * e) (f * f) m' n' → Frac (m * n' + m' * n) (n * n') s w → Fr2 H' r s w 1463 → Same H H' → Q (.ref r) H'
def sqN (X Y b X' Y' b' : Int) : Int := (X' * b - X * b') * (X' * b - X * b') + (Y' * b - Y * b') * (Y' * b - Y * b')
def sqD (b b' : Int) : Int := (b * b') * (b * b')
def spSqB : Sp := fun vs H Q _ => ∃ (p q : Addr) (X Y b X' Y' b' : Int), vs = [.ref p, .ref q] ∧ PtAt H p X Y b 182 ∧ PtAt H q X' Y' b' 182 ∧ 0 < b ∧ 0 < b' ∧
  ∀ (r : Addr) (s w : Int) (H' : Hp), Frac (sqN X Y b X' Y' b') (sqD b b') s w → Fr2 H' r s w 1463 → Same H H' → Q (.ref r) H'
theorem diff_eq {X b X' b' u v u' v' a e : Int} (hv : v ≠ 0) (hv' : v' ≠ 0) (h1 : X * v = u * b) (h2 : X' * v' = u' * b') (h3 : (u' * v - u * v') * e = a * (v' * v)) : (X' * b - X * b') * e = a * (b * b') := by
  have z : (v * v') * ((X' * b - X * b') * e) = (v * v') * (a * (b * b')) := by
    have z1 : (v * v') * ((X' * b - X * b') * e) = (X' * v' * (b * v) - X * v * (b' * v')) * e := by grind
    rw [z1, h1, h2]
    have z2 : (u' * b' * (b * v) - u * b * (b' * v')) * e = b * b' * ((u' * v - u * v') * e) := by grind
    rw [z2, h3]
    grind
  exact Int.eq_of_mul_eq_mul_left (Int.mul_ne_zero hv hv') z
theorem sq_eq {D B a e m n : Int} (he : e ≠ 0) (h1 : D * e = a * B) (h2 : a * a * n = m * (e * e)) : D * D * n = m * (B * B) := by
  have z : (e * e) * (D * D * n) = (e * e) * (m * (B * B)) := by
    have z1 : (e * e) * (D * D * n) = (D * e) * (D * e) * n := by grind
    rw [z1, h1]
    have z2 : a * B * (a * B) * n = B * B * (a * a * n) := by grind
    rw [z2, h2]
    grind
  exact Int.eq_of_mul_eq_mul_left (Int.mul_ne_zero he he) z
theorem sum_eq {S T G m n m' n' s w : Int} (hn : n ≠ 0) (hn' : n' ≠ 0) (h1 : S * n = m * G) (h2 : T * n' = m' * G) (h3 : (m * n' + m' * n) * w = s * (n * n')) : (S + T) * w = s * G := by
  have z : (n * n') * ((S + T) * w) = (n * n') * (s * G) := by
    have z1 : (n * n') * ((S + T) * w) = (S * n * n' + T * n' * n) * w := by grind
    rw [z1, h1, h2]
    have z2 : (m * G * n' + m' * G * n) * w = G * ((m * n' + m' * n) * w) := by grind
    rw [z2, h3]
    grind
  exact Int.eq_of_mul_eq_mul_left (Int.mul_ne_zero hn hn') z
theorem sq_frac {X Y b X' Y' b' u v c d u' v' c' d' a e a' e' m n m' n' s w : Int} (f1 : Frac X b u v) (f2 : Frac Y b c d) (f3 : Frac X' b' u' v') (f4 : Frac Y' b' c' d') (g1 : Frac (u' * v - u * v') (v' * v) a e) (g2 : Frac (c' * d - c * d') (d' * d) a' e')
    (k1 : Frac (a * a) (e * e) m n) (k2 : Frac (a' * a') (e' * e') m' n') (k3 : Frac (m * n' + m' * n) (n * n') s w) : Frac (sqN X Y b X' Y' b') (sqD b b') s w := by
  refine ⟨k3.low, ?_⟩
  have p1 := f1.low.pos
  have p2 := f2.low.pos
  have p3 := f3.low.pos
  have p4 := f4.low.pos
  have p5 := g1.low.pos
  have p6 := g2.low.pos
  have p7 := k1.low.pos
  have p8 := k2.low.pos
  have q1 := diff_eq (by omega) (by omega) f1.eq f3.eq g1.eq
  have q2 := diff_eq (by omega) (by omega) f2.eq f4.eq g2.eq
  have q3 := sq_eq (by omega) q1 k1.eq
  have q4 := sq_eq (by omega) q2 k2.eq
  exact sum_eq (by omega) (by omega) q3 q4 k3.eq
/-- a place on a line whose last corner has the number n -/
structure Plc (H : Hp) (p : Addr) (t b n : Int) : Prop where
  at_ : H p = some (.tup [.int t, .int b])
  low : Low t b
  lo : 0 ≤ t
  hi : t ≤ n * b
  bt : bits t ≤ 120
  bb : bits b ≤ 120
theorem Plc.mono {H H' : Hp} {p : Addr} {t b n : Int} (f : Plc H p t b n) (s : Same H H') : Plc H' p t b n := ⟨s _ _ f.at_, f.low, f.lo, f.hi, f.bt, f.bb⟩
theorem Plc.th {H : Hp} {p : Addr} {t b n : Int} (f : Plc H p t b n) : Thing H (.ref p) := th_tup f.at_ fun v hv => by
  simp only [List.mem_cons, List.not_mem_nil, or_false] at hv
  rcases hv with rfl | rfl <;> exact ⟨_, .int _⟩
theorem Plc.place {H : Hp} {p : Addr} {t b n : Int} (f : Plc H p t b n) : placeV n H (.ref p) = true := placeV_of f.at_ f.low f.lo f.hi
theorem placeV_same {n : Int} {H H' : Hp} {x : V} {k : String} (kn : Kn H x k) (s : Same H H') : placeV n H' x = placeV n H x := by
  cases kn with
  | non => rfl
  | bl b => rfl
  | int i => rfl
  | str x => rfl
  | lst e => simp only [placeV, e, s _ _ e]
  | tup e => simp only [placeV, e, s _ _ e]
  | dict e => simp only [placeV, e, s _ _ e]
theorem Thing.mono {H H' : Hp} {x : V} (h : Thing H x) (s : Same H H') : Thing H' x := by
  obtain ⟨⟨t, k⟩, pt⟩ := h
  refine ⟨⟨t, k.mono s⟩, fun p xs e1 e2 y hy => ?_⟩
  subst e1
  have e3 : H p = some (.tup xs) := by
    cases k with
    | lst e => rw [s _ _ e] at e2; cases e2
    | tup e => rw [s _ _ e] at e2; cases e2; exact e
    | dict e => rw [s _ _ e] at e2; cases e2
  obtain ⟨t', k'⟩ := pt p xs rfl e3 y hy
  exact ⟨t', k'.mono s⟩
abbrev Crn := List (Addr × Int × Int)
def sqF (qs : Crn) (t b : Int) (qs' : Crn) (t' b' : Int) : Int := sqN (ptX qs t b) (ptY qs t b) b (ptX qs' t' b') (ptY qs' t' b') b'
def lst_ (qs : Crn) : Int := (qs.length : Int) - 1
/-- square_of: the first place is none; it is one and the second is none; both are -/
def spSquare (C : Addr) : Sp := fun vs H Q E => ∃ (l l' : Addr) (qs qs' : Crn) (x y : V), vs = [.ref l, x, .ref l', y] ∧ LineAt H l qs ∧ LineAt H l' qs' ∧ (1 ≤ qs.length ∧ qs.length ≤ 20) ∧ (1 ≤ qs'.length ∧ qs'.length ≤ 20) ∧ Thing H x ∧ Thing H y ∧
  ((placeV (lst_ qs) H x = false ∧ E (.ref C) none H) ∨
   (∃ (p : Addr) (t b : Int), x = .ref p ∧ Plc H p t b (lst_ qs) ∧
     ((placeV (lst_ qs') H y = false ∧ ∀ H', Same H H' → E (.ref C) none H') ∨
      (∃ (q : Addr) (t' b' : Int), y = .ref q ∧ Plc H q t' b' (lst_ qs') ∧
        ∀ (r : Addr) (s w : Int) (H' : Hp), Frac (sqF qs t b qs' t' b') (sqD b b') s w → Fr2 H' r s w 1463 → Same H H' → Q (.ref r) H'))))
/-- the law's own point -/
def spLPt : Sp := fun vs H Q _ => ∃ (l p : Addr) (qs : Crn) (t b : Int), vs = [.ref l, .ref p] ∧ LineAt H l qs ∧ (1 ≤ qs.length ∧ qs.length ≤ 20) ∧ Plc H p t b (lst_ qs) ∧
  ∀ (r : Addr) (H' : Hp), H' r = some (.tup [.int (ptX qs t b), .int (ptY qs t b), .int b]) → Same H H' → Q (.ref r) H'
def spLSq : Sp := fun vs H Q _ => ∃ (l p l' p' : Addr) (qs qs' : Crn) (t b t' b' : Int), vs = [.ref l, .ref p, .ref l', .ref p'] ∧ LineAt H l qs ∧ LineAt H l' qs' ∧ (1 ≤ qs.length ∧ qs.length ≤ 20) ∧ (1 ≤ qs'.length ∧ qs'.length ≤ 20) ∧ Plc H p t b (lst_ qs) ∧ Plc H p' t' b' (lst_ qs') ∧
  ∀ (r : Addr) (H' : Hp), H' r = some (.tup [.int (sqF qs t b qs' t' b'), .int (sqD b b')]) → Same H H' → Q (.ref r) H'
def spLSame : Sp := fun vs H Q _ => ∃ (p q : Addr) (s w m n : Int), vs = [.ref p, .ref q] ∧ H p = some (.tup [.int s, .int w]) ∧ H q = some (.tup [.int m, .int n]) ∧ (bits s ≤ 2000 ∧ bits w ≤ 2000 ∧ bits m ≤ 2000 ∧ bits n ≤ 2000) ∧ Q (.bl (decide (s * n = m * w))) H
def spLRef : Sp := fun vs H Q _ => ∃ (l l' : Addr) (qs qs' : Crn) (x y : V), vs = [.ref l, x, .ref l', y] ∧ LineAt H l qs ∧ LineAt H l' qs' ∧ (1 ≤ qs.length ∧ qs.length ≤ 20) ∧ (1 ≤ qs'.length ∧ qs'.length ≤ 20) ∧ Thing H x ∧ Thing H y ∧
  (placeV (lst_ qs) H x = false ∨ (∃ (p : Addr) (t b : Int), x = .ref p ∧ Plc H p t b (lst_ qs) ∧ placeV (lst_ qs') H y = false)) ∧ ∀ H', Same H H' → Q (.bl true) H'
/-! sizes and equal points -/
theorem crn_bits {H : Hp} {l : Addr} {qs : Crn} (L : LineAt H l qs) (j : Nat) : bits (qs.getD j (0, 0, 0)).2.1 ≤ 50 ∧ bits (qs.getD j (0, 0, 0)).2.2 ≤ 50 := by
  rw [List.getD_eq_getElem?_getD]
  by_cases h : j < qs.length
  · rw [List.getElem?_eq_getElem h]
    exact (L.crn _ (List.getElem_mem h)).2
  · rw [List.getElem?_eq_none (by omega)]
    exact ⟨by decide, by decide⟩
theorem num_bits {x y t b : Int} (hb : 0 < b) (bx : bits x ≤ 50) (by' : bits y ≤ 50) (bb : bits b ≤ 120) : bits (numAt x y t b) ≤ 182 := by
  have br : bits (t % b) ≤ 120 := bits_range (Int.emod_nonneg _ (by omega)) (Int.le_of_lt (Int.emod_lt_of_pos _ hb)) bb
  exact bits_le (bits_add (n := 171) (bits_le (bits_mul bx bb) (by decide)) (bits_mul (bits_sub by' bx) br)) (by decide)
theorem pt_bits {H : Hp} {l : Addr} {qs : Crn} {t b : Int} (L : LineAt H l qs) (hb : 0 < b) (bb : bits b ≤ 120) : bits (ptX qs t b) ≤ 182 ∧ bits (ptY qs t b) ≤ 182 :=
  ⟨num_bits hb (crn_bits L _).1 (crn_bits L _).1 bb, num_bits hb (crn_bits L _).2 (crn_bits L _).2 bb⟩
/-- the law's number: the last stretch where the place is the last corner -/
theorem lnum {t b : Int} {n : Nat} (hb : 0 < b) (h0 : 0 ≤ t) (hn : 1 ≤ n) (h1 : t ≤ ((n : Int) - 1) * b) :
    ∃ k : Nat, k < n ∧ (if (if (n : Int) - 2 > 0 then (n : Int) - 2 else 0) < t / b then (if (n : Int) - 2 > 0 then (n : Int) - 2 else 0) else t / b) = (k : Int) ∧
      ((k = (t / b).toNat ∧ t - (k : Int) * b = t % b) ∨ (k + 1 = (t / b).toNat ∧ k + 1 = n - 1 ∧ t - (k : Int) * b = b ∧ t % b = 0)) := by
  have q0 : 0 ≤ t / b := Int.ediv_nonneg h0 (by omega)
  have q1 : t / b ≤ (n : Int) - 1 := Int.ediv_le_of_le_mul hb h1
  have e := Int.emod_add_mul_ediv t b
  have e' : t = t % b + t / b * b := by rw [Int.mul_comm (t / b) b]; omega
  by_cases hk : t / b ≤ (if (n : Int) - 2 > 0 then (n : Int) - 2 else 0)
  · refine ⟨(t / b).toNat, by omega, ?_, .inl ⟨rfl, ?_⟩⟩
    · rw [if_neg (by omega)]
      omega
    · have z : (((t / b).toNat : Nat) : Int) = t / b := by omega
      rw [z]
      omega
  · have hn2 : (n : Int) - 2 > 0 ∨ n = 1 ∨ n = 2 := by omega
    have hz : t / b = (n : Int) - 1 ∧ 2 ≤ n ∧ (if (n : Int) - 2 > 0 then (n : Int) - 2 else 0) = (n : Int) - 2 := by
      by_cases hh : (n : Int) - 2 > 0
      · rw [if_pos hh] at hk ⊢
        omega
      · rw [if_neg hh] at hk ⊢
        omega
    refine ⟨n - 2, by omega, ?_, .inr ⟨by omega, by omega, ?_, ?_⟩⟩
    · rw [hz.2.2, if_pos (by omega)]
      omega
    · have z : ((n - 2 : Nat) : Int) = t / b - 1 := by omega
      have z2 : t % b = 0 := by
        have p0 := Int.emod_nonneg t (show b ≠ 0 by omega)
        rw [hz.1] at e'
        omega
      rw [z, Int.sub_mul, Int.one_mul]
      omega
    · have p0 := Int.emod_nonneg t (show b ≠ 0 by omega)
      rw [hz.1] at e'
      omega
/-- the law's point is the program's -/
theorem lpt {f : Addr × Int × Int → Int} {qs : Crn} {t b : Int} {k : Nat} (hk : (k = (t / b).toNat ∧ t - (k : Int) * b = t % b) ∨ (k + 1 = (t / b).toNat ∧ k + 1 = qs.length - 1 ∧ t - (k : Int) * b = b ∧ t % b = 0)) :
    f (qs.getD k (0, 0, 0)) * (b - (t - (k : Int) * b)) + f (qs.getD (min (k + 1) (qs.length - 1)) (0, 0, 0)) * (t - (k : Int) * b) =
      numAt (f (qs.getD (t / b).toNat (0, 0, 0))) (f (qs.getD (min ((t / b).toNat + 1) (qs.length - 1)) (0, 0, 0))) t b := by
  unfold numAt
  rcases hk with ⟨rfl, e⟩ | ⟨e1, e2, e3, e4⟩
  · rw [e]
    generalize f (qs.getD (t / b).toNat (0, 0, 0)) = u
    generalize f (qs.getD (min ((t / b).toNat + 1) (qs.length - 1)) (0, 0, 0)) = v
    generalize t % b = r
    rw [Int.mul_sub, Int.sub_mul]
    omega
  · have m : min (k + 1) (qs.length - 1) = (t / b).toNat := by omega
    rw [e3, e4, m]
    simp
end Sp3
/-! EXCEPTIONS KEPT: the class of an exception object, isinstance of it, except .. as e -/
namespace PySem
open Sem (wp)
/-- t tells r in the heap h and changes nothing -/
abbrev Lk {α : Type} (M : Model) (h : Heap) (t : Sem α) (r : α) : Prop := ∀ (A : Around) (Q : α → Shared → Prop) (E : Value → Shared → Prop) (g : Array GenState) (d : Drawn) (tk : Nat) (os : OsState), Q r ⟨h, g, d, tk, os⟩ → wpAny M A t Q E ⟨h, g, d, tk, os⟩
section
variable {prog : Program} {w : World} {A : Around} {E : Value → Shared → Prop} {h : Heap} {g : Array GenState} {d : Drawn} {t : Nat} {os : OsState} {a : Addr} {o : Obj}
  {nm q : Str} {C N : Addr} {bs bm : List Value} {hdct : Bool} {sn : List Str} {sub : List Value} {ab : Bool} {col : Option Bool} {dd : Option Addr} {k0 k1 k2 k3 k5 : Option Value} {newId : String}
theorem class_get_exc {R : Result → Shared → Prop} (atC : h.get? C = some (excClassObj nm q C N bs bm hdct sn sub ab col dd k0 k1 k2 k3 k5 newId)) (hO : bm.contains (.type "object") = true)
    (atE : h.get? a = some o) (clE : o.cls = .ref C) (fin : R (.ok (.ret (.ref C))) ⟨h, g, d, t, os⟩) :
    codeAny (model prog w) A (.call (.builtin "getset_descriptor.__get__") ⟨[.builtin "object.__class__", .ref a, .ref C], []⟩) R ⟨h, g, d, t, os⟩ := by
  have tg : (⟨h, g, d, t, os⟩ : Shared).TypeIs (.builtin "object.__class__") "getset_descriptor" := F.typeOf_object_class
  have e0 : (".".intercalate ("object.__class__".cutAt '.').dropLast) = "object" := by
    have e0 : "object.__class__".cutAt '.' = ["object", "__class__"] := by first | rfl | decide +kernel
    rw [e0]; decide +kernel
  have cont : (Value.ref C :: bm).contains (.type (".".intercalate ("object.__class__".cutAt '.').dropLast)) = true := by
    rw [e0, List.contains_cons, hO, Bool.or_true]
  refine codeAny_call_builtin F.slot_gs_get.plain F.entry_gs_get (F.slot_gs_get.check _ _ _ _ _ _ _ _ tg (F.args_gs_get _ _ _) ?_)
  repeat (any_goals (first | assumption | (with_reducible refine wpAny_loadPart_at atE ?_; rw [clE]) | (with_reducible refine wpAny_isSubtype_exc atC ?_; rw [cont]) | wp_step))
  refine ⟨Code.quiet_builtin _ (by decide +kernel), codeAny_builtin F.entry_object_class ?_⟩
  repeat (any_goals (first | assumption | (with_reducible refine wpAny_loadPart_at atE ?_; rw [clE]) | wp_step))
theorem check_ga_exc {M : Model} {nameV : Value} {Q : Unit → Shared → Prop} (atC : h.get? C = some (excClassObj nm q C N bs bm hdct sn sub ab col dd k0 k1 k2 k3 k5 newId)) (hB : bm.contains (.type "BaseException") = true)
    (atE : h.get? a = some o) (clE : o.cls = .ref C) (fin : Q () ⟨h, g, d, t, os⟩) : wpAny M A (checkBuiltinCall "BaseException.__getattribute__" ⟨[.ref a, nameV], []⟩) Q E ⟨h, g, d, t, os⟩ := by
  have kd : builtinKind "BaseException.__getattribute__" = some .slot := by decide +kernel
  have spl : splitId "BaseException.__getattribute__" = some ("BaseException", "__getattribute__") := by decide +kernel
  have cont : (Value.ref C :: bm).contains (.type "BaseException") = true := by rw [List.contains_cons, hB, Bool.or_true]
  have okA := F.args_bexc_ga (.ref a) nameV
  simp only [checkBuiltinCall, kd, spl]
  refine wpAny_bind ?_
  · unfold isInstance
    repeat (first | (with_reducible refine wpAny_loadPart_at atE ?_; rw [clE]) | (with_reducible refine wpAny_isSubtype_exc atC ?_; rw [cont]) | wp_step)
    exact fin
theorem class_entry_exc {tk : Tok} {Q : Fin → Shared → Prop} (atC : h.get? C = some (excClassObj nm q C N bs bm hdct sn sub ab col dd k0 k1 k2 k3 k5 newId)) (hO : bm.contains (.type "object") = true)
    (lc : Lk (model prog w) h (typeLookup (.ref C) "__class__") (some (.builtin "object.__class__"))) (atE : h.get? a = some o) (clE : o.cls = .ref C) (fin : Q (.done (.ret (.ref C))) ⟨h, g, d, t, os⟩) :
    wpAny (model prog w) A (Builtin.«object.__getattribute__» ⟨[.ref a, .str "__class__" tk], []⟩) Q E ⟨h, g, d, t, os⟩ := by
  have tg : (⟨h, g, d, t, os⟩ : Shared).TypeIs (.builtin "object.__class__") "getset_descriptor" := F.typeOf_object_class
  have tyC := F.typeOf_object_class
  have getL := F.slot_gs_get.lookup
  have setL := F.slot_gs_set.lookup
  repeat (any_goals (first | assumption | (with_reducible refine wpAny_loadPart_at atE ?_; rw [clE]) | with_reducible refine lc _ _ _ _ _ _ _ ?_ | wp_step))
  refine class_get_exc atC hO atE clE ?_
  repeat (any_goals (first | assumption | wp_step))
theorem class_by_exc {tk : Tok} {Q : Value → Shared → Prop} (atC : h.get? C = some (excClassObj nm q C N bs bm hdct sn sub ab col dd k0 k1 k2 k3 k5 newId)) (hO : bm.contains (.type "object") = true) (hB : bm.contains (.type "BaseException") = true)
    (lc : Lk (model prog w) h (typeLookup (.ref C) "__class__") (some (.builtin "object.__class__"))) (lg : Lk (model prog w) h (typeLookup (.ref C) "__getattribute__") (some (.builtin "BaseException.__getattribute__"))) (ln : Lk (model prog w) h (typeLookup (.ref C) "__getattr__") none)
    (atE : h.get? a = some o) (clE : o.cls = .ref C) (fin : Q (.ref C) ⟨h, g, d, t, os⟩) :
    wpAny (model prog w) A (getAttrBy (.ref a) (.str "__class__" tk) false) Q E ⟨h, g, d, t, os⟩ := by
  have bnd := F.excAttr_ValueError.ga.bind (.ref a)
  have nh2 : (Value.builtin "BaseException.__getattribute__" == Value.builtin "object.__getattribute__") = false := by decide +kernel
  have nh1 : (onTheHeap (Value.ref C) && Value.builtin "BaseException.__getattribute__" == Value.builtin "object.__getattribute__") = false := by rw [nh2]; rfl
  repeat (any_goals (first | assumption | (with_reducible refine wpAny_loadPart_at atE ?_; rw [clE]) | with_reducible refine lg _ _ _ _ _ _ _ ?_ | with_reducible refine ln _ _ _ _ _ _ _ ?_ | wp_step))
  refine codeAny_call_builtin F.excAttr_ValueError.ga.plain F.entry_bexc_ga (check_ga_exc atC hB atE clE (class_entry_exc atC hO lc atE clE ?_))
  repeat (any_goals (first | assumption | wp_step))
theorem class_attr_exc {Q : Option Value → Shared → Prop} (atC : h.get? C = some (excClassObj nm q C N bs bm hdct sn sub ab col dd k0 k1 k2 k3 k5 newId)) (hO : bm.contains (.type "object") = true) (hB : bm.contains (.type "BaseException") = true)
    (lc : Lk (model prog w) h (typeLookup (.ref C) "__class__") (some (.builtin "object.__class__"))) (lg : Lk (model prog w) h (typeLookup (.ref C) "__getattribute__") (some (.builtin "BaseException.__getattribute__"))) (ln : Lk (model prog w) h (typeLookup (.ref C) "__getattr__") none)
    (atE : h.get? a = some o) (clE : o.cls = .ref C) (fin : Q (some (.ref C)) ⟨h, g, d, t + 1, os⟩) :
    wpAny (model prog w) A (getAttr? (.ref a) "__class__") Q E ⟨h, g, d, t, os⟩ := by
  unfold getAttr?
  repeat (any_goals (first | assumption | with_reducible refine class_by_exc atC hO hB lc lg ln atE clE ?_ | wp_step))
end
end PySem

namespace L2
open PySem PySem.Spec PyProof.Rows
/-- an exception object of the class at C, as the heap of the layer knows it -/
def excO (C a : Addr) : HO := .ext fun h => ∃ o, h.get? a = some o ∧ o.cls = .ref C
theorem excO_ok {P : Program} {w : World} {H : Hp} {h : Heap} {a C : Addr} (e : ∃ o, h.get? a = some o ∧ o.cls = .ref C) : ObjOk P w H h a (excO C a) :=
  ⟨e, let ⟨o, e1, _⟩ := e; ⟨o, e1⟩, fun _ _ ⟨o, e1, e2⟩ k => ⟨o, k o e1, e2⟩⟩
/-- an own class of exceptions looks its attributes up as every exception does -/
structure ExcF (K : PySem.W.Frag) (C : Addr) : Prop where
  ga : PySem.W.findIn K (.ref C) "__getattribute__" = some (some (.builtin "BaseException.__getattribute__"))
  gn : PySem.W.findIn K (.ref C) "__getattr__" = some none
  cl : PySem.W.findIn K (.ref C) "__class__" = some (some (.builtin "object.__class__"))
theorem lk_of {K : PySem.W.Frag} {M : Model} {h : Heap} {C : Addr} {n : Str} {r : Option Value} (X : K.In h) (e : PySem.W.findIn K (.ref C) n = some r) : Lk M h (typeLookup (.ref C) n) r :=
  fun _ _ _ _ _ _ _ q => (PySem.W.looks_findIn X e).here q
theorem kitx_exc {K : PySem.W.Frag} {mg : Str → Option Value} {n : Str} {C a : Addr} (O : ExcC K mg n C) (f : ExcF K C) : PySem.W.KitX K (.ref a) (.ref C) (fun h => ∃ o, h.get? a = some o ∧ o.cls = .ref C) where
  ty := fun M h _ p => by
    obtain ⟨o, e1, e2⟩ := p
    exact e2 ▸ (PySem.W.Looks.ld e1).andThen .now
  it := fun M h X _ => by
    obtain ⟨bm, N', nm, qn, bs, hd, sn, sub, ab, col, dd, k0, k1, k2, k3, k5, mN, atC, _⟩ := O.obj h X
    intro A' Q' E' s' k q
    unfold isType loadHead
    exact wpAny_bind (wpAny_loadPart (k _ _ atC) (wpAny_pure q))
  ne := fun h tp dd' its n' sl X htp => by
    obtain ⟨bm, N', nm, qn, bs, hd, sn, sub, ab, col, dd, k0, k1, k2, k3, k5, mN, atC, _⟩ := O.obj h X
    refine Bool.eq_false_iff.mpr fun q => ?_
    cases Value.ref.inj (beq_iff_eq.mp q)
    rw [atC] at htp
    have z := congrArg Obj.cls (Option.some.inj htp)
    exact absurd (Value.type.inj z) (by decide)
  ca := fun {prog w A E Q s} X p k => by
    obtain ⟨h, g, d, t, os⟩ := s
    obtain ⟨o, e1, e2⟩ := p
    obtain ⟨bm, N', nm, qn, bs, hd, sn, sub, ab, col, dd, k0, k1, k2, k3, k5, mN, atC, _, _, T⟩ := O.obj h X
    exact class_attr_exc atC (T.hasType (by decide +kernel)) (T.hasType (by decide +kernel)) (lk_of X f.cl) (lk_of X f.ga) (lk_of X f.gn) e1 e2 k
section
variable {X : Cx}
/-- isinstance of an exception that is kept: one class, or a tuple of classes -/
def rIsE (K : PySem.W.Frag) (C : Addr) : List V → Hp → VK → Prop := fun xs H Q => ∃ (a : Addr) (v : V) (b : Bool), xs = [.ref a, v] ∧ H a = some (excO C a) ∧
  ((∃ D, v = .ref D ∧ PySem.W.kitOne K (.ref C) (.ref D) = some b) ∨ (∃ T, v = .ty T ∧ PySem.W.kitOne K (.ref C) (.type T) = some b) ∨ (∃ (p : Addr) (ds : List Addr), v = .ref p ∧ H p = some (.tup (ds.map V.ref)) ∧ PySem.W.kitAny K (.ref C) (ds.map Value.ref) = some b)) ∧ Q (.bl b) H
theorem vals_refs : ∀ {ds : List Addr} {us : List Value}, Vals (ds.map V.ref) us → us = ds.map Value.ref
  | [], us, r => by cases r; rfl
  | d :: ds, us, r => by
    cases r with
    | cons h t =>
      rw [vals_refs t]
      cases h
      rfl
theorem call_isexc {n : Str} {C : Addr} (O : ExcC X.K X.mg n C) (f : ExcF X.K C) : CallR X (.builtin "isinstance") (rIsE X.K C) := by
  intro pins s σ H xs us Q I rs h
  obtain ⟨a, v, b, rfl, ea, hv, q⟩ := h
  obtain ⟨u, u', rfl, ru, rv⟩ := vals2 rs
  cases ru
  have p : ∃ o, s.heap.get? a = some o ∧ o.cls = .ref C := (show ObjOk X.prog X.w H s.heap a (excO C a) from I.hok a _ ea).1
  rcases hv with ⟨D, rfl, e⟩ | ⟨T, rfl, e⟩ | ⟨p', ds, rfl, et, e⟩
  · cases rv
    exact PySem.W.kia_one (kitx_exc O f) I.kIn p e (by intro z; cases z) fun tk => ⟨.bl _, H, I.tok _, rfl, q⟩
  · cases (show u' = Value.type T from rv)
    exact PySem.W.kia_one (kitx_exc O f) I.kIn p e (by intro z; cases z) fun tk => ⟨.bl _, H, I.tok _, rfl, q⟩
  · cases rv
    obtain ⟨_, its, rv', ⟨oc, odi, oda, osl⟩, eo, ec, nn, ed⟩ := I.hok _ _ et
    dsimp only at ec ed
    subst ec ed
    cases vals_refs rv'
    exact PySem.W.kia_tup (kitx_exc O f) I.kIn p eo e (by intro z; cases z) fun tk => ⟨.bl _, H, I.tok _, rfl, q⟩
end
section
variable {X : Cx} {pins : List (Addr × Obj)} {σ : St} {H : Hp} {s : Shared}
/-- an object that was not tracked is tracked from here on -/
theorem Inv.track {a : Addr} {o : HO} (I : Inv X pins σ H s) (hn : H a = none) (h0 : X.s₀.heap.get? a = none) (hl : a ≠ X.env.locals) (hc : ∀ x c, X.env.cells.lookup x = some c → c ≠ a) (hp : ∀ p ∈ X.pn ++ pins, p.1 ≠ a)
    (ho : ObjOk X.prog X.w (upd H a o) s.heap a o) : Inv X pins σ (upd H a o) s where
  ok := I.ok
  os := I.os
  bare := I.bare
  base := {
    keep := I.base.keep
    slot := I.base.slot
    free := fun b ob e n hx => by
      rw [upd_ne (fun z => by subst z; rw [h0] at e; cases e)]
      exact I.base.free b ob e n hx
    there := I.base.there
    tups := fun b xs q => by
      have z := I.base.tups b xs q
      rw [upd_ne (ne_of_none z hn)]
      exact z
    frzs := fun b ob u q => by
      have z := I.base.frzs b ob u q
      rw [upd_ne (ne_of_none z hn)]
      exact z
    tbls := fun b ps q => by
      obtain ⟨m, z⟩ := I.base.tbls b ps q
      exact ⟨m, by rw [upd_ne (ne_of_none z hn)]; exact z⟩ }
  loc := I.loc
  cell := I.cell
  free := by rw [upd_ne (Ne.symm hl)]; exact I.free
  freeC := fun x c e => by rw [upd_ne (hc x c e)]; exact I.freeC x c e
  pin := fun p m => by
    obtain ⟨p1, p2, p3⟩ := I.pin p m
    exact ⟨p1, by rw [upd_ne (hp p m)]; exact p2, p3⟩
  hok := fun b u q => by
    by_cases hb : b = a
    · subst hb
      rw [upd_same] at q
      cases q
      exact ho
    · rw [upd_ne hb] at q
      exact (I.hok b u q).stay (fun _ _ _ r => r) (fun c r => by rw [upd_ne (ne_of_none r hn)]; exact r) fun c xs r => by rw [upd_ne (ne_of_none r hn)]; exact r
  len := I.len
/-- the name behind `as` is let go -/
theorem goes_ok {M : Model} {A : Around} {E : Value → Shared → Prop} {i : Nat} {x : Str} {pos : Pos} {Q : Unit → Shared → Prop} (I : Inv X pins σ H s) (hN : X.N.Nodup) (hi : X.N[i]? = some x) (hk : X.env.kindOf x = some .local)
    (h : ∀ s', Inv X pins (σ.set i none) H s' → Q () s') : wpAny M A (do bindName X.env x .none; unbindBehindTheSuite X.env x pos) Q E s := by
  obtain ⟨m, hn, hl⟩ := id I.loc
  have plain : (X.env.scope.kind == .class || (X.env.scope.kind == .module && X.env.locals != X.env.globals)) = false := by rw [I.ok.kind]; rfl
  have iσ : i < σ.length := by rw [I.len]; exact (List.getElem?_eq_some_iff.mp hi).1
  have cne := I.cne
  refine wpAny_nameGoes_keeps hk hn plain (fun h' v hn' sb => ?_)
  have far : ∀ {b : Addr} {o : Obj}, X.s₀.heap.get? b = some o → b ≠ X.env.locals := fun e => Nat.ne_of_lt (Nat.lt_of_lt_of_le (Heap.lt_size e) I.ok.above)
  refine h _ ⟨I.ok, I.os, I.bare, ⟨fun b o e n hb hx => (sb.2 b (far e)).trans (I.base.keep b o e n hb hx), fun b o e n hb hx => ?_, I.base.free, fun b o e hx => ?_, I.base.tups, I.base.frzs, I.base.tbls⟩, ⟨_, hn', fun j y v' e1 e2 e3 => ?_⟩, fun y c e => ?_, I.free, I.freeC, fun p hp => ?_, fun b ob e => ?_, by simpa using I.len⟩
  · obtain ⟨sl, z⟩ := I.base.slot b o e n hb hx
    exact ⟨sl, (sb.2 b (far e)).trans z⟩
  · obtain ⟨o', z⟩ := I.base.there b o e hx
    exact ⟨o', (sb.2 b (far e)).trans z⟩
  · by_cases hj : j = i
    · subst hj
      rw [List.getElem?_set_self iσ] at e2
      cases e2
    · rw [List.getElem?_set_ne (Ne.symm hj)] at e2
      obtain ⟨u', r', q⟩ := hl j y v' e1 e2 e3
      refine ⟨u', r', ?_⟩
      rcases q with ⟨k, e⟩ | ⟨k, c, e, z⟩
      · have ny : y ≠ x := fun e => hj (nodup_ix hN e1 (e ▸ hi))
        exact .inl ⟨k, by simp [ny, e]⟩
      · exact .inr ⟨k, c, e, z.sameBut sb (cne y c e)⟩
  · obtain ⟨w', z⟩ := I.cell y c e
    exact ⟨w', z.sameBut sb (cne y c e)⟩
  · obtain ⟨e, n, ne, nf, d⟩ := I.pin p hp
    exact ⟨(sb.2 p.1 ne).trans e, n, ne, nf, d⟩
  · refine (I.hok b ob e).stay (fun c w' hc q => (sb.2 c ?_).trans q) (fun _ q => q) fun _ _ q => q
    rintro rfl
    rcases hc with rfl | hc
    · rw [I.free] at e
      cases e
    · rw [I.free] at hc
      cases hc
end
/-- what is wanted behind a suite whose name i is let go -/
def Ends.drop (D : Ends) (i : Nat) : Ends := { nx := fun σ H => D.nx (σ.set i none) H, rt := D.rt, bk := fun σ H => D.bk (σ.set i none) H, ct := fun σ H => D.ct (σ.set i none) H }
section
variable {X : Cx}
/-- an exception of a callee is met by a clause that names a class above its own, and kept -/
theorem caught_as {pins : List (Addr × Obj)} {σ : St} {H : Hp} {s s' : Shared} {E1 : XK} {ev : Value} {x en : Str} {B C : Addr} {np pos : Pos} {b₀ : Stmt} {suite : List Stmt} {rest : List ExceptHandler} {D : Ends} {th : TS} {Ex : Value → Shared → Prop} {i : Nat}
    (I : Inv X pins σ H s) (stk : X.stack = X.env :: X.outer) (hf : X.env.frame = some X.env.locals) (O : ExcC X.K X.mg x B) (hg : Gl X x) (hm : PySem.W.exmOne X.K (.ref C) (.ref B) = some true) (hex : X.ex = []) (hN : X.N.Nodup) (hi : X.N[i]? = some en) (hk : X.env.kindOf en = some .local) (h : CXE X.prog X.w X.stack H s E1 ev s')
    (hE : ∀ c o H', E1 c o H' → c = .ref C ∧ ∀ e : Addr, H' e = none → th (D.drop i) (σ.set i (some (.ref e))) (upd H' e (excO C e))) (hb : ∀ e : Addr, PSs (X.inH e) (b₀ :: suite) th) (hdb : (x == ("__debug__" : Str)) = false := by decide) :
    wpAny (model X.prog X.w) X.A (noteFrame ev X.env) (fun _ s₂ => wpAny (model X.prog X.w) X.A (setFlight ev none) (fun _ s₃ =>
      wpAny (model X.prog X.w) X.A (handleBy ev X.env (.ExceptHandler (some (.Name x np)) (some en) (b₀ :: suite) pos :: rest)) (SP X pins D) Ex s₃) Ex s₂) Ex s' := by
  obtain ⟨ea, t, cls, H', B', rfl, os, bare, un, hok, fl, big, q⟩ := h
  obtain ⟨rfl, rd⟩ := hE _ _ _ q
  have hfr := I.ok.frames
  rw [stk] at hfr
  have fr : ∀ b ∈ frs X.stack, H b = none ∧ ∀ o, s'.heap.get? b = some o → ∀ vs, o.data ≠ .fields vs := fun b hb => ⟨I.stkFree b hb, fun o eo => by
    obtain ⟨_, o', eo', nf⟩ := fl.2.2.1.mem hb
    rw [eo] at eo'
    cases eo'
    exact nf⟩
  have J : ∀ h2 : Heap, B'.StaysIn h2 → s'.heap.UpToSlots h2 → Inv X pins σ H' { s' with heap := h2 } := fun h2 st2 sl =>
    I.call' (s' := { s' with heap := h2 }) (ch := []) os (Un.fly un big fl.1 st2 sl fr) (HOk.fly hok big fl.1 st2) bare fun b z => absurd z (by simp)
  have hn : H' ea = none := by
    cases hz : H' ea with
    | none => rfl
    | some o =>
      obtain ⟨ob, e⟩ := big.tr ea o hz
      rw [fl.2.1] at e
      cases e
  have new : ∀ b o, s.heap.get? b = some o → b ≠ ea := fun b o e z => by
    subst z
    by_cases hb : b ∈ frs X.stack
    · obtain ⟨_, o', eo', nf⟩ := fl.2.2.1.mem hb
      obtain ⟨oe', vs, e1, _, e2, _⟩ := fl.first
      rw [eo'] at e1
      cases e1
      exact nf vs e2
    · obtain ⟨ob, e1⟩ := big.old b o e hb
      rw [fl.2.1] at e1
      cases e1
  have fl0 := fl
  rw [stk] at fl0
  refine wpAny_looks_onW (L := X.env.locals) hfr hf fl0 fun h4 hheld up4 => ?_
  refine wpAny_landsW hheld fun h5 fl5 up5 => ?_
  have up45 := up4.trans up5
  have I5 := (J h5 fl5.1 up45).inH ea
  obtain ⟨oe, he, hc⟩ := fl5.there
  refine wpAny_handleBy_cons (codeAny_handlers_test (ld_glob I5 hg O.bound ?_ hdb)) (by intro z; cases z)
  have LT : PySem.W.Looks (model X.prog X.w) h5 (typeOf (.ref ea)) (.ref C) := hc ▸ (PySem.W.Looks.ld he).andThen .now
  refine (PySem.W.exm_one I5.kIn LT hm).here (codeAny_handlers_suite_as ?_)
  refine lands_againW fl5 fun h6 fl6 up6 => ?_
  have I6 := (J h6 fl6.1 (up45.trans up6)).inH ea
  have I7 := I6.track (a := ea) (o := excO C ea) hn (by
    cases hz : X.s₀.heap.get? ea with
    | none => rfl
    | some o =>
      obtain ⟨o', e⟩ := I.base.there ea o hz (by rw [hex]; exact List.not_mem_nil)
      exact absurd rfl (new ea o' e)) (fun z => by
    obtain ⟨m, ⟨o', _, _, e, _⟩, _⟩ := I.loc
    exact new _ o' e z.symm) (fun y c e z => by
    obtain ⟨v, o', e', _⟩ := I.cell y c e
    exact new _ o' e' z) (fun p hp z => new _ _ (I.pin p hp).1 z) (excO_ok fl6.there)
  refine store_ok (X := X.inH ea) I7 hN hi (.inl hk) (show RelV (.ref ea) (.ref ea) from rfl) (fun s8 I8 => ?_) (.inr hk)
  refine wpAny_mono (hb ea pins _ _ _ (D.drop i) I8 (rd ea hn)) (fun f s9 z => ?_) fun _ _ z => False.elim z
  cases f with
  | next =>
    obtain ⟨σ', H2, I9, q9⟩ := z
    exact goes_ok (I9.outH I.ok) hN hi hk fun s10 I10 => ⟨_, _, I10, q9⟩
  | brk =>
    obtain ⟨σ', H2, I9, q9⟩ := z
    exact goes_ok (I9.outH I.ok) hN hi hk fun s10 I10 => ⟨_, _, I10, q9⟩
  | cont =>
    obtain ⟨σ', H2, I9, q9⟩ := z
    exact goes_ok (I9.outH I.ok) hN hi hk fun s10 I10 => ⟨_, _, I10, q9⟩
  | ret u =>
    obtain ⟨v, σ', H2, I9, r, q9⟩ := z
    exact goes_ok (I9.outH I.ok) hN hi hk fun s10 I10 => ⟨v, _, _, I10, r, q9⟩
/-- try with one clause: except x as en -/
theorem ps_try_as {n en : Str} {B C : Addr} {np hpos pos : Pos} {body : List Stmt} {b₀ : Stmt} {suite : List Stmt} {tx : TX} {th : TS} {i : Nat} (stk : X.stack = X.env :: X.outer) (hfr : X.env.frame = some X.env.locals) (hb : PXs X body tx) (O : ExcC X.K X.mg n B) (hg : Gl X n)
    (hm : PySem.W.exmOne X.K (.ref C) (.ref B) = some true) (hex : X.ex = []) (hN : X.N.Nodup) (hi : X.N[i]? = some en) (hk : X.env.kindOf en = some .local)
    (hh : ∀ e : Addr, PSs (X.inH e) (b₀ :: suite) th) (hdb : (n == ("__debug__" : Str)) = false := by decide) :
    PS X (.Try body [.ExceptHandler (some (.Name n np)) (some en) (b₀ :: suite) hpos] [] [] pos) (fun D σ H => tx (fun c σ' H' => c = .ref C ∧ ∀ e : Addr, H' e = none → th (D.drop i) (σ'.set i (some (.ref e))) (upd H' e (excO C e))) D σ H) := by
  intro pins s σ H D I h
  refine wpAny_Try_except (wpAny_mono (hb pins s σ H D _ I h) (fun f s1 q => ?_) fun ev s1 q => ?_)
  · cases f with
    | next => exact wpAny_execs_nil q
    | ret v => exact q
    | brk => exact q
    | cont => exact q
  · obtain ⟨s₁, σ₁, H₁, E1, I1, hx, hE⟩ := q
    exact caught_as I1 stk hfr O hg hm hex hN hi hk hx (fun c o H' z => hE c o H' z) hh hdb
end
end L2
/-! k08: places and points -/
namespace Sp8
open PySem PySem.Spec L2 Mth Sp1 Sp2 Sp3
/-- a thing; where it is a pair of numbers, they are not large -/
structure SmT (H : Hp) (v : V) : Prop where
  th : Thing H v
  sml : ∀ (p : Addr) (t b : Int), v = .ref p → H p = some (.tup [.int t, .int b]) → bits t ≤ 120 ∧ bits b ≤ 120
theorem SmT.mono {H H' : Hp} {v : V} (h : SmT H v) (s : Same H H') : SmT H' v := by
  refine ⟨Thing.mono h.th s, fun p t b e1 e2 => ?_⟩
  obtain ⟨k, kn⟩ := h.th.kn
  subst e1
  have e3 : H p = some (.tup [.int t, .int b]) := by
    cases kn with
    | lst e => rw [s _ _ e] at e2; cases e2
    | tup e => rw [s _ _ e] at e2; cases e2; exact e
    | dict e => rw [s _ _ e] at e2; cases e2
  exact h.sml p t b rfl e3
theorem smt_two {H : Hp} {p : Addr} {t b : Int} (e : H p = some (.tup [.int t, .int b])) (bt : bits t ≤ 120) (bb : bits b ≤ 120) : SmT H (.ref p) := by
  refine ⟨th_tup e fun v hv => ?_, fun p' t' b' e1 e2 => ?_⟩
  · simp only [List.mem_cons, List.not_mem_nil, or_false] at hv
    rcases hv with rfl | rfl <;> exact ⟨_, .int _⟩
  · cases e1
    rw [e] at e2
    cases e2
    exact ⟨bt, bb⟩
theorem smt_lst {H : Hp} {p : Addr} {xs : List V} (e : H p = some (.lst xs)) : SmT H (.ref p) := ⟨th_lst e, fun p' t b e1 e2 => by
  cases e1
  rw [e] at e2
  cases e2⟩
theorem smt_flat {H : Hp} {v : V} {k : String} (kn : Kn H v k) (h : ∀ p, v ≠ .ref p) : SmT H v := ⟨th_flat kn h, fun p _ _ e => absurd e (h p)⟩
theorem smt_odd {H : Hp} {p : Addr} {xs : List V} (e : H p = some (.tup xs)) (kn : ∀ y ∈ xs, ∃ k, Kn H y k) (h : ∀ t b : Int, xs ≠ [.int t, .int b]) : SmT H (.ref p) := ⟨th_tup e kn, fun p' t b e1 e2 => by
  cases e1
  rw [e] at e2
  cases e2
  exact absurd rfl (h t b)⟩
def spThing8 : Sp := fun vs H Q _ => ∃ (l q : Addr) (qs : Crn) (t b n far : Int), vs = [.ref l, .ref q, .int n, .int far] ∧ LineAt H l qs ∧ (1 ≤ qs.length ∧ qs.length ≤ 10) ∧ H q = some (.tup [.int t, .int b]) ∧ (bits t ≤ 100 ∧ bits b ≤ 60 ∧ bits far ≤ 45) ∧ ∀ (v : V) (H' : Hp), Same H H' → SmT H' v → Q v H'
def spRef8 : Sp := fun vs H Q _ => ∃ (l : Addr) (qs : Crn) (x : V), vs = [.ref l, x] ∧ LineAt H l qs ∧ (1 ≤ qs.length ∧ qs.length ≤ 20) ∧ Thing H x ∧ placeV (lst_ qs) H x = false ∧ ∀ H', Same H H' → Q (.bl true) H'
def spRight8 : Sp := fun vs H Q _ => ∃ (l p : Addr) (qs : Crn) (t b : Int), vs = [.ref l, .ref p] ∧ LineAt H l qs ∧ (1 ≤ qs.length ∧ qs.length ≤ 20) ∧ Plc H p t b (lst_ qs) ∧ ∀ H', Same H H' → Q (.bl true) H'
end Sp8
/-! try: an if ahead of the calls -/
namespace L2
open PySem PySem.Spec PyProof.Rows
theorem px_if {X : Cx} {c : Expr} {a b : List Stmt} {tc : TT} {ta tb : TX} {pos : Pos} (hc : PT X.nox c tc) (ha : PXs X a ta) (hb : PXs X b tb) : PX X (.If c a b pos) (fun R D σ H => tc σ H fun d H1 => if d = true then ta R D σ H1 else tb R D σ H1) := by
  intro pins s σ H D R I h
  refine wpAny_If (wpAny_mono (hc pins s σ H _ (I.wish _) h) (fun d s1 ⟨H1, I1, q1⟩ => ?_) fun _ _ z => False.elim z)
  cases d with
  | true => exact ha pins s1 σ H1 D R I1.unwish q1
  | false => exact hb pins s1 σ H1 D R I1.unwish q1
theorem bt_ValueError : bootBuiltins "ValueError" = some (.type "ValueError") := by decide +kernel
/-- a tuple of whole numbers that the module holds -/
theorem SqT.mod {K : PySem.W.Frag} {H : Hp} {a : Addr} {oc : Value} {od : Option Addr} {its : Array Value} {n : Nat} {sl : Array (Option Value)} {xs : List V} (hk : K.lookup a = some ⟨oc, od, .seq its n, sl⟩) (hc : oc = .type "tuple") (hz : its.size ≤ 100) (r : Vals xs its.toList) : SqT K H a xs :=
  .inr ⟨_, its, n, hk, hc, rfl, Nat.le_of_lt (small1000 (by omega)), r⟩
end L2
/-! k24: gates -/
namespace Sp24
open PySem PySem.Spec L2 Mth Sp1 Sp2 Sp3 Sp8
def sg (n : Int) : Int := if n > 0 then 1 else if n < 0 then -1 else 0
def ssq (n : Int) : Int := n * (if n < 0 then -n else n)
def swr (w p u : Int) : Int := sg (ssq w + ssq p * u)
def swrs (w p u s b : Int) : Int := if sg w * sg (ssq p * u + ssq s * b) ≥ 0 then sg (sg w + sg (ssq p * u + ssq s * b)) else sg w * swr (w * w - p * p * u - s * s * b) (-2 * p * s) (u * b)
def ro (a0 a1 a2 a3 b0 b1 b2 b3 : Int) : Int := swrs (a0 * b3 - b0 * a3) (a1 * b3) a2 (-b1 * a3) b2
theorem sg_small (n : Int) : -1 ≤ sg n ∧ sg n ≤ 1 := by
  unfold sg
  split
  · omega
  · split <;> omega
theorem sg_bits (n : Int) : bits (sg n) ≤ 10 := bits_small (by have := sg_small n; omega) (by have := sg_small n; omega)
theorem ssq_bits {n : Int} {k : Nat} (h : bits n ≤ k) : bits (ssq n) ≤ k + k := bits_mul h (bits_abs h)
def spSign : Sp := fun vs H Q _ => ∃ n : Int, vs = [.int n] ∧ Q (.int (sg n)) H
def spSsq : Sp := fun vs H Q _ => ∃ n : Int, vs = [.int n] ∧ bits n ≤ 20000 ∧ Q (.int (ssq n)) H
def spSwr : Sp := fun vs H Q _ => ∃ w p u : Int, vs = [.int w, .int p, .int u] ∧ (bits w ≤ 8000 ∧ bits p ≤ 8000 ∧ bits u ≤ 8000) ∧ Q (.int (swr w p u)) H
def spSwrs : Sp := fun vs H Q _ => ∃ w p u s b : Int, vs = [.int w, .int p, .int u, .int s, .int b] ∧ (bits w ≤ 1000 ∧ bits p ≤ 1000 ∧ bits u ≤ 1000 ∧ bits s ≤ 1000 ∧ bits b ≤ 1000) ∧ Q (.int (swrs w p u s b)) H
structure Rt (K : PySem.W.Frag) (H : Hp) (p : Addr) (a0 a1 a2 a3 : Int) : Prop where
  at_ : SqT K H p [.int a0, .int a1, .int a2, .int a3]
  b0 : bits a0 ≤ 450
  b1 : bits a1 ≤ 450
  b2 : bits a2 ≤ 1000
  b3 : bits a3 ≤ 450
def spRo (K : PySem.W.Frag) : Sp := fun vs H Q _ => ∃ (p q : Addr) (a0 a1 a2 a3 b0 b1 b2 b3 : Int), vs = [.ref p, .ref q] ∧ Rt K H p a0 a1 a2 a3 ∧ Rt K H q b0 b1 b2 b3 ∧ Q (.int (ro a0 a1 a2 a3 b0 b1 b2 b3)) H
/-- a corner -/
structure Cn (H : Hp) (p : Addr) (x y : Int) : Prop where
  at_ : H p = some (.tup [.int x, .int y])
  bx : bits x ≤ 50
  by_ : bits y ≤ 50
theorem Cn.mono {H H' : Hp} {p : Addr} {x y : Int} (c : Cn H p x y) (s : Same H H') : Cn H' p x y := ⟨s _ _ c.at_, c.bx, c.by_⟩
/-- a square: not large -/
structure Sq (H : Hp) (p : Addr) (a b : Int) : Prop where
  at_ : H p = some (.tup [.int a, .int b])
  ba : bits a ≤ 140
  bb : bits b ≤ 140
theorem Sq.mono {H H' : Hp} {p : Addr} {x y : Int} (c : Sq H p x y) (s : Same H H') : Sq H' p x y := ⟨s _ _ c.at_, c.ba, c.bb⟩
def lo (x y x' y' a b : Int) : Int := sg (a - ((x' - x) * (x' - x) + (y' - y) * (y' - y)) * b)
def spLo : Sp := fun vs H Q _ => ∃ (p q r : Addr) (x y x' y' a b : Int), vs = [.ref p, .ref q, .ref r] ∧ Cn H p x y ∧ Cn H q x' y' ∧ Sq H r a b ∧ Q (.int (lo x y x' y' a b)) H
def rLen (bx by_ ex ey : Int) : Int := (ex - bx) * (ex - bx) + (ey - by_) * (ey - by_)
def rAl (cx cy bx by_ ex ey : Int) : Int := (cx - bx) * (ex - bx) + (cy - by_) * (ey - by_)
def rBe (cx cy bx by_ ex ey : Int) : Int := (cx - bx) * (ey - by_) - (cy - by_) * (ex - bx)
def rUn (cx cy bx by_ ex ey a b : Int) : Int := b * (a * rLen bx by_ ex ey - b * rBe cx cy bx by_ ex ey * rBe cx cy bx by_ ex ey)
def spReach : Sp := fun vs H Q _ => ∃ (pc pb pe ps : Addr) (cx cy bx by_ ex ey a b : Int), vs = [.ref pc, .ref pb, .ref pe, .ref ps] ∧ Cn H pc cx cy ∧ Cn H pb bx by_ ∧ Cn H pe ex ey ∧ Sq H ps a b ∧
  ∀ r H', Same H H' → H' r = some (.tup [.int (rAl cx cy bx by_ ex ey * b), .int (rUn cx cy bx by_ ex ey a b), .int (rLen bx by_ ex ey * b)]) → Q (.ref r) H'
/-- where part_within tells None -/
def pwN (cx cy bx by_ ex ey a b room : Int) : Bool :=
  if [bx, by_] = [ex, ey] then !decide (lo cx cy bx by_ a b ≥ room)
  else decide (sg (rUn cx cy bx by_ ex ey a b) < room) || (decide (ro 1 0 0 1 (rAl cx cy bx by_ ex ey * b) (-1) (rUn cx cy bx by_ ex ey a b) (rLen bx by_ ex ey * b) < room) ||
    decide (ro (rAl cx cy bx by_ ex ey * b) 1 (rUn cx cy bx by_ ex ey a b) (rLen bx by_ ex ey * b) 0 0 0 1 < room))
theorem pwN_mono {cx cy bx by_ ex ey a b : Int} (h : pwN cx cy bx by_ ex ey a b 0 = true) : pwN cx cy bx by_ ex ey a b 1 = true := by
  unfold pwN at h ⊢
  split at h
  · rename_i e
    rw [if_pos e]
    simp only [Bool.not_eq_true', decide_eq_false_iff_not] at h ⊢
    omega
  · rename_i e
    rw [if_neg e]
    simp only [Bool.or_eq_true, decide_eq_true_eq] at h ⊢
    omega
def spPw : Sp := fun vs H Q _ => ∃ (pc pb pe ps : Addr) (cx cy bx by_ ex ey a b room : Int), vs = [.ref pc, .ref pb, .ref pe, .ref ps, .int room] ∧ Cn H pc cx cy ∧ Cn H pb bx by_ ∧ Cn H pe ex ey ∧ Sq H ps a b ∧
  ∀ (v : V) (H' : Hp), Same H H' → (decide (v = .non) = pwN cx cy bx by_ ex ey a b room) → Q v H'
/-- what is a square -/
def sqV (H : Hp) : V → Bool
  | .ref p => match H p with
    | some (.tup [.int a, .int b]) => lowB a b && !decide (a < 0)
    | _ => false
  | _ => false
def spLookS (C : Addr) : Sp := fun vs H Q E => ∃ x, vs = [x] ∧ Thing H x ∧ (sqV H x = false → E (.ref C) none H) ∧ (sqV H x = true → Q .non H)
def spGate (C : Addr) (room : Int) : Sp := fun vs H Q E => ∃ (pc pb pe : Addr) (cx cy bx by_ ex ey : Int) (x : V), vs = [.ref pc, .ref pb, .ref pe, x] ∧ Cn H pc cx cy ∧ Cn H pb bx by_ ∧ Cn H pe ex ey ∧ Thing H x ∧
  ((sqV H x = false ∧ E (.ref C) none H) ∨ (sqV H x = true ∧ ∃ (ps : Addr) (a b : Int), x = .ref ps ∧ Sq H ps a b ∧ ∀ (v : V) (H' : Hp), Same H H' → (decide (v = .non) = pwN cx cy bx by_ ex ey a b room) → Q v H'))
theorem sqV_low {H : Hp} {x : V} (h : lowV H x = false) : sqV H x = false := by
  unfold sqV
  split
  · split
    · rename_i p _ a b e
      rw [lowV_two e] at h
      rw [h, Bool.false_and]
    · rfl
  · rfl
theorem sqV_two {H : Hp} {p : Addr} {a b : Int} (e : H p = some (.tup [.int a, .int b])) : sqV H (.ref p) = (lowB a b && !decide (a < 0)) := by
  simp only [sqV, e]
end Sp24
/-! all(..) of a list of truths -/
namespace L2
open PySem PySem.Spec PyProof.Rows
theorem bt_all : bootBuiltins "all" = some (.builtin "all") := by decide +kernel
theorem bl_at {bs : List Bool} {us : List Value} {i : Nat} {v : Value} (r : Vals (bs.map V.bl) us) (h : us[i]? = some v) : ∃ b, bs[i]? = some b ∧ v = .bool b := by
  have hl := r.length
  rw [List.length_map] at hl
  have hi : i < us.length := (List.getElem?_eq_some_iff.mp h).1
  have hj : i < bs.length := by omega
  obtain ⟨u, e, q⟩ := r.get (i := i) (x := .bl bs[i]) (by rw [List.getElem?_map, List.getElem?_eq_getElem hj]; rfl)
  rw [h] at e
  cases e
  exact ⟨bs[i], List.getElem?_eq_getElem hj, q⟩
theorem all_range (bs : List Bool) : ((List.range bs.length).all fun i => (bs[i]?).getD true) = bs.all id := by
  rw [Bool.eq_iff_iff]
  simp only [List.all_eq_true, List.mem_range, id]
  constructor
  · intro h b hb
    obtain ⟨i, hi, rfl⟩ := List.mem_iff_getElem.mp hb
    have z := h i hi
    rw [List.getElem?_eq_getElem hi] at z
    exact z
  · intro h i hi
    rw [List.getElem?_eq_getElem hi]
    exact h _ (List.getElem_mem hi)
theorem call_all {X : Cx} (hc : X.calm = true) : CallR X (.builtin "all") (fun xs H Q => ∃ (p : Addr) (bs : List Bool), xs = [.ref p] ∧ SqL X.K H p (bs.map V.bl) ∧ Q (.bl (bs.all id)) H) := by
  intro pins s σ H xs us Q I r h
  obtain ⟨p, bs, rfl, hq, q⟩ := h
  obtain ⟨u, rfl, rx⟩ := vals1 r
  cases rx
  obtain ⟨its, rv, pl, _⟩ := I.list hq
  have hl := pl.isList
  have lt : p < s.heap.objs.size := by
    obtain ⟨_, e, _⟩ := hl
    exact Heap.lt_size e
  refine call_all_walk (wpAny_pyIter_list hl ?_)
  refine ⟨s.heap.objs.size, [s.heap.objs.size, p], [s.heap.objs.size], its.toArray.size, _, _, fun i => (bs[i]?).getD true, rfl, Walks.list (A := X.A.in1) (I.ok.hd hc) _ p (Nat.ne_of_lt lt) its.toArray, ?_⟩
  refine ⟨⟨⟨_, Heap.get?_push_size _ rfl, rfl, rfl⟩, hl.push _⟩, fun i v s' Q' E' hP hQ => ?_, fun h' tk hk => ?_⟩
  · obtain ⟨b, e, rfl⟩ := bl_at rv (by simpa using hP)
    simp only [e, Option.getD_some] at hQ
    exact wpAny_truthy_bool hQ
  · have el : its.toArray.size = bs.length := by
      have := rv.length
      rw [List.length_map] at this
      rw [List.size_toArray]
      omega
    rw [el, all_range]
    refine ⟨.bl _, H, I.kept (t' := tk) fun b o e => ?_, rfl, q⟩
    exact hk b o (fun hm => by rw [List.mem_singleton.mp hm] at e; exact Nat.lt_irrefl _ (Heap.lt_size e)) (Heap.get?_push_of_some _ e)
end L2
/-! k07: lines -/
namespace Sp7
open PySem PySem.Spec L2 Mth Sp1 Sp2 Sp3
def larg : Int := 999999999999
def smallV : V → Bool
  | .int a => decide (-larg ≤ a) && decide (a ≤ larg)
  | _ => false
def cornL : List V → Bool
  | [y, z] => smallV y && smallV z
  | _ => false
def cornV (H : Hp) : V → Bool
  | .ref p => match H p with
    | some (.tup xs) => cornL xs
    | _ => false
  | _ => false
def lineL (H : Hp) (xs : List V) : Bool := (decide ((1 : Int) ≤ (xs.length : Int)) && decide ((xs.length : Int) ≤ 10)) && xs.all (cornV H)
def lineV (H : Hp) : V → Bool
  | .ref p => match H p with
    | some (.lst xs) => lineL H xs
    | _ => false
  | _ => false
/-- a thing of a known kind; a list's parts are things -/
structure LTh (H : Hp) (v : V) : Prop where
  kn : ∃ t, Kn H v t
  parts : ∀ p xs, v = .ref p → H p = some (.lst xs) → xs.length ≤ 100 ∧ ∀ y ∈ xs, Thing H y
theorem cornV_tup {H : Hp} {p : Addr} {xs : List V} (e : H p = some (.tup xs)) : cornV H (.ref p) = cornL xs := by simp only [cornV, e]
theorem cornV_same {H H' : Hp} {x : V} {k : String} (kn : Kn H x k) (s : Same H H') : cornV H' x = cornV H x := by
  cases kn with
  | non => rfl
  | bl b => rfl
  | int i => rfl
  | str x => rfl
  | lst e => simp only [cornV, e, s _ _ e]
  | tup e => simp only [cornV, e, s _ _ e]
  | dict e => simp only [cornV, e, s _ _ e]
theorem cornL_len {xs : List V} (h : xs.length ≠ 2) : cornL xs = false := by
  unfold cornL
  split
  · exact absurd rfl h
  · rfl
theorem smallV_no {v : V} (h : ∀ a, v ≠ .int a) : smallV v = false := by
  unfold smallV
  split
  · exact absurd rfl (h _)
  · rfl
theorem lineV_lst {H : Hp} {p : Addr} {xs : List V} (e : H p = some (.lst xs)) : lineV H (.ref p) = lineL H xs := by simp only [lineV, e]
theorem Kn.cases_lst {H : Hp} {y : V} {t : String} (k : Kn H y t) : (∃ p xs, y = .ref p ∧ H p = some (.lst xs) ∧ t = "list") ∨ (lineV H y = false ∧ isSub t "list" = false) := by
  cases k with
  | lst e => exact .inl ⟨_, _, rfl, e, rfl⟩
  | non => exact .inr ⟨rfl, by decide⟩
  | bl b => exact .inr ⟨rfl, by decide⟩
  | str x => exact .inr ⟨rfl, by decide⟩
  | int a => exact .inr ⟨rfl, by decide⟩
  | tup e => exact .inr ⟨by simp only [lineV, e], by decide⟩
  | dict e => exact .inr ⟨by simp only [lineV, e], by decide⟩
theorem Kn.cases_tp {H : Hp} {y : V} {t : String} (k : Kn H y t) : (∃ p xs, y = .ref p ∧ H p = some (.tup xs) ∧ t = "tuple") ∨ (cornV H y = false ∧ isSub t "tuple" = false) := by
  cases k with
  | tup e => exact .inl ⟨_, _, rfl, e, rfl⟩
  | non => exact .inr ⟨rfl, by decide⟩
  | bl b => exact .inr ⟨rfl, by decide⟩
  | str x => exact .inr ⟨rfl, by decide⟩
  | int a => exact .inr ⟨rfl, by decide⟩
  | lst e => exact .inr ⟨by simp only [cornV, e], by decide⟩
  | dict e => exact .inr ⟨by simp only [cornV, e], by decide⟩
theorem bad_line {H : Hp} {p : Addr} {xs : List V} {c : V} (e : H p = some (.lst xs)) (hc : c ∈ xs) (h : cornV H c = false) : lineV H (.ref p) = false := by
  rw [lineV_lst e]
  unfold lineL
  have z : xs.all (cornV H) = false := by
    rw [Bool.eq_false_iff]
    intro y
    rw [List.all_eq_true] at y
    rw [y c hc] at h
    cases h
  rw [z, Bool.and_false]
def Sm (x : Int) : Prop := -larg ≤ x ∧ x ≤ larg
structure LineM (H : Hp) (l : Addr) (qs : Crn) : Prop where
  lst : H l = some (.lst (qs.map fun q => V.ref q.1))
  crn : ∀ q ∈ qs, H q.1 = some (.tup [.int q.2.1, .int q.2.2]) ∧ Sm q.2.1 ∧ Sm q.2.2
theorem LineM.mono {H H' : Hp} {l : Addr} {qs : Crn} (L : LineM H l qs) (s : Same H H') : LineM H' l qs := ⟨s _ _ L.lst, fun q h => ⟨s _ _ (L.crn q h).1, (L.crn q h).2⟩⟩
def spLineM : Sp := fun vs H Q _ => ∃ (pn : Addr) (ns : List Int) (m : Nat), vs = [.ref pn, .int (m : Int)] ∧ H pn = some (.lst (ns.map V.int)) ∧ 1 ≤ m ∧ m ≤ 10 ∧ 4 + 2 * m ≤ ns.length ∧
  ∀ (l : Addr) (qs : Crn) (H' : Hp), LineM H' l qs → 1 ≤ qs.length → qs.length ≤ m → Same H H' → Q (.ref l) H'
theorem sm_bits {x : Int} (h : Sm x) : bits x ≤ 50 := by
  obtain ⟨a, b⟩ := h
  unfold larg at a b
  refine bits_of (n := 50) ?_
  show _ < 1125899906842624
  omega
/-- a line of small numbers -/
structure LineS (H : Hp) (l : Addr) (qs : Crn) : Prop where
  at_ : LineAt H l qs
  sml : ∀ q ∈ qs, (-larg ≤ q.2.1 ∧ q.2.1 ≤ larg) ∧ (-larg ≤ q.2.2 ∧ q.2.2 ≤ larg)
  len : 1 ≤ qs.length ∧ qs.length ≤ 10
theorem LineM.s {H : Hp} {l : Addr} {qs : Crn} (L : LineM H l qs) (h1 : 1 ≤ qs.length) (h2 : qs.length ≤ 10) : LineS H l qs := ⟨⟨L.lst, fun q h => ⟨(L.crn q h).1, sm_bits (L.crn q h).2.1, sm_bits (L.crn q h).2.2⟩⟩, fun q h => (L.crn q h).2, h1, h2⟩
theorem LineS.mono {H H' : Hp} {l : Addr} {qs : Crn} (L : LineS H l qs) (s : Same H H') : LineS H' l qs := ⟨L.at_.mono s, L.sml, L.len⟩
def spSmall : Sp := fun vs H Q _ => ∃ x t, vs = [x] ∧ Kn H x t ∧ Q (.bl (smallV x)) H
def spCorner : Sp := fun vs H Q _ => ∃ x, vs = [x] ∧ Thing H x ∧ Q (.bl (cornV H x)) H
def spIsLine : Sp := fun vs H Q _ => ∃ x, vs = [x] ∧ LTh H x ∧ ∀ H', Same H H' → Q (.bl (lineV H x)) H'
def spLineOf (C : Addr) : Sp := fun vs H Q E => ∃ x, vs = [x] ∧ LTh H x ∧ ((lineV H x = false ∧ ∀ H', Same H H' → E (.ref C) none H') ∨
  (∃ p qs, x = .ref p ∧ LineS H p qs ∧ ∀ (r : Addr) (rs : Crn) (H' : Hp), H r = none → (∀ z ∈ rs, H z.1 = none) → rs.map (·.2) = qs.map (·.2) → LineAt H' r rs → Same H H' → Q (.ref r) H'))
def spSpoilt : Sp := fun vs H Q _ => ∃ (l : Addr) (qs : Crn) (way at_ far : Int), vs = [.ref l, .int way, .int at_, .int far] ∧ LineS H l qs ∧ (0 ≤ way ∧ way < 17) ∧ (0 ≤ at_ ∧ at_ < (qs.length : Int)) ∧ 0 ≤ far ∧ ∀ (v : V) (H' : Hp), Same H H' → LTh H' v → lineV H' v = false → Q v H'
def spRef7 : Sp := fun vs H Q _ => ∃ x, vs = [x] ∧ LTh H x ∧ lineV H x = false ∧ ∀ H', Same H H' → Q (.bl true) H'
theorem LineS.good {H : Hp} {l : Addr} {qs : Crn} (L : LineS H l qs) : lineV H (.ref l) = true := by
  rw [lineV_lst L.at_.lst]
  unfold lineL
  have hl : (qs.map fun (q : Addr × Int × Int) => V.ref q.1).length = qs.length := List.length_map _
  have h1 := L.len
  rw [hl, decide_eq_true (by omega : (1 : Int) ≤ (qs.length : Int)), decide_eq_true (by omega : (qs.length : Int) ≤ 10)]
  show (qs.map _).all (cornV H) = true
  rw [List.all_eq_true]
  intro v hv
  obtain ⟨q, hq, rfl⟩ := List.mem_map.mp hv
  rw [cornV_tup (L.at_.crn q hq).1]
  show (smallV (.int q.2.1) && smallV (.int q.2.2)) = true
  obtain ⟨⟨a, b⟩, c, d⟩ := L.sml q hq
  simp only [smallV, decide_eq_true a, decide_eq_true b, decide_eq_true c, decide_eq_true d, Bool.and_self]
theorem LineS.th {H : Hp} {l : Addr} {qs : Crn} (L : LineS H l qs) : LTh H (.ref l) := by
  refine ⟨⟨_, .lst L.at_.lst⟩, fun p xs e1 e2 => ?_⟩
  cases e1
  rw [L.at_.lst] at e2
  cases e2
  refine ⟨by rw [List.length_map]; have := L.len; omega, fun y hy => ?_⟩
  obtain ⟨q, hq, rfl⟩ := List.mem_map.mp hy
  exact th_tup (L.at_.crn q hq).1 fun v hv => by
    simp only [List.mem_cons, List.not_mem_nil, or_false] at hv
    rcases hv with rfl | rfl <;> exact ⟨_, .int _⟩
theorem LTh.mono {H H' : Hp} {v : V} (h : LTh H v) (s : Same H H') : LTh H' v := by
  obtain ⟨⟨t, k⟩, pt⟩ := h
  refine ⟨⟨t, k.mono s⟩, fun p xs e1 e2 => ?_⟩
  subst e1
  have e3 : H p = some (.lst xs) := by
    cases k with
    | lst e => rw [s _ _ e] at e2; cases e2; exact e
    | tup e => rw [s _ _ e] at e2; cases e2
    | dict e => rw [s _ _ e] at e2; cases e2
  obtain ⟨hl, hy⟩ := pt p xs rfl e3
  exact ⟨hl, fun y m => Thing.mono (hy y m) s⟩
theorem lineV_same {H H' : Hp} {v : V} (h : LTh H v) (s : Same H H') : lineV H' v = lineV H v := by
  obtain ⟨⟨t, k⟩, pt⟩ := h
  cases k with
  | non => rfl
  | bl b => rfl
  | int i => rfl
  | str x => rfl
  | @lst a xs e =>
    rw [lineV_lst e, lineV_lst (s _ _ e)]
    unfold lineL
    have z : xs.all (cornV H') = xs.all (cornV H) := by
      have hp := (pt a xs rfl e).2
      rw [Bool.eq_iff_iff, List.all_eq_true, List.all_eq_true]
      constructor
      · intro h y hy
        obtain ⟨k', kn⟩ := (hp y hy).kn
        rw [← cornV_same kn s]
        exact h y hy
      · intro h y hy
        obtain ⟨k', kn⟩ := (hp y hy).kn
        rw [cornV_same kn s]
        exact h y hy
    rw [z]
  | tup e => simp only [lineV, e, s _ _ e]
  | dict e => simp only [lineV, e, s _ _ e]
theorem lth_lst {H : Hp} {r : Addr} {xs : List V} (e : H r = some (.lst xs)) (hl : xs.length ≤ 100) (h : ∀ y ∈ xs, Thing H y) : LTh H (.ref r) := ⟨⟨_, .lst e⟩, fun p ys e1 e2 => by
  cases e1
  rw [e] at e2
  cases e2
  exact ⟨hl, h⟩⟩
theorem lth_tup {H : Hp} {r : Addr} {xs : List V} (e : H r = some (.tup xs)) : LTh H (.ref r) := ⟨⟨_, .tup e⟩, fun p ys e1 e2 => by
  cases e1
  rw [e] at e2
  cases e2⟩
theorem lth_flat {H : Hp} {v : V} {k : String} (kn : Kn H v k) (h : ∀ p, v ≠ .ref p) : LTh H v := ⟨⟨_, kn⟩, fun p _ e => absurd e (h p)⟩
theorem cut10 {xs : List V} (h : 10 ≤ xs.length) : (cutV xs none (some 10)).length = 10 := by
  unfold cutV
  rw [HT.sIx_none, show HT.sIx xs.length xs.length (some 10) = min 10 xs.length from HT.sIx_nat _ _ 10, List.length_take, List.length_drop]
  omega
theorem th_two {H : Hp} {p : Addr} {y z : V} (e : H p = some (.tup [y, z])) (hy : ∃ t, Kn H y t) (hz : ∃ t, Kn H z t) : Thing H (.ref p) := th_tup e fun x hx => by
  simp only [List.mem_cons, List.not_mem_nil, or_false] at hx
  rcases hx with rfl | rfl
  · exact hy
  · exact hz
def retScope (s : Stmt) : Scope := match s with
  | .Return (some (.Call _ [.ListComp _ _ sc _] _ _)) _ => sc
  | .Return (some (.ListComp _ _ sc _)) _ => sc
  | _ => { kind := .function, names := [], isGenerator := false, isCoroutine := false }
end Sp7
/-! AUTO: the plain parts of a reading, found by their shape -/
namespace L2
open PySem PySem.Spec PyProof.Rows
theorem Same.at {H H' : Hp} {b : Addr} {o : HO} (s : Same H H') (e : H b = some o) : H' b = some o := s b o e
theorem Same.rfl' {H : Hp} : Same H H := fun _ _ e => e
theorem alloc {H : Hp} {o : HO} {Q : Addr → Hp → Prop} (h : ∀ p H1, Same H H1 → H1 p = some o → Q p H1) : ∀ p, H p = none → Q p (upd H p o) := fun p hp => h p _ (Same.new hp) upd_same
theorem bits_add2 {i j : Int} {m n : Nat} (hi : bits i ≤ m) (hj : bits j ≤ n) : bits (i + j) ≤ max m n + 1 := bits_add (bits_le hi (Nat.le_max_left _ _)) (bits_le hj (Nat.le_max_right _ _))
theorem bits_sub2 {i j : Int} {m n : Nat} (hi : bits i ≤ m) (hj : bits j ≤ n) : bits (i - j) ≤ max m n + 1 := bits_sub (bits_le hi (Nat.le_max_left _ _)) (bits_le hj (Nat.le_max_right _ _))
theorem bits_emod {i j : Int} {n : Nat} (hj : 0 < j) (h : bits j ≤ n) : bits (i % j) ≤ n := bits_range (Int.emod_nonneg _ (by omega)) (Int.le_of_lt (Int.emod_lt_of_pos _ hj)) h
theorem bits_ite {c : Prop} [Decidable c] {i j : Int} {m n : Nat} (hi : bits i ≤ m) (hj : bits j ≤ n) : bits (if c then i else j) ≤ max m n := by
  split
  · exact bits_le hi (Nat.le_max_left _ _)
  · exact bits_le hj (Nat.le_max_right _ _)
theorem bits_lit {i : Int} : bits i ≤ bits i := Nat.le_refl _
theorem dec_t {p : Prop} [Decidable p] (h : decide p = true) : p := of_decide_eq_true h
theorem dec_f {p : Prop} [Decidable p] (h : decide p = false) : ¬ p := of_decide_eq_false h
theorem CM.of {i j : Int} {m n : Nat} (hi : bits i ≤ m) (hj : bits j ≤ n) (h : m ≤ 1000000 ∧ n ≤ 1000000) : CM i j := CM.b hi hj (by have : (2:Nat) ^ 20 = 1048576 := by decide
                                                                                                                                     omega) (by have : (2:Nat) ^ 20 = 1048576 := by decide
                                                                                                                                                omega)
theorem bits_of_le {i : Int} {m n : Nat} (h : bits i ≤ m) (hm : m ≤ n) : bits i ≤ n := Nat.le_trans h hm
end L2
namespace L2
open PySem PySem.Spec PyProof.Rows
/-- the tuples stay -/
def SameT (H H' : Hp) : Prop := ∀ b xs, H b = some (.tup xs) → H' b = some (.tup xs)
theorem Same.t {H H' : Hp} (s : Same H H') : SameT H H' := fun b xs e => s b _ e
theorem SameT.refl {H : Hp} : SameT H H := fun _ _ e => e
theorem SameT.trans {H H1 H2 : Hp} (a : SameT H H1) (b : SameT H1 H2) : SameT H H2 := fun c xs e => b c xs (a c xs e)
theorem SameT.at {H H' : Hp} {b : Addr} {xs : List V} (s : SameT H H') (e : H b = some (.tup xs)) : H' b = some (.tup xs) := s b xs e
theorem SameT.upd {H : Hp} {l : Addr} {xs ys : List V} (hl : H l = some (.lst xs)) : SameT H (upd H l (.lst ys)) := fun b zs e => by
  rw [upd_ne (ne_of e hl (by intro z; cases z))]
  exact e
theorem Same.upd {H0 H : Hp} {l : Addr} {o : HO} (s : Same H0 H) (hl : H0 l = none) : Same H0 (upd H l o) := fun b u e => by
  rw [upd_ne (ne_of_none e hl)]
  exact s b u e
/-- a comprehension from where its list is made -/
def CompAt (J : It) (fv : List (Str × Nat)) (te : TE) (σ : St) (H1 : Hp) (Q : VK) : Prop := ∀ p, H1 p = none → ∃ W : Nat → Nat → List V → Hp → Prop, (∃ m, W 0 m [] (upd H1 p (.lst []))) ∧ ∀ i m acc H2, W i m acc H2 →
  H2 p = some (.lst acc) ∧ acc.length < sizeLine ∧ ((J.stop i H2 ∧ Q (.ref p) H2) ∨ (J.go i H2 ∧ ∀ x H3, J.yld i H2 x H3 → te (some x :: fvs fv σ) H3 fun y H4 => H4 p = some (.lst acc) ∧ ∃ m', m' < m ∧ W (i + 1) m' (acc ++ [y]) (upd H4 p (.lst (acc ++ [y])))))
def tCompA (wi : TI) (fv : List (Str × Nat)) (te : TE) : TE := fun σ H Q => wi σ H fun J H1 => CompAt J fv te σ H1 Q
section
variable {X : Cx} {scope : Scope} {cl : List (Str × Addr)} {x : Str} {fv : List (Str × Nat)} {elt iter : Expr} {px pos : Pos} {te : TE}
theorem pe_compA {wi : TI} (hcalm : X.calm = true) (C : CompN X scope cl x fv) (hi : PI X (.Name x px) iter wi) (he : ∀ (fp : List Addr) (s₀ : Shared) (H₀ : Hp), PE (X.blk (x :: fv.map (·.1)) scope cl fp s₀ H₀) elt te)
    (hs : ∀ v, foldedSetIterable iter X.env v = pure v := by intro _; rfl) : PE X (.ListComp elt [⟨.Name x px, iter, [], 0⟩] scope pos) (tCompA wi fv te) := pe_comp hcalm C hi he hs
theorem ps_setCompA {wi : TI} {y : Str} {j : Nat} {py spos : Pos} (hcalm : X.calm = true) (C : CompN X scope cl x fv) (hN : X.N.Nodup) (hj : X.N[j]? = some y) (hy : X.env.scope.names.lookup y = some .local) (hi : PI X (.Name x px) iter wi) (he : ∀ (fp : List Addr) (s₀ : Shared) (H₀ : Hp), PE (X.blk (x :: fv.map (·.1)) scope cl fp s₀ H₀) elt te)
    (hsw : swapsWith (.ListComp elt [⟨.Name x px, iter, [], 0⟩] scope pos) (some (.Name y py)) spos.line X.env = pure true := by rfl)
    (hs : ∀ v, foldedSetIterable iter X.env v = pure v := by intro _; rfl) : PS X (.Assign [.Name y py] (.ListComp elt [⟨.Name x px, iter, [], 0⟩] scope pos) spos) (tAsg (tCompA wi fv te) (gName j)) := ps_setComp hcalm C hN hj hy hi he hsw hs
end
theorem comp_R {K : PySem.W.Frag} {a : Addr} {xs : List V} {fv : List (Str × Nat)} {te : TE} {σ : St} {H1 : Hp} {Q : VK} (hL : SqL K H1 a xs) (hlen : xs.length < 1000) (R : Nat → V → Hp → Prop) (hR : ∀ i v H H', SameT H H' → R i v H → R i v H')
    (hs : ∀ i x H2 (Kc : VK), xs[i]? = some x → Same H1 H2 → (∀ y H4, Same H2 H4 → R i y H4 → Kc y H4) → te (some x :: fvs fv σ) H2 Kc)
    (hd : ∀ l ys H', H1 l = none → Same H1 H' → H' l = some (.lst ys) → ys.length = xs.length → (∀ i y, ys[i]? = some y → R i y H') → Q (.ref l) H') :
    CompAt (Itl K a) fv te σ H1 Q := by
  intro l hl
  refine comp_list (K := K) (a := a) (xs := xs) (l := l) (fv := fv) (Qp := fun H2 => Q (.ref l) H2) (fun i acc H2 => acc.length = i ∧ Same H1 H2 ∧ H2 l = some (.lst acc) ∧ ∀ j y, acc[j]? = some y → R j y H2)
    ⟨rfl, Same.new hl, upd_same, fun j y h => by simp at h⟩ ?_ ?_ ?_
  · rintro i acc H2 hi ⟨e1, sm, e3, _⟩
    exact ⟨sm.seq hL, e3, small1000 (by omega)⟩
  · rintro i x acc H2 Kc hx ⟨e1, sm, e3, hr⟩ kk
    refine hs i x H2 Kc hx sm fun y H4 s4 ry => kk y H4 (s4 _ _ e3) ⟨by simp [e1], (sm.trans s4).upd hl, upd_same, fun j z hz => ?_⟩
    have t4 := SameT.upd (ys := acc ++ [y]) (s4 _ _ e3)
    rcases Nat.lt_trichotomy j acc.length with h | h | h
    · rw [List.getElem?_append_left h] at hz
      exact hR _ _ _ _ (s4.t.trans t4) (hr j z hz)
    · subst h
      rw [List.getElem?_append_right (Nat.le_refl _), Nat.sub_self] at hz
      cases hz
      rw [e1]
      exact hR _ _ _ _ t4 ry
    · rw [List.getElem?_eq_none (by simp; omega)] at hz
      cases hz
  · rintro acc H2 ⟨e1, sm, e3, hr⟩
    exact hd l acc H2 hl sm e3 e1 hr
theorem comp_rR {n : Nat} {lo : Int} {fv : List (Str × Nat)} {te : TE} {σ : St} {H1 : Hp} {Q : VK} (hlen : n < 1000) (R : Nat → V → Hp → Prop) (hR : ∀ i v H H', SameT H H' → R i v H → R i v H')
    (hs : ∀ i H2 (Kc : VK), i < n → Same H1 H2 → (∀ y H4, Same H2 H4 → R i y H4 → Kc y H4) → te (some (.int (lo + i)) :: fvs fv σ) H2 Kc)
    (hd : ∀ l ys H', H1 l = none → Same H1 H' → H' l = some (.lst ys) → ys.length = n → (∀ i y, ys[i]? = some y → R i y H') → Q (.ref l) H') :
    CompAt (Itr lo n) fv te σ H1 Q := by
  intro l hl
  refine comp_range (n := n) (lo := lo) (l := l) (fv := fv) (Qp := fun H2 => Q (.ref l) H2) (fun i acc H2 => acc.length = i ∧ Same H1 H2 ∧ H2 l = some (.lst acc) ∧ ∀ j y, acc[j]? = some y → R j y H2)
    ⟨rfl, Same.new hl, upd_same, fun j y h => by simp at h⟩ ?_ ?_ ?_
  · rintro i acc H2 hi ⟨e1, sm, e3, _⟩
    exact ⟨e3, small1000 (by omega)⟩
  · rintro i acc H2 Kc hx ⟨e1, sm, e3, hr⟩ kk
    refine hs i H2 Kc hx sm fun y H4 s4 ry => kk y H4 (s4 _ _ e3) ⟨by simp [e1], (sm.trans s4).upd hl, upd_same, fun j z hz => ?_⟩
    have t4 := SameT.upd (ys := acc ++ [y]) (s4 _ _ e3)
    rcases Nat.lt_trichotomy j acc.length with h | h | h
    · rw [List.getElem?_append_left h] at hz
      exact hR _ _ _ _ (s4.t.trans t4) (hr j z hz)
    · subst h
      rw [List.getElem?_append_right (Nat.le_refl _), Nat.sub_self] at hz
      cases hz
      rw [e1]
      exact hR _ _ _ _ t4 ry
    · rw [List.getElem?_eq_none (by simp; omega)] at hz
      cases hz
  · rintro acc H2 ⟨e1, sm, e3, hr⟩
    exact hd l acc H2 hl sm e3 e1 hr
theorem nice_int : Nice "int" := .inl rfl
theorem nice_bool : Nice "bool" := .inr (.inl rfl)
theorem nice_tuple : Nice "tuple" := .inr (.inr (.inl rfl))
theorem nice_list : Nice "list" := .inr (.inr (.inr (.inl rfl)))
theorem nice_str : Nice "str" := .inr (.inr (.inr (.inr rfl)))
end L2
namespace L2
open PySem PySem.Spec PyProof.Rows
/-! ### what is new, what is changed, by heaps of their own names -/
section
variable {X : Cx} {pos : Pos} {es : List Expr} {ta : TA}
def tTupA (t : TA) : TE := fun σ H Q => t σ H fun xs H1 => xs.length ≤ sizeLine ∧ ∀ p H2, Same H1 H2 → H2 p = some (.tup xs) → H1 p = none → Q (.ref p) H2
def tLstA (t : TA) : TE := fun σ H Q => t σ H fun xs H1 => xs.length ≤ sizeLine ∧ ∀ p H2, Same H1 H2 → H2 p = some (.lst xs) → H1 p = none → Q (.ref p) H2
theorem pe_tupA {x1} (h : PA X es ta) : PE X (.Tuple es x1 pos) (tTupA ta) := by
  intro pins s σ H Q I hq
  refine wpAny_Tuple_spliced (thn (h pos pins s σ H _ I hq) fun us s1 ⟨xs, H1, I1, r, z, q⟩ => ⟨by rw [← r.length]; exact z, ?_⟩)
  have hf : H1 s1.heap.objs.size = none := I1.hok.fresh (Nat.le_refl _)
  refine ⟨.ref s1.heap.objs.size, upd H1 s1.heap.objs.size (.tup xs), I1.laid (t' := s1.toks) (fun b u e => Heap.get?_push_of_some _ e) (Nat.le_refl _) ?_, rfl, q _ _ (Same.new hf) upd_same hf⟩
  exact ⟨z, us, r, ⟨_, Heap.get?_push_size _ rfl, rfl, _, rfl⟩⟩
theorem pe_lstA (h : PA X es ta) : PE X (.List es pos) (tLstA ta) := by
  intro pins s σ H Q I hq
  refine wpAny_List_spliced (thn (h pos pins s σ H _ I hq) fun us s1 ⟨xs, H1, I1, r, z, q⟩ => ⟨by rw [← r.length]; exact z, ?_⟩)
  have hf : H1 s1.heap.objs.size = none := I1.hok.fresh (Nat.le_refl _)
  refine ⟨.ref s1.heap.objs.size, upd H1 s1.heap.objs.size (.lst xs), I1.laid (t' := s1.toks) (fun b u e => Heap.get?_push_of_some _ e) (Nat.le_refl _) ?_, rfl, q _ _ (Same.new hf) upd_same hf⟩
  exact ⟨z, us, 0, r, Heap.get?_push_size _ rfl⟩
def rSlLA (K : PySem.W.Frag) : V → Option Int → Option Int → Hp → VK → Prop := fun x lo hi H Q => ∃ a xs, x = .ref a ∧ SqL K H a xs ∧ ∀ p H2, Same H H2 → H2 p = some (.lst (cutV xs lo hi)) → H p = none → Q (.ref p) H2
theorem sl_listA : SlR X (rSlLA X.K) := fun pins s σ H x v vl vu lo hi sl Q I rx hs pl pu ⟨a, xs, e, hx, q⟩ =>
  sl_list pins s σ H x v vl vu lo hi sl Q I rx hs pl pu ⟨a, xs, e, hx, fun p hp => q p _ (Same.new hp) upd_same hp⟩
def rCatA : R2 := fun x y H Q => ∃ l b xs zs, x = .ref l ∧ y = .ref b ∧ H l = some (.lst xs) ∧ H b = some (.lst zs) ∧ xs.length + zs.length ≤ sizeLine ∧ ∀ p H2, Same H H2 → H2 p = some (.lst (xs ++ zs)) → H p = none → Q (.ref p) H2
theorem op_catA : OpR X (binaryOp .Add) rCatA := fun pins s σ H x y v u Q I rx ry ⟨l, b, xs, zs, e1, e2, h1, h2, hz, q⟩ =>
  op_cat pins s σ H x y v u Q I rx ry ⟨l, b, xs, zs, e1, e2, h1, h2, hz, fun p hp => q p _ (Same.new hp) upd_same hp⟩
def rRepA : R2 := fun x y H Q => ∃ l k xs, x = .ref l ∧ y = .int k ∧ H l = some (.lst xs) ∧ -(2 ^ 63) ≤ k ∧ k < 2 ^ 63 ∧ xs.length * k.toNat ≤ sizeLine ∧ ∀ p H2, Same H H2 → H2 p = some (.lst (List.replicate k.toNat xs).flatten) → H p = none → Q (.ref p) H2
theorem op_repA : OpR X (binaryOp .Mult) rRepA := fun pins s σ H x y v u Q I rx ry ⟨l, k, xs, e1, e2, h1, h2, h3, hz, q⟩ =>
  op_rep pins s σ H x y v u Q I rx ry ⟨l, k, xs, e1, e2, h1, h2, h3, hz, fun p hp => q p _ (Same.new hp) upd_same hp⟩
theorem call_list_ofA : CallR X (.type "list") (fun xs H Q => ∃ p ys, xs = [.ref p] ∧ (SqL X.K H p ys ∨ SqT X.K H p ys) ∧ ∀ l H2, Same H H2 → H2 l = some (.lst ys) → H l = none → Q (.ref l) H2) := fun pins s σ H xs us Q I r ⟨p, ys, e, hq, q⟩ =>
  call_list_of pins s σ H xs us Q I r ⟨p, ys, e, hq, fun l hl => q l _ (Same.new hl) upd_same hl⟩
/-- a list was xs and is ys; all else stands -/
structure Upd (H H' : Hp) (l : Addr) (xs ys : List V) : Prop where
  was : H l = some (.lst xs)
  now : H' l = some (.lst ys)
  oth : ∀ b, b ≠ l → H' b = H b
theorem Upd.mk' {H : Hp} {l : Addr} {xs ys : List V} (h : H l = some (.lst xs)) : Upd H (L2.upd H l (.lst ys)) l xs ys := ⟨h, upd_same, fun _ n => upd_ne n⟩
theorem Upd.t {H H' : Hp} {l : Addr} {xs ys : List V} (u : Upd H H' l xs ys) : SameT H H' := fun b zs e => by
  rw [u.oth b (ne_of e u.was (by intro z; cases z))]
  exact e
theorem Upd.same {H0 H H' : Hp} {l : Addr} {xs ys : List V} (u : Upd H H' l xs ys) (s : Same H0 H) (h : H0 l = none) : Same H0 H' := fun b o e => by
  rw [u.oth b (ne_of_none e h)]
  exact s b o e
theorem Upd.at {H H' : Hp} {l b : Addr} {xs ys : List V} {o : HO} (u : Upd H H' l xs ys) (n : b ≠ l) (e : H b = some o) : H' b = some o := by
  rw [u.oth b n]
  exact e
def rAppendA : V → List V → Hp → VK → Prop := fun x vs H Q => ∃ l xs y, x = .ref l ∧ vs = [y] ∧ H l = some (.lst xs) ∧ xs.length < sizeLine ∧ ∀ H', Upd H H' l xs (xs ++ [y]) → Q .non H'
theorem mt_appendA : MtM X "list.append" rAppendA := fun pins s σ H x xs v us Q I rx rs ⟨l, ys, y, e1, e2, h, hz, q⟩ =>
  mt_append pins s σ H x xs v us Q I rx rs ⟨l, ys, y, e1, e2, h, hz, q _ (.mk' h)⟩
def rSetLA : V → V → V → Hp → (Hp → Prop) → Prop := fun o i v H Q => ∃ p xs k j, o = .ref p ∧ i = .int k ∧ H p = some (.lst xs) ∧ ixN xs.length k = some j ∧ ∀ H', Upd H H' p xs (xs.set j v) → Q H'
theorem set_listA : PSet X rSetLA := fun pins s σ H o i v uo ui uv Q I ro ri rv ⟨p, xs, k, j, e1, e2, h, hj, q⟩ =>
  set_list pins s σ H o i v uo ui uv Q I ro ri rv ⟨p, xs, k, j, e1, e2, h, hj, q _ (.mk' h)⟩
def rReverseA : V → List V → Hp → VK → Prop := fun x vs H Q => ∃ l xs, x = .ref l ∧ vs = [] ∧ H l = some (.lst xs) ∧ ∀ H', Upd H H' l xs xs.reverse → Q .non H'
theorem mt_reverseA : MtM X "list.reverse" rReverseA := fun pins s σ H x xs v us Q I rx rs ⟨l, ys, e1, e2, h, q⟩ =>
  mt_reverse pins s σ H x xs v us Q I rx rs ⟨l, ys, e1, e2, h, q _ (.mk' h)⟩
end
end L2
namespace L2
open PySem PySem.Spec PyProof.Rows
/-- an item of a list, whichever -/
theorem menu {K : PySem.W.Frag} {H : Hp} {l : Addr} {xs : List V} {i : Int} {Q : VK} (e : H l = some (.lst xs)) (h0 : 0 ≤ i) (h1 : i < (xs.length : Int)) (h : ∀ v ∈ xs, Q v H) : rIxL K (.ref l) (.int i) H Q := by
  obtain ⟨v, hv, mv⟩ := Sp1.atI_mem h0 h1
  exact ⟨l, xs, i, v, rfl, rfl, SqL.of e, hv, h v mv⟩
theorem menu_mod {K : PySem.W.Frag} {H : Hp} {l : Addr} {xs : List V} {n m : Int} {Q : VK} (e : H l = some (.lst xs)) (h0 : 0 < m) (h1 : m ≤ (xs.length : Int)) (h : ∀ v ∈ xs, Q v H) : rIxL K (.ref l) (.int (n % m)) H Q :=
  menu e (Int.emod_nonneg _ (by omega)) (by have := Int.emod_lt_of_pos n h0; omega) h
theorem cells_int {ss : List Int} {lo hi : Option Int} {n : Int} {o : V} {i : Nat} (h : (cutV (ss.map V.int) lo hi ++ [V.int n])[i]? = some o) : ∃ c, o = V.int c := by
  have hm := List.mem_of_getElem? h
  rcases List.mem_append.mp hm with hm | hm
  · obtain ⟨c, _, e⟩ := List.mem_map.mp (mem_cutV hm)
    exact ⟨c, e.symm⟩
  · exact ⟨_, List.mem_singleton.mp hm⟩
theorem cells_len {ss : List Int} {lo hi : Option Int} {n : Int} (h : ss.length ≤ 63) : (cutV (ss.map V.int) lo hi).length + [V.int n].length ≤ sizeLine := by
  have lcut := cutV_length (ss.map V.int) lo hi
  rw [List.length_map] at lcut
  exact Sp1.sz (by show _ + 1 ≤ 1000; omega)
theorem len3 {α : Type} {xs : List α} (h : xs.length = 3) : ∃ a b c, xs = [a, b, c] := match xs, h with | [a, b, c], _ => ⟨a, b, c, rfl⟩
theorem len2 {α : Type} {xs : List α} (h : xs.length = 2) : ∃ a b, xs = [a, b] := match xs, h with | [a, b], _ => ⟨a, b, rfl⟩
theorem len4 {α : Type} {xs : List α} (h : xs.length = 4) : ∃ a b c d, xs = [a, b, c, d] := match xs, h with | [a, b, c, d], _ => ⟨a, b, c, d, rfl⟩
theorem len5 {α : Type} {xs : List α} (h : xs.length = 5) : ∃ a b c d e, xs = [a, b, c, d, e] := match xs, h with | [a, b, c, d, e], _ => ⟨a, b, c, d, e, rfl⟩
theorem len6 {α : Type} {xs : List α} (h : xs.length = 6) : ∃ a b c d e f, xs = [a, b, c, d, e, f] := match xs, h with | [a, b, c, d, e, f], _ => ⟨a, b, c, d, e, f, rfl⟩
end L2
/-! ZIP and ENUMERATE, walked with a target of names -/
namespace L2
open PySem PySem.Spec PyProof.Rows
section
variable {X : Cx} {pins : List (Addr × Obj)} {σ : St} {H : Hp} {s : Shared}
/-- several records of an iterator's have turned -/
theorem Inv.turnedL {h' : Heap} {t' : Nat} {ch : List Addr} (I : Inv X pins σ H s) (k : ∀ b o, b ∉ ch → s.heap.get? b = some o → h'.get? b = some o) (hf : ∀ b ∈ ch, FpOk X pins H b) : Inv X pins σ H { s with heap := h', toks := t' } := by
  have nit : ∀ b u, H b = some u → b ∉ ch := fun b u e z => by
    have n := (hf b z).1
    rw [n] at e
    cases e
  refine I.step (g' := s.gens) (d' := s.drawn) (ch := ch) (fun b hb => ?_) (fun b o _ _ hc e _ => k b o hc e) (fun b o _ _ hc e _ => ⟨o.slots, k b o hc e⟩) (fun _ _ _ _ n => n)
    (fun b o hc e => ⟨o, k b o hc e⟩) (fun _ _ e => e) (fun _ _ _ e => e) (fun b ps e => ⟨#[], by rw [e]; simp⟩) (fun m hm => ?_) (fun b u e => ?_) I.bare
  · obtain ⟨f0, f1, f2, f3, f4, f5⟩ := hf b hb
    exact ⟨f3, f1, f4, f5⟩
  · obtain ⟨o, es, ep, ho, r⟩ := hm
    exact ⟨o, es, ep, k _ o (fun z => (hf _ z).2.1 rfl) ho, r⟩
  · refine (I.hok b u e).stay (fun c v hc q => k c v ?_ q) (fun _ q => q) fun _ _ q => q
    rcases hc with z | z
    · rw [z]; exact nit b u e
    · exact nit c _ z
/-- one turn of an iterator that hands out tuples -/
theorem turn_item {E : Value → Shared → Prop} {elts : List Expr} {kt : Nat} {pos : Pos} {i n : Nat} {z : Addr} {fpw wr : List Addr} {Pt : Nat → Array Value → Prop} {Stt : Nat → Heap → Prop} {Mid : Nat → Addr → Heap → Prop} {R : Value → Shared → Prop}
    (W : WalksT X.prog X.w X.A z fpw wr n Pt Stt Mid) (I : Inv X pins σ H s) (hwr : ∀ b ∈ wr, FpOk X pins H b) (hi : i < n) (st : Stt i s.heap)
    (k : ∀ T vals s2, Pt i vals → s.heap.objs.size ≤ T → s2.heap.IsTuple T vals → Stt (i + 1) s2.heap → Inv X pins σ H s2 → (∀ b o, b ∉ wr → s.heap.get? b = some o → s2.heap.get? b = some o) → R (.ref T) s2) :
    wpAny (model X.prog X.w) X.A (pyNext (.ref z)) (fun r s1 => ∃ u, r = some u ∧ wpAny (model X.prog X.w) X.A (letOwnedTupleGo (.Tuple elts kt pos) (.ref z) u) (fun _ s2 => R u s2) E s1) E s := by
  refine W.item i s _ E hi st fun T vals h' tk hp hT tup mid kk => ⟨.ref T, rfl, ?_⟩
  refine W.go elts kt pos i T _ _ E mid fun h2 st2 k2 => ?_
  have kall : ∀ b o, b ∉ wr → s.heap.get? b = some o → h2.get? b = some o := fun b o hb e => k2 b o hb (kk b o hb e)
  obtain ⟨o, eo, ro⟩ := tup
  exact k T vals _ hp hT ⟨o, k2 T o (W.apart i T _ mid) eo, ro⟩ st2 (I.turnedL (t' := tk) kall hwr) kall
theorem track_tup {T : Addr} {s2 : Shared} {xs : List V} {us : List Value} (I : Inv X pins σ H s) (J : Inv X pins σ H s2) (hT : s.heap.objs.size ≤ T) (ht : s2.heap.IsTuple T us.toArray) (r : Vals xs us) (hz : xs.length ≤ sizeLine) : Inv X pins σ (upd H T (.tup xs)) s2 ∧ H T = none := by
  have hn : H T = none := I.hok.fresh hT
  obtain ⟨f0, f1, f2, f3, f4, f5⟩ := I.fpOk hT hn
  refine ⟨J.track hn ?_ f1 f4 f5 ⟨hz, us, r, ht⟩, hn⟩
  cases e : X.s₀.heap.get? T with
  | none => rfl
  | some o =>
    have h1 := Heap.lt_size e
    have h2 := I.sz
    exact absurd (Nat.lt_of_lt_of_le h1 (Nat.le_trans h2 hT)) (Nat.lt_irrefl _)
end
/-- zip of the lists at l1, l2: each turn a new tuple -/
def Itz (K : PySem.W.Frag) (l1 l2 : Addr) : It :=
  ⟨fun i H => ∃ xs ys x y, SqL K H l1 xs ∧ SqL K H l2 ys ∧ xs[i]? = some x ∧ ys[i]? = some y,
   fun i H v H' => ∃ p x y, v = .ref p ∧ H p = none ∧ H' = upd H p (.tup [x, y]) ∧ ∀ xs ys, SqL K H l1 xs → SqL K H l2 ys → xs[i]? = some x ∧ ys[i]? = some y,
   fun i H => ∃ xs ys, SqL K H l1 xs ∧ SqL K H l2 ys ∧ i = min xs.length ys.length⟩
/-- enumerate of the list at l -/
def Ite (K : PySem.W.Frag) (l : Addr) : It :=
  ⟨fun i H => ∃ xs x, SqL K H l xs ∧ xs[i]? = some x,
   fun i H v H' => ∃ p x, v = .ref p ∧ H p = none ∧ H' = upd H p (.tup [.int (i : Int), x]) ∧ ∀ xs, SqL K H l xs → xs[i]? = some x,
   fun i H => ∃ xs, SqL K H l xs ∧ i = xs.length⟩
theorem turn_zip {P : Program} {w : World} {K : PySem.W.Frag} {elts : List Expr} {kt : Nat} {pos : Pos} (z TI TO i1 i2 l1 l2 : Addr) (D : ZipApart z TI TO i1 i2 l1 l2) :
    Turn P w K (.Tuple elts kt pos) (Itz K l1 l2) [z, TI, TO, i1, i2] z (fun i h => IsZip h z TI TO .none ∧ IsPair h TI (.ref i1) (.ref i2) ∧ (∃ a b, IsPair h TO a b) ∧ h.IsListIter i1 l1 i ∧ h.IsListIter i2 l2 i) where
  mem := by simp
  obj := fun i h st b hb => by
    obtain ⟨hz, hTI, ⟨a, c, hTO⟩, ⟨o1, e1, c1, d1⟩, ⟨o2, e2, c2, d2⟩⟩ := st
    simp only [List.mem_cons, List.not_mem_nil, or_false] at hb
    rcases hb with rfl | rfl | rfl | rfl | rfl
    · exact ⟨_, hz, fun v y => by cases y⟩
    · exact ⟨_, hTI, fun v y => by cases y⟩
    · exact ⟨_, hTO, fun v y => by cases y⟩
    · exact ⟨o1, e1, fun v y => by rw [d1] at y; cases y⟩
    · exact ⟨o2, e2, fun v y => by rw [d2] at y; cases y⟩
  keep := fun i h h' st k => by
    obtain ⟨hz, hTI, ⟨a, c, hTO⟩, h1, h2⟩ := st
    exact ⟨k z (by simp) _ hz, k TI (by simp) _ hTI, ⟨a, c, k TO (by simp) _ hTO⟩, h1.at fun o e => k i1 (by simp) o e, h2.at fun o e => k i2 (by simp) o e⟩
  item := by
    intro X hP hw hK hc i pins s σ H E I hf st hg
    subst hP hw hK
    obtain ⟨xs, ys, x, y, q1, q2, hx, hy⟩ := hg
    obtain ⟨its, r1, p1, _⟩ := I.list q1
    obtain ⟨jts, r2, p2, _⟩ := I.list q2
    obtain ⟨u1, hu1, ru1⟩ := r1.get hx
    obtain ⟨u2, hu2, ru2⟩ := r2.get hy
    have W := WalksT.zip2 (prog := X.prog) (w := X.w) (I.ok.hd hc) z TI TO i1 i2 l1 l2 D its.toArray jts.toArray
    have hn : i < min its.toArray.size jts.toArray.size := by
      have g1 := (List.getElem?_eq_some_iff.mp hu1).1
      have g2 := (List.getElem?_eq_some_iff.mp hu2).1
      simp only [List.size_toArray]
      omega
    obtain ⟨hz, hTI, hTO, h1, h2⟩ := st
    refine turn_item W I (fun b hb => hf b (by simp at hb ⊢; rcases hb with h | h | h | h <;> simp [h])) hn ⟨hz, hTI, hTO, h1, h2, p1.isList, p2.isList⟩ fun T vals s2 hp hT tup st2 J2 kall => ?_
    obtain ⟨v1, v2, e1, e2, rfl⟩ := hp
    have e1' : its[i]? = some v1 := by simpa using e1
    have e2' : jts[i]? = some v2 := by simpa using e2
    rw [hu1] at e1'
    rw [hu2] at e2'
    cases e1'
    cases e2'
    obtain ⟨J3, nT⟩ := track_tup (xs := [x, y]) (us := [u1, u2]) I J2 hT tup (.cons ru1 (.cons ru2 .nil)) (Sp1.sz (by simp))
    obtain ⟨hz2, hTI2, hTO2, h12, h22, _, _⟩ := st2
    refine ⟨.ref T, upd H T (.tup [x, y]), J3, rfl, ⟨T, x, y, rfl, nT, rfl, fun as bs qa qb => ?_⟩, ⟨hz2, hTI2, hTO2, h12, h22⟩, fun b hb => ?_⟩
    · rw [I.list_inj qa q1, I.list_inj qb q2]
      exact ⟨hx, hy⟩
    · have hb' : ∃ o, s.heap.get? b = some o := by
        obtain ⟨a, c, hTO⟩ := hTO
        obtain ⟨o1, e1, _⟩ := h1
        obtain ⟨o2, e2, _⟩ := h2
        simp only [List.mem_cons, List.not_mem_nil, or_false] at hb
        rcases hb with rfl | rfl | rfl | rfl | rfl
        · exact ⟨_, hz⟩
        · exact ⟨_, hTI⟩
        · exact ⟨_, hTO⟩
        · exact ⟨_, e1⟩
        · exact ⟨_, e2⟩
      obtain ⟨o, eo⟩ := hb'
      rw [upd_ne (Nat.ne_of_lt (Nat.lt_of_lt_of_le (Heap.lt_size eo) hT))]
      exact (hf b hb).1
  done := by
    intro X hP hw hK hc i pins s σ H E I hf st hg
    subst hP hw hK
    obtain ⟨xs, ys, q1, q2, rfl⟩ := hg
    obtain ⟨its, r1, p1, _⟩ := I.list q1
    obtain ⟨jts, r2, p2, _⟩ := I.list q2
    have W := WalksT.zip2 (prog := X.prog) (w := X.w) (I.ok.hd hc) z TI TO i1 i2 l1 l2 D its.toArray jts.toArray
    obtain ⟨hz, hTI, hTO, h1, h2⟩ := st
    have el : min its.toArray.size jts.toArray.size = min xs.length ys.length := by
      rw [List.size_toArray, List.size_toArray, r1.length, r2.length]
    refine W.done s _ E ?_ fun h' tk kk => ⟨rfl, I.turnedL (t' := tk) kk fun b hb => hf b (by simp at hb ⊢; rcases hb with h | h | h | h <;> simp [h])⟩
    rw [el]
    exact ⟨hz, hTI, hTO, h1, h2, p1.isList, p2.isList⟩
  self := fun _ _ _ _ _ st h => wpAny_pyIter_zip st.1 h
theorem turn_enum {P : Program} {w : World} {K : PySem.W.Frag} {elts : List Expr} {kt : Nat} {pos : Pos} (e it l : Addr) (hei : e ≠ it) (hle : l ≠ e) (hli : l ≠ it) :
    Turn P w K (.Tuple elts kt pos) (Ite K l) [e, it] e (fun i h => (∃ old, IsEnum h e it i old) ∧ h.IsListIter it l i) where
  mem := by simp
  obj := fun i h st b hb => by
    obtain ⟨⟨old, he⟩, ⟨o1, e1, c1, d1⟩⟩ := st
    simp only [List.mem_cons, List.not_mem_nil, or_false] at hb
    rcases hb with rfl | rfl
    · exact ⟨_, he, fun v y => by cases y⟩
    · exact ⟨o1, e1, fun v y => by rw [d1] at y; cases y⟩
  keep := fun i h h' st k => by
    obtain ⟨⟨old, he⟩, h1⟩ := st
    exact ⟨⟨old, k e (by simp) _ he⟩, h1.at fun o x => k it (by simp) o x⟩
  item := by
    intro X hP hw hK hc i pins s σ H E I hf st hg
    subst hP hw hK
    obtain ⟨xs, x, q1, hx⟩ := hg
    obtain ⟨its, r1, p1, _⟩ := I.list q1
    obtain ⟨u1, hu1, ru1⟩ := r1.get hx
    have W := WalksT.enumerate (prog := X.prog) (w := X.w) (I.ok.hd hc) e it l hei hle hli its.toArray
    have hn : i < its.toArray.size := by
      have g1 := (List.getElem?_eq_some_iff.mp hu1).1
      simp only [List.size_toArray]
      omega
    obtain ⟨he, h1⟩ := st
    refine turn_item W I (fun b hb => hf b (by simpa using hb)) hn ⟨he, h1, p1.isList⟩ fun T vals s2 hp hT tup st2 J2 kall => ?_
    obtain ⟨tk, v1, e1, rfl⟩ := hp
    have e1' : its[i]? = some v1 := by simpa using e1
    rw [hu1] at e1'
    cases e1'
    obtain ⟨J3, nT⟩ := track_tup (xs := [.int (i : Int), x]) (us := [.int i tk, u1]) I J2 hT tup (.cons ⟨_, rfl⟩ (.cons ru1 .nil)) (Sp1.sz (by simp))
    obtain ⟨he2, h12, _⟩ := st2
    refine ⟨.ref T, upd H T (.tup [.int (i : Int), x]), J3, rfl, ⟨T, x, rfl, nT, rfl, fun as qa => ?_⟩, ⟨he2, h12⟩, fun b hb => ?_⟩
    · rw [I.list_inj qa q1]
      exact hx
    · have hb' : ∃ o, s.heap.get? b = some o := by
        obtain ⟨old, he⟩ := he
        obtain ⟨o1, e1, _⟩ := h1
        simp only [List.mem_cons, List.not_mem_nil, or_false] at hb
        rcases hb with rfl | rfl
        · exact ⟨_, he⟩
        · exact ⟨_, e1⟩
      obtain ⟨o, eo⟩ := hb'
      rw [upd_ne (Nat.ne_of_lt (Nat.lt_of_lt_of_le (Heap.lt_size eo) hT))]
      exact (hf b hb).1
  done := by
    intro X hP hw hK hc i pins s σ H E I hf st hg
    subst hP hw hK
    obtain ⟨xs, q1, rfl⟩ := hg
    obtain ⟨its, r1, p1, _⟩ := I.list q1
    have W := WalksT.enumerate (prog := X.prog) (w := X.w) (I.ok.hd hc) e it l hei hle hli its.toArray
    obtain ⟨he, h1⟩ := st
    refine W.done s _ E ?_ fun h' tk kk => ⟨rfl, I.turnedL (t' := tk) kk fun b hb => hf b (by simpa using hb)⟩
    rw [List.size_toArray, ← r1.length]
    exact ⟨he, h1, p1.isList⟩
  self := fun _ _ _ _ _ st h => by
    obtain ⟨⟨old, he⟩, _⟩ := st
    exact wpAny_pyIter_enum he h
section
variable {X : Cx} {elts : List Expr} {kt : Nat} {tpos : Pos}
def iZip (K : PySem.W.Frag) (ta : TA) : TI := fun σ H R => ta σ H fun vs H1 => ∃ a b, vs = [.ref a, .ref b] ∧ (∃ xs, SqL K H1 a xs) ∧ (∃ ys, SqL K H1 b ys) ∧ R (Itz K a b) H1
def iEnum (K : PySem.W.Frag) (ta : TA) : TI := fun σ H R => ta σ H fun vs H1 => ∃ a, vs = [.ref a] ∧ (∃ xs, SqL K H1 a xs) ∧ R (Ite K a) H1
theorem bt_zip : bootBuiltins "zip" = some (.type "zip") := by decide +kernel
theorem bt_enumerate : bootBuiltins "enumerate" = some (.type "enumerate") := by decide +kernel
theorem pi_zip {a b : Expr} {ta : TA} {p pos : Pos} (hg : Gl X "zip") (hm : X.mg "zip" = none) (ha : PA X [a, b] ta) (hs : starEach [a, b] X.env = [(false, eval a X.env), (false, eval b X.env)] := by rfl) (hs2 : starEach [b] X.env = [(false, eval b X.env)] := by rfl) :
    PI X (.Tuple elts kt tpos) (.Call (.Name "zip" p) [a, b] [] pos) (iZip X.K ta) := by
  intro pins s σ H R I h
  refine Call_ (ld_blt I hg hm bt_zip (PyProof.Rows.callWith_type1 (thn (ha pos pins s σ H _ I h) fun us s1 ⟨vs, H1, I1, r1, q1⟩ => ?_) (by rw [hs, hs2]) (by rw [hs2]; rfl)))
  obtain ⟨l1, l2, e, ⟨xs, hx⟩, ⟨ys, hy⟩, q⟩ := q1
  subst e
  cases r1 with
  | cons r rr =>
    cases rr with
    | cons r' rr =>
      cases rr
      cases r
      cases r'
      obtain ⟨its, _, p1, _⟩ := I1.list hx
      obtain ⟨jts, _, p2, _⟩ := I1.list hy
      refine call_zip_2 p1.isList p2.isList fun h' hz hTI hTO hi1 hi2 hsz hk => ?_
      refine wpAny_pyIter_zip hz ?_
      have a1 : l1 < s1.heap.objs.size := by obtain ⟨_, e, _⟩ := p1.isList; exact Heap.lt_size e
      have a2 : l2 < s1.heap.objs.size := by obtain ⟨_, e, _⟩ := p2.isList; exact Heap.lt_size e
      refine ⟨s1.heap.objs.size + 4, [s1.heap.objs.size + 4, s1.heap.objs.size + 2, s1.heap.objs.size + 3, s1.heap.objs.size, s1.heap.objs.size + 1], _, _, H1, rfl, I1.kept (t' := s1.toks) hk, turn_zip _ _ _ _ _ l1 l2 (zipApart_new a1 a2), ⟨hz, hTI, ⟨_, _, hTO⟩, hi1, hi2⟩, fun b hb => ?_, q⟩
      have hb' : s1.heap.objs.size ≤ b := by
        simp only [List.mem_cons, List.not_mem_nil, or_false] at hb
        rcases hb with rfl | rfl | rfl | rfl | rfl <;> omega
      exact I1.fpOk hb' (I1.hok.fresh hb')
theorem pi_enum {a : Expr} {ta : TA} {p pos : Pos} (hg : Gl X "enumerate") (hm : X.mg "enumerate" = none) (ha : PA X [a] ta) (hs : starEach [a] X.env = [(false, eval a X.env)] := by rfl) :
    PI X (.Tuple elts kt tpos) (.Call (.Name "enumerate" p) [a] [] pos) (iEnum X.K ta) := by
  intro pins s σ H R I h
  refine Call_ (ld_blt I hg hm bt_enumerate (PyProof.Rows.callWith_type1 (thn (ha pos pins s σ H _ I h) fun us s1 ⟨vs, H1, I1, r1, q1⟩ => ?_) hs rfl))
  obtain ⟨l, e, ⟨xs, hx⟩, q⟩ := q1
  subst e
  cases r1 with
  | cons r rr =>
    cases rr
    cases r
    obtain ⟨its, _, p1, _⟩ := I1.list hx
    refine call_enumerate_list p1.isList fun h' he hi hsz hk => ?_
    refine wpAny_pyIter_enum he ?_
    have a1 : l < s1.heap.objs.size := by obtain ⟨_, e, _⟩ := p1.isList; exact Heap.lt_size e
    refine ⟨s1.heap.objs.size + 1, [s1.heap.objs.size + 1, s1.heap.objs.size], _, _, H1, rfl, I1.kept (t' := s1.toks) hk, turn_enum _ _ l (Nat.succ_ne_self _) (Nat.ne_of_lt (Nat.lt_succ_of_lt a1)) (Nat.ne_of_lt a1), ⟨⟨_, he⟩, hi⟩, fun b hb => ?_, q⟩
    have hb' : s1.heap.objs.size ≤ b := by
      simp only [List.mem_cons, List.not_mem_nil, or_false] at hb
      rcases hb with rfl | rfl <;> omega
    exact I1.fpOk hb' (I1.hok.fresh hb')
end
/-- for .. in zip(..): the tuple of each turn is new -/
theorem for_zip {K : PySem.W.Frag} {a b : Addr} {xs ys : List V} {g : TG} {tb : TS} {D : Ends} {σ : St} {H : Hp} (Pv : Nat → St → Hp → Prop) (h0 : Pv 0 σ H) (hl : ∀ i σ H, i ≤ min xs.length ys.length → Pv i σ H → SqL K H a xs ∧ SqL K H b ys)
    (hs : ∀ i x y p σ H H1, xs[i]? = some x → ys[i]? = some y → Pv i σ H → Same H H1 → H1 p = some (.tup [x, y]) → g (.ref p) σ H1 fun σ2 H2 => tb { D with nx := Pv (i + 1), ct := Pv (i + 1), bk := D.nx } σ2 H2) (hd : ∀ σ H, Pv (min xs.length ys.length) σ H → D.nx σ H) :
    ∃ W : Nat → Nat → St → Hp → Prop, (∃ m, W 0 m σ H) ∧ ∀ i m σ H, W i m σ H →
      ((Itz K a b).stop i H ∧ D.nx σ H) ∨ ((Itz K a b).go i H ∧ ∃ N : St → Hp → Prop, (∀ σ' H', N σ' H' → ∃ m', m' < m ∧ W (i + 1) m' σ' H') ∧ ∀ x H', (Itz K a b).yld i H x H' → g x σ H' fun σ2 H2 => tb { D with nx := N, ct := N, bk := D.nx } σ2 H2) := by
  refine ⟨fun i m σ H => m = min xs.length ys.length - i ∧ i ≤ min xs.length ys.length ∧ Pv i σ H, ⟨_, rfl, Nat.zero_le _, h0⟩, ?_⟩
  rintro i m σ H ⟨rfl, hi, p⟩
  obtain ⟨q1, q2⟩ := hl i σ H hi p
  by_cases hlt : i < min xs.length ys.length
  · have h1 : i < xs.length := by omega
    have h2 : i < ys.length := by omega
    refine .inr ⟨⟨xs, ys, xs[i], ys[i], q1, q2, by simp [h1], by simp [h2]⟩, Pv (i + 1), fun σ' H' p' => ⟨_, by omega, rfl, hlt, p'⟩, fun v H' y => ?_⟩
    obtain ⟨t, x, y, rfl, nt, rfl, e⟩ := y
    obtain ⟨e1, e2⟩ := e xs ys q1 q2
    exact hs i x y t σ H _ e1 e2 p (Same.new nt) upd_same
  · have e : i = min xs.length ys.length := by omega
    subst e
    exact .inl ⟨⟨xs, ys, q1, q2, rfl⟩, hd σ H p⟩
theorem for_enum {K : PySem.W.Frag} {a : Addr} {xs : List V} {g : TG} {tb : TS} {D : Ends} {σ : St} {H : Hp} (Pv : Nat → St → Hp → Prop) (h0 : Pv 0 σ H) (hl : ∀ i σ H, i ≤ xs.length → Pv i σ H → SqL K H a xs)
    (hs : ∀ i x p σ H H1, xs[i]? = some x → Pv i σ H → Same H H1 → H1 p = some (.tup [.int (i : Int), x]) → g (.ref p) σ H1 fun σ2 H2 => tb { D with nx := Pv (i + 1), ct := Pv (i + 1), bk := D.nx } σ2 H2) (hd : ∀ σ H, Pv xs.length σ H → D.nx σ H) :
    ∃ W : Nat → Nat → St → Hp → Prop, (∃ m, W 0 m σ H) ∧ ∀ i m σ H, W i m σ H →
      ((Ite K a).stop i H ∧ D.nx σ H) ∨ ((Ite K a).go i H ∧ ∃ N : St → Hp → Prop, (∀ σ' H', N σ' H' → ∃ m', m' < m ∧ W (i + 1) m' σ' H') ∧ ∀ x H', (Ite K a).yld i H x H' → g x σ H' fun σ2 H2 => tb { D with nx := N, ct := N, bk := D.nx } σ2 H2) := by
  refine ⟨fun i m σ H => m = xs.length - i ∧ i ≤ xs.length ∧ Pv i σ H, ⟨_, rfl, Nat.zero_le _, h0⟩, ?_⟩
  rintro i m σ H ⟨rfl, hi, p⟩
  have q1 := hl i σ H hi p
  by_cases hlt : i < xs.length
  · refine .inr ⟨⟨xs, xs[i], q1, by simp [hlt]⟩, Pv (i + 1), fun σ' H' p' => ⟨_, by omega, rfl, hlt, p'⟩, fun v H' y => ?_⟩
    obtain ⟨t, x, rfl, nt, rfl, e⟩ := y
    exact hs i x t σ H _ (e xs q1) p (Same.new nt) upd_same
  · have e : i = xs.length := by omega
    subst e
    exact .inl ⟨⟨xs, q1, rfl⟩, hd σ H p⟩
end L2
/-! DATA: what a value stands for, whole; == and != of such -/
namespace L2
open PySem PySem.Spec PyProof.Rows
inductive D where
  | non | bl (b : Bool) | int (i : Int) | str (x : Str) | tup (ds : List D) | lst (ds : List D)
/-- the value v stands for d; n: no deeper -/
inductive Rp (H : Hp) : Nat → V → D → Prop where
  | non {n : Nat} : Rp H n .non .non
  | bl {n : Nat} {b : Bool} : Rp H n (.bl b) (.bl b)
  | int {n : Nat} {i : Int} : Rp H n (.int i) (.int i)
  | str {n : Nat} {x : Str} : Rp H n (.str x) (.str x)
  | tup {n : Nat} {p : Addr} {xs : List V} {ds : List D} (e : H p = some (.tup xs)) (hl : xs.length = ds.length) (h : ∀ (j : Nat) x d, xs[j]? = some x → ds[j]? = some d → Rp H n x d) : Rp H (n + 1) (.ref p) (.tup ds)
  | lst {n : Nat} {p : Addr} {xs : List V} {ds : List D} (e : H p = some (.lst xs)) (hl : xs.length = ds.length) (h : ∀ (j : Nat) x d, xs[j]? = some x → ds[j]? = some d → Rp H n x d) : Rp H (n + 1) (.ref p) (.lst ds)
theorem Rp.mono {H H' : Hp} {n : Nat} {v : V} {d : D} (r : Rp H n v d) (s : Same H H') : Rp H' n v d := by
  induction r with
  | non => exact .non
  | bl => exact .bl
  | int => exact .int
  | str => exact .str
  | tup e hl h ih => exact .tup (s _ _ e) hl ih
  | lst e hl h ih => exact .lst (s _ _ e) hl ih
theorem Rp.deep {H : Hp} {n m : Nat} {v : V} {d : D} (r : Rp H n v d) (hm : n ≤ m) : Rp H m v d := by
  induction r generalizing m with
  | non => exact .non
  | bl => exact .bl
  | int => exact .int
  | str => exact .str
  | tup e hl h ih =>
    obtain ⟨k, rfl⟩ : ∃ k, m = k + 1 := ⟨m - 1, by omega⟩
    exact .tup e hl fun j x d a b => ih j x d a b (by omega)
  | lst e hl h ih =>
    obtain ⟨k, rfl⟩ : ∃ k, m = k + 1 := ⟨m - 1, by omega⟩
    exact .lst e hl fun j x d a b => ih j x d a b (by omega)
/-- no list in it -/
inductive Tp : D → Prop where
  | non : Tp .non
  | bl {b : Bool} : Tp (.bl b)
  | int {i : Int} : Tp (.int i)
  | str {x : Str} : Tp (.str x)
  | tup {ds : List D} (h : ∀ d ∈ ds, Tp d) : Tp (.tup ds)
theorem Rp.t {H H' : Hp} {n : Nat} {v : V} {d : D} (r : Rp H n v d) (t : Tp d) (s : SameT H H') : Rp H' n v d := by
  induction r with
  | non => exact .non
  | bl => exact .bl
  | int => exact .int
  | str => exact .str
  | tup e hl h ih =>
    cases t with
    | tup ht => exact .tup (s _ _ e) hl fun j x d a b => ih j x d a b (ht d (List.mem_of_getElem? b))
  | lst e hl h ih => cases t
mutual
def deq : D → D → Bool
  | .non, .non => true
  | .bl a, .bl b => a == b
  | .bl a, .int b => (if a then 1 else 0) == b
  | .int a, .bl b => a == (if b then 1 else 0)
  | .int a, .int b => a == b
  | .str a, .str b => a == b
  | .tup xs, .tup ys => deqs xs ys
  | .lst xs, .lst ys => deqs xs ys
  | _, _ => false
def deqs : List D → List D → Bool
  | [], [] => true
  | x :: xs, y :: ys => deq x y && deqs xs ys
  | _, _ => false
end
theorem deqs_all : ∀ (ds es : List D), ((List.range (min ds.length es.length)).all (fun j => deq (ds.getD j .non) (es.getD j .non)) && ds.length == es.length) = deqs ds es
  | [], [] => by simp [deqs]
  | [], e :: es => by simp [deqs]
  | d :: ds, [] => by simp [deqs]
  | d :: ds, e :: es => by
    have ih := deqs_all ds es
    have hm : min (d :: ds).length (e :: es).length = min ds.length es.length + 1 := by simp only [List.length_cons]; omega
    rw [hm, List.range_succ_eq_map, List.all_cons, List.all_map]
    simp only [deqs, List.getD_cons_zero, List.length_cons]
    rw [← ih, Bool.and_assoc]
    congr 1
    simp [Function.comp_def]
theorem deqs_len {ds es : List D} (h : ds.length ≠ es.length) : deqs ds es = false := by
  rw [← deqs_all]
  simp [h]
theorem deqs_all' {ds es : List D} (h : ds.length = es.length) : (List.range ds.length).all (fun j => deq (ds.getD j .non) (es.getD j .non)) = deqs ds es := by
  rw [← deqs_all, h]
  simp
theorem deqs_of {ds es : List D} (hl : ds.length = es.length) (h : ∀ (j : Nat) d e, ds[j]? = some d → es[j]? = some e → deq d e = true) : deqs ds es = true := by
  rw [← deqs_all' hl, List.all_eq_true]
  intro j hj
  have hj' : j < ds.length := List.mem_range.mp hj
  have hj2 : j < es.length := by omega
  have e1 : ds[j]? = some ds[j] := List.getElem?_eq_getElem hj'
  have e2 : es[j]? = some es[j] := List.getElem?_eq_getElem hj2
  rw [List.getD_eq_getElem?_getD, List.getD_eq_getElem?_getD, e1, e2]
  exact h j _ _ e1 e2
theorem get_of_len {α β : Type} {xs : List α} {ds : List β} {j : Nat} {d : β} (hl : xs.length = ds.length) (h : ds[j]? = some d) : ∃ x, xs[j]? = some x := by
  have := (List.getElem?_eq_some_iff.mp h).1
  exact ⟨xs[j], List.getElem?_eq_getElem (by omega)⟩
/-- one value, read twice -/
theorem Rp.self {H : Hp} {n m : Nat} {v : V} {d e : D} (r : Rp H n v d) (q : Rp H m v e) : deq d e = true := by
  induction r generalizing m e with
  | non => cases q; rfl
  | bl => cases q; simp [deq]
  | int => cases q; simp [deq]
  | str => cases q; simp [deq]
  | tup e1 hl h ih =>
    cases q with
    | tup e2 hl2 h2 =>
      rw [e1] at e2
      cases e2
      refine deqs_of (by omega) fun j a b ea eb => ?_
      obtain ⟨x, hx⟩ := get_of_len hl ea
      exact ih j x a hx ea (h2 j x b hx eb)
    | lst e2 hl2 h2 => rw [e1] at e2; cases e2
  | lst e1 hl h ih =>
    cases q with
    | tup e2 hl2 h2 => rw [e1] at e2; cases e2
    | lst e2 hl2 h2 =>
      rw [e1] at e2
      cases e2
      refine deqs_of (by omega) fun j a b ea eb => ?_
      obtain ⟨x, hx⟩ := get_of_len hl ea
      exact ih j x a hx ea (h2 j x b hx eb)
section
variable {X : Cx} {pins : List (Addr × Obj)} {σ : St} {H : Hp} {s : Shared}
theorem elts_at {A : Around} {xs ys : List V} {us ws : List Value} {ds es : List D} (r : Vals xs us) (r' : Vals ys ws) (hl : xs.length = ds.length) (hl' : ys.length = es.length)
    (h : ∀ (j : Nat) x y d e u w, xs[j]? = some x → ys[j]? = some y → ds[j]? = some d → es[j]? = some e → RelV x u → RelV y w → SeqAt.EqAt A s u w (deq d e))
    (j : Nat) (h1 : j < us.toArray.size) (h2 : j < ws.toArray.size) : SeqAt.EqAt A s us.toArray[j] ws.toArray[j] (deq (ds.getD j .non) (es.getD j .non)) := by
  rw [List.size_toArray] at h1 h2
  obtain ⟨a, ea, ra⟩ := val_get r h1
  obtain ⟨c, ec, rc⟩ := val_get r' h2
  have g1 := (List.getElem?_eq_some_iff.mp ea).1
  have g2 := (List.getElem?_eq_some_iff.mp ec).1
  have e1 : ds[j]? = some ds[j] := List.getElem?_eq_getElem (by omega)
  have e2 : es[j]? = some es[j] := List.getElem?_eq_getElem (by omega)
  rw [List.getD_eq_getElem?_getD, List.getD_eq_getElem?_getD, e1, e2]
  exact h j a c _ _ _ _ ea ec e1 e2 ra rc
/-- == of two values, as the room has it -/
theorem Rp.eqAt {n : Nat} {x : V} {d : D} (r : Rp H n x d) : ∀ {m : Nat} {y : V} {e : D} {A : Around} {u v : Value}, Rp H m y e → Inv X pins σ H s → RelV x u → RelV y v → A.units + n < cLine → SeqAt.EqAt A s u v (deq d e) := by
  induction r with
  | non =>
    intro m y e A u v q I ru rv hu
    cases ru
    cases q with
    | non => cases rv; exact SeqAt.EqAt.same _
    | bl => cases rv; exact SeqAt.EqAt.none_bool _
    | int => obtain ⟨_, rfl⟩ := rv; exact SeqAt.EqAt.none_int _ _
    | str => obtain ⟨_, rfl⟩ := rv; exact SeqAt.EqAt.none_str _ _
    | tup e1 hl h => cases rv; obtain ⟨its, _, pl, _⟩ := I.tuple (SqT.of e1); exact SeqAt.EqAt.none_tuple pl (by omega)
    | lst e1 hl h => cases rv; obtain ⟨its, _, pl, _⟩ := I.list (SqL.of e1); exact SeqAt.EqAt.none_list pl.isList (by omega)
  | bl =>
    intro m y e A u v q I ru rv hu
    cases ru
    cases q with
    | non => cases rv; exact SeqAt.EqAt.bool_none _
    | bl => cases rv; exact SeqAt.EqAt.bool_bool _ _
    | int => obtain ⟨_, rfl⟩ := rv; exact SeqAt.EqAt.bool_int _ _ _
    | str => obtain ⟨_, rfl⟩ := rv; exact SeqAt.EqAt.bool_str _ _ _
    | tup e1 hl h => cases rv; obtain ⟨its, _, pl, _⟩ := I.tuple (SqT.of e1); exact SeqAt.EqAt.bool_tuple _ pl (by omega)
    | lst e1 hl h => cases rv; obtain ⟨its, _, pl, _⟩ := I.list (SqL.of e1); exact SeqAt.EqAt.bool_list _ pl.isList (by omega)
  | int =>
    intro m y e A u v q I ru rv hu
    obtain ⟨_, rfl⟩ := ru
    cases q with
    | non => cases rv; exact SeqAt.EqAt.int_none _ _
    | bl => cases rv; exact SeqAt.EqAt.int_bool _ _ _
    | int => obtain ⟨_, rfl⟩ := rv; exact SeqAt.EqAt.int_int _ _ _ _
    | str => obtain ⟨_, rfl⟩ := rv; exact SeqAt.EqAt.int_str _ _ _ _
    | tup e1 hl h => cases rv; obtain ⟨its, _, pl, _⟩ := I.tuple (SqT.of e1); exact SeqAt.EqAt.int_tuple _ _ pl (by omega)
    | lst e1 hl h => cases rv; obtain ⟨its, _, pl, _⟩ := I.list (SqL.of e1); exact SeqAt.EqAt.int_list _ _ pl.isList (by omega)
  | str =>
    intro m y e A u v q I ru rv hu
    obtain ⟨_, rfl⟩ := ru
    cases q with
    | non => cases rv; exact SeqAt.EqAt.str_none _ _
    | bl => cases rv; exact SeqAt.EqAt.str_bool _ _ _
    | int => obtain ⟨_, rfl⟩ := rv; exact SeqAt.EqAt.str_int _ _ _ _
    | str => obtain ⟨_, rfl⟩ := rv; exact SeqAt.EqAt.str_str _ _ _ _
    | tup e1 hl h => cases rv; obtain ⟨its, _, pl, _⟩ := I.tuple (SqT.of e1); exact SeqAt.EqAt.str_tuple _ _ pl (by omega)
    | lst e1 hl h => cases rv; obtain ⟨its, _, pl, _⟩ := I.list (SqL.of e1); exact SeqAt.EqAt.str_list _ _ pl.isList (by omega)
  | @tup n p xs ds e0 hl h ih =>
    intro m y e A u v q I ru rv hu
    cases ru
    obtain ⟨its, r1, pl, _⟩ := I.tuple (SqT.of e0)
    cases q with
    | non => cases rv; exact SeqAt.EqAt.tuple_none pl (by omega)
    | bl => cases rv; exact SeqAt.EqAt.tuple_bool _ pl (by omega)
    | int => obtain ⟨_, rfl⟩ := rv; exact SeqAt.EqAt.tuple_int _ _ pl (by omega)
    | str => obtain ⟨_, rfl⟩ := rv; exact SeqAt.EqAt.tuple_str _ _ pl (by omega)
    | lst e1 hl1 h1 => cases rv; obtain ⟨jts, _, pl', _⟩ := I.list (SqL.of e1); exact SeqAt.EqAt.tuple_list pl pl'.isList (by omega)
    | @tup m p' ys es e1 hl1 h1 =>
      cases rv
      by_cases hne : p = p'
      · subst hne
        have z : deq (.tup ds) (.tup es) = true := Rp.self (Rp.tup e0 hl h) (Rp.tup e1 hl1 h1)
        rw [z]
        exact SeqAt.EqAt.same _
      · obtain ⟨jts, r2, pl', _⟩ := I.tuple (SqT.of e1)
        have y := SeqAt.RcAt.tuples (A := A) (e := fun j => deq (ds.getD j .non) (es.getD j .non)) pl pl' (by omega) (elts_at r1 r2 hl hl1 fun j x y d e u w a b c k ra rb => ih j x d a c (h1 j y e b k) I ra rb (by show A.units + 1 + n < cLine; omega))
        rw [List.size_toArray, List.size_toArray, ← r1.length, ← r2.length, hl, hl1, deqs_all] at y
        exact SeqAt.EqAt.of_refs hne y
  | @lst n p xs ds e0 hl h ih =>
    intro m y e A u v q I ru rv hu
    cases ru
    obtain ⟨its, r1, pl, _⟩ := I.list (SqL.of e0)
    cases q with
    | non => cases rv; exact SeqAt.EqAt.list_none pl.isList (by omega)
    | bl => cases rv; exact SeqAt.EqAt.list_bool _ pl.isList (by omega)
    | int => obtain ⟨_, rfl⟩ := rv; exact SeqAt.EqAt.list_int _ _ pl.isList (by omega)
    | str => obtain ⟨_, rfl⟩ := rv; exact SeqAt.EqAt.list_str _ _ pl.isList (by omega)
    | tup e1 hl1 h1 => cases rv; obtain ⟨jts, _, pl', _⟩ := I.tuple (SqT.of e1); exact SeqAt.EqAt.list_tuple pl.isList pl' (by omega)
    | @lst m p' ys es e1 hl1 h1 =>
      cases rv
      by_cases hne : p = p'
      · subst hne
        have z : deq (.lst ds) (.lst es) = true := Rp.self (Rp.lst e0 hl h) (Rp.lst e1 hl1 h1)
        rw [z]
        exact SeqAt.EqAt.same _
      · obtain ⟨jts, r2, pl', _⟩ := I.list (SqL.of e1)
        have g1 := r1.length
        have g2 := r2.length
        by_cases hz : ds.length = es.length
        · have y := SeqAt.RcAt.lists (A := A) (e := fun j => deq (ds.getD j .non) (es.getD j .non)) pl.isList pl'.isList (by rw [List.size_toArray, List.size_toArray]; omega) (by omega) (elts_at r1 r2 hl hl1 fun j x y d e u w a b c k ra rb => ih j x d a c (h1 j y e b k) I ra rb (by show A.units + 1 + n < cLine; omega))
          rw [List.size_toArray, ← r1.length, hl, deqs_all' hz] at y
          exact SeqAt.EqAt.of_refs hne y
        · rw [show deq (.lst ds) (.lst es) = false from deqs_len hz]
          exact SeqAt.EqAt.of_refs hne (SeqAt.RcAt.lists_lengths pl.isList pl'.isList (by rw [List.size_toArray, List.size_toArray]; simp; omega) (by omega))
end
end L2
/-! GENERATED -/
namespace L2
open PySem PySem.Spec PyProof.Rows
section
variable {X : Cx} {pins : List (Addr × Obj)} {σ : St} {H : Hp} {s : Shared}
theorem Rp.rcAt {A : Around} {n m : Nat} {x y : V} {d e : D} {u v : Value} (r : Rp H n x d) (q : Rp H m y e) (I : Inv X pins σ H s) (ru : RelV x u) (rv : RelV y v) (hu : A.units + n + 1 < cLine) : SeqAt.RcAt A s u v (deq d e) := by
  cases r with
  | non =>
    cases q with
    | non =>
      cases ru
      cases rv
      exact SeqAt.RcAt.none_none
    | bl =>
      cases ru
      cases rv
      exact SeqAt.RcAt.none_bool _
    | int =>
      cases ru
      obtain ⟨_, rfl⟩ := rv
      exact SeqAt.RcAt.none_int _ _
    | str =>
      cases ru
      obtain ⟨_, rfl⟩ := rv
      exact SeqAt.RcAt.none_str _ _
    | @tup m p' ys es e1 hl1 h1 =>
      cases ru
      cases rv
      obtain ⟨jts, r2, pl', _⟩ := I.tuple (SqT.of e1)
      exact SeqAt.RcAt.none_tuple pl' (by omega)
    | @lst m p' ys es e1 hl1 h1 =>
      cases ru
      cases rv
      obtain ⟨jts, r2, pl', _⟩ := I.list (SqL.of e1)
      exact SeqAt.RcAt.none_list pl'.isList (by omega)
  | bl =>
    cases q with
    | non =>
      cases ru
      cases rv
      exact SeqAt.RcAt.bool_none _
    | bl =>
      cases ru
      cases rv
      exact SeqAt.RcAt.bool_bool _ _
    | int =>
      cases ru
      obtain ⟨_, rfl⟩ := rv
      exact SeqAt.RcAt.bool_int _ _ _
    | str =>
      cases ru
      obtain ⟨_, rfl⟩ := rv
      exact SeqAt.RcAt.bool_str _ _ _
    | @tup m p' ys es e1 hl1 h1 =>
      cases ru
      cases rv
      obtain ⟨jts, r2, pl', _⟩ := I.tuple (SqT.of e1)
      exact SeqAt.RcAt.bool_tuple _ pl' (by omega)
    | @lst m p' ys es e1 hl1 h1 =>
      cases ru
      cases rv
      obtain ⟨jts, r2, pl', _⟩ := I.list (SqL.of e1)
      exact SeqAt.RcAt.bool_list _ pl'.isList (by omega)
  | int =>
    cases q with
    | non =>
      obtain ⟨_, rfl⟩ := ru
      cases rv
      exact SeqAt.RcAt.int_none _ _
    | bl =>
      obtain ⟨_, rfl⟩ := ru
      cases rv
      exact SeqAt.RcAt.int_bool _ _ _
    | int =>
      obtain ⟨_, rfl⟩ := ru
      obtain ⟨_, rfl⟩ := rv
      exact SeqAt.RcAt.int_int _ _ _ _
    | str =>
      obtain ⟨_, rfl⟩ := ru
      obtain ⟨_, rfl⟩ := rv
      exact SeqAt.RcAt.int_str _ _ _ _
    | @tup m p' ys es e1 hl1 h1 =>
      obtain ⟨_, rfl⟩ := ru
      cases rv
      obtain ⟨jts, r2, pl', _⟩ := I.tuple (SqT.of e1)
      exact SeqAt.RcAt.int_tuple _ _ pl' (by omega)
    | @lst m p' ys es e1 hl1 h1 =>
      obtain ⟨_, rfl⟩ := ru
      cases rv
      obtain ⟨jts, r2, pl', _⟩ := I.list (SqL.of e1)
      exact SeqAt.RcAt.int_list _ _ pl'.isList (by omega)
  | str =>
    cases q with
    | non =>
      obtain ⟨_, rfl⟩ := ru
      cases rv
      exact SeqAt.RcAt.str_none _ _
    | bl =>
      obtain ⟨_, rfl⟩ := ru
      cases rv
      exact SeqAt.RcAt.str_bool _ _ _
    | int =>
      obtain ⟨_, rfl⟩ := ru
      obtain ⟨_, rfl⟩ := rv
      exact SeqAt.RcAt.str_int _ _ _ _
    | str =>
      obtain ⟨_, rfl⟩ := ru
      obtain ⟨_, rfl⟩ := rv
      exact SeqAt.RcAt.str_str _ _ _ _
    | @tup m p' ys es e1 hl1 h1 =>
      obtain ⟨_, rfl⟩ := ru
      cases rv
      obtain ⟨jts, r2, pl', _⟩ := I.tuple (SqT.of e1)
      exact SeqAt.RcAt.str_tuple _ _ pl' (by omega)
    | @lst m p' ys es e1 hl1 h1 =>
      obtain ⟨_, rfl⟩ := ru
      cases rv
      obtain ⟨jts, r2, pl', _⟩ := I.list (SqL.of e1)
      exact SeqAt.RcAt.str_list _ _ pl'.isList (by omega)
  | @tup n p xs ds e0 hl h =>
    cases q with
    | non =>
      cases ru
      cases rv
      obtain ⟨its, r1, pl, _⟩ := I.tuple (SqT.of e0)
      exact SeqAt.RcAt.tuple_none pl (by omega)
    | bl =>
      cases ru
      cases rv
      obtain ⟨its, r1, pl, _⟩ := I.tuple (SqT.of e0)
      exact SeqAt.RcAt.tuple_bool _ pl (by omega)
    | int =>
      cases ru
      obtain ⟨_, rfl⟩ := rv
      obtain ⟨its, r1, pl, _⟩ := I.tuple (SqT.of e0)
      exact SeqAt.RcAt.tuple_int _ _ pl (by omega)
    | str =>
      cases ru
      obtain ⟨_, rfl⟩ := rv
      obtain ⟨its, r1, pl, _⟩ := I.tuple (SqT.of e0)
      exact SeqAt.RcAt.tuple_str _ _ pl (by omega)
    | @tup m p' ys es e1 hl1 h1 =>
      cases ru
      cases rv
      obtain ⟨its, r1, pl, _⟩ := I.tuple (SqT.of e0)
      obtain ⟨jts, r2, pl', _⟩ := I.tuple (SqT.of e1)
      have y := SeqAt.RcAt.tuples (A := A) (e := fun j => deq (ds.getD j .non) (es.getD j .non)) pl pl' (by omega) (elts_at r1 r2 hl hl1 fun j x y d e u w a b c k ra rb => (h j x d a c).eqAt (h1 j y e b k) I ra rb (by show A.units + 1 + _ < cLine; omega))
      rw [List.size_toArray, List.size_toArray, ← r1.length, ← r2.length, hl, hl1, deqs_all] at y
      exact y
    | @lst m p' ys es e1 hl1 h1 =>
      cases ru
      cases rv
      obtain ⟨its, r1, pl, _⟩ := I.tuple (SqT.of e0)
      obtain ⟨jts, r2, pl', _⟩ := I.list (SqL.of e1)
      exact SeqAt.RcAt.tuple_list pl pl'.isList (by omega)
  | @lst n p xs ds e0 hl h =>
    cases q with
    | non =>
      cases ru
      cases rv
      obtain ⟨its, r1, pl, _⟩ := I.list (SqL.of e0)
      exact SeqAt.RcAt.list_none pl.isList (by omega)
    | bl =>
      cases ru
      cases rv
      obtain ⟨its, r1, pl, _⟩ := I.list (SqL.of e0)
      exact SeqAt.RcAt.list_bool _ pl.isList (by omega)
    | int =>
      cases ru
      obtain ⟨_, rfl⟩ := rv
      obtain ⟨its, r1, pl, _⟩ := I.list (SqL.of e0)
      exact SeqAt.RcAt.list_int _ _ pl.isList (by omega)
    | str =>
      cases ru
      obtain ⟨_, rfl⟩ := rv
      obtain ⟨its, r1, pl, _⟩ := I.list (SqL.of e0)
      exact SeqAt.RcAt.list_str _ _ pl.isList (by omega)
    | @tup m p' ys es e1 hl1 h1 =>
      cases ru
      cases rv
      obtain ⟨its, r1, pl, _⟩ := I.list (SqL.of e0)
      obtain ⟨jts, r2, pl', _⟩ := I.tuple (SqT.of e1)
      exact SeqAt.RcAt.list_tuple pl.isList pl' (by omega)
    | @lst m p' ys es e1 hl1 h1 =>
      cases ru
      cases rv
      obtain ⟨its, r1, pl, _⟩ := I.list (SqL.of e0)
      obtain ⟨jts, r2, pl', _⟩ := I.list (SqL.of e1)
      have g1 := r1.length
      have g2 := r2.length
      by_cases hz : ds.length = es.length
      · have y := SeqAt.RcAt.lists (A := A) (e := fun j => deq (ds.getD j .non) (es.getD j .non)) pl.isList pl'.isList (by rw [List.size_toArray, List.size_toArray]; omega) (by omega) (elts_at r1 r2 hl hl1 fun j x y d e u w a b c k ra rb => (h j x d a c).eqAt (h1 j y e b k) I ra rb (by show A.units + 1 + _ < cLine; omega))
        rw [List.size_toArray, ← r1.length, hl, deqs_all' hz] at y
        exact y
      · rw [show deq (.lst ds) (.lst es) = false from deqs_len hz]
        exact SeqAt.RcAt.lists_lengths pl.isList pl'.isList (by rw [List.size_toArray, List.size_toArray]; simp; omega) (by omega)
theorem Rp.rcNeAt {A : Around} {n m : Nat} {x y : V} {d e : D} {u v : Value} (r : Rp H n x d) (q : Rp H m y e) (I : Inv X pins σ H s) (ru : RelV x u) (rv : RelV y v) (hu : A.units + n + 1 < cLine) : SeqAt.RcNeAt A s u v (!(deq d e)) := by
  cases r with
  | non =>
    cases q with
    | non =>
      cases ru
      cases rv
      exact SeqAt.RcNeAt.none_none
    | bl =>
      cases ru
      cases rv
      exact SeqAt.RcNeAt.none_bool _
    | int =>
      cases ru
      obtain ⟨_, rfl⟩ := rv
      exact SeqAt.RcNeAt.none_int _ _
    | str =>
      cases ru
      obtain ⟨_, rfl⟩ := rv
      exact SeqAt.RcNeAt.none_str _ _
    | @tup m p' ys es e1 hl1 h1 =>
      cases ru
      cases rv
      obtain ⟨jts, r2, pl', _⟩ := I.tuple (SqT.of e1)
      exact SeqAt.RcNeAt.none_tuple pl' (by omega)
    | @lst m p' ys es e1 hl1 h1 =>
      cases ru
      cases rv
      obtain ⟨jts, r2, pl', _⟩ := I.list (SqL.of e1)
      exact SeqAt.RcNeAt.none_list pl'.isList (by omega)
  | bl =>
    cases q with
    | non =>
      cases ru
      cases rv
      exact SeqAt.RcNeAt.bool_none _
    | bl =>
      cases ru
      cases rv
      exact SeqAt.RcNeAt.bool_bool _ _
    | int =>
      cases ru
      obtain ⟨_, rfl⟩ := rv
      exact SeqAt.RcNeAt.bool_int _ _ _
    | str =>
      cases ru
      obtain ⟨_, rfl⟩ := rv
      exact SeqAt.RcNeAt.bool_str _ _ _
    | @tup m p' ys es e1 hl1 h1 =>
      cases ru
      cases rv
      obtain ⟨jts, r2, pl', _⟩ := I.tuple (SqT.of e1)
      exact SeqAt.RcNeAt.bool_tuple _ pl' (by omega)
    | @lst m p' ys es e1 hl1 h1 =>
      cases ru
      cases rv
      obtain ⟨jts, r2, pl', _⟩ := I.list (SqL.of e1)
      exact SeqAt.RcNeAt.bool_list _ pl'.isList (by omega)
  | int =>
    cases q with
    | non =>
      obtain ⟨_, rfl⟩ := ru
      cases rv
      exact SeqAt.RcNeAt.int_none _ _
    | bl =>
      obtain ⟨_, rfl⟩ := ru
      cases rv
      exact SeqAt.RcNeAt.int_bool _ _ _
    | int =>
      obtain ⟨_, rfl⟩ := ru
      obtain ⟨_, rfl⟩ := rv
      exact SeqAt.RcNeAt.int_int _ _ _ _
    | str =>
      obtain ⟨_, rfl⟩ := ru
      obtain ⟨_, rfl⟩ := rv
      exact SeqAt.RcNeAt.int_str _ _ _ _
    | @tup m p' ys es e1 hl1 h1 =>
      obtain ⟨_, rfl⟩ := ru
      cases rv
      obtain ⟨jts, r2, pl', _⟩ := I.tuple (SqT.of e1)
      exact SeqAt.RcNeAt.int_tuple _ _ pl' (by omega)
    | @lst m p' ys es e1 hl1 h1 =>
      obtain ⟨_, rfl⟩ := ru
      cases rv
      obtain ⟨jts, r2, pl', _⟩ := I.list (SqL.of e1)
      exact SeqAt.RcNeAt.int_list _ _ pl'.isList (by omega)
  | str =>
    cases q with
    | non =>
      obtain ⟨_, rfl⟩ := ru
      cases rv
      exact SeqAt.RcNeAt.str_none _ _
    | bl =>
      obtain ⟨_, rfl⟩ := ru
      cases rv
      exact SeqAt.RcNeAt.str_bool _ _ _
    | int =>
      obtain ⟨_, rfl⟩ := ru
      obtain ⟨_, rfl⟩ := rv
      exact SeqAt.RcNeAt.str_int _ _ _ _
    | str =>
      obtain ⟨_, rfl⟩ := ru
      obtain ⟨_, rfl⟩ := rv
      exact SeqAt.RcNeAt.str_str _ _ _ _
    | @tup m p' ys es e1 hl1 h1 =>
      obtain ⟨_, rfl⟩ := ru
      cases rv
      obtain ⟨jts, r2, pl', _⟩ := I.tuple (SqT.of e1)
      exact SeqAt.RcNeAt.str_tuple _ _ pl' (by omega)
    | @lst m p' ys es e1 hl1 h1 =>
      obtain ⟨_, rfl⟩ := ru
      cases rv
      obtain ⟨jts, r2, pl', _⟩ := I.list (SqL.of e1)
      exact SeqAt.RcNeAt.str_list _ _ pl'.isList (by omega)
  | @tup n p xs ds e0 hl h =>
    cases q with
    | non =>
      cases ru
      cases rv
      obtain ⟨its, r1, pl, _⟩ := I.tuple (SqT.of e0)
      exact SeqAt.RcNeAt.tuple_none pl (by omega)
    | bl =>
      cases ru
      cases rv
      obtain ⟨its, r1, pl, _⟩ := I.tuple (SqT.of e0)
      exact SeqAt.RcNeAt.tuple_bool _ pl (by omega)
    | int =>
      cases ru
      obtain ⟨_, rfl⟩ := rv
      obtain ⟨its, r1, pl, _⟩ := I.tuple (SqT.of e0)
      exact SeqAt.RcNeAt.tuple_int _ _ pl (by omega)
    | str =>
      cases ru
      obtain ⟨_, rfl⟩ := rv
      obtain ⟨its, r1, pl, _⟩ := I.tuple (SqT.of e0)
      exact SeqAt.RcNeAt.tuple_str _ _ pl (by omega)
    | @tup m p' ys es e1 hl1 h1 =>
      cases ru
      cases rv
      obtain ⟨its, r1, pl, _⟩ := I.tuple (SqT.of e0)
      obtain ⟨jts, r2, pl', _⟩ := I.tuple (SqT.of e1)
      have y := SeqAt.RcNeAt.tuples (A := A) (e := fun j => deq (ds.getD j .non) (es.getD j .non)) pl pl' (by omega) (elts_at r1 r2 hl hl1 fun j x y d e u w a b c k ra rb => (h j x d a c).eqAt (h1 j y e b k) I ra rb (by show A.units + 1 + _ < cLine; omega))
      rw [List.size_toArray, List.size_toArray, ← r1.length, ← r2.length, hl, hl1, deqs_all] at y
      exact y
    | @lst m p' ys es e1 hl1 h1 =>
      cases ru
      cases rv
      obtain ⟨its, r1, pl, _⟩ := I.tuple (SqT.of e0)
      obtain ⟨jts, r2, pl', _⟩ := I.list (SqL.of e1)
      exact SeqAt.RcNeAt.tuple_list pl pl'.isList (by omega)
  | @lst n p xs ds e0 hl h =>
    cases q with
    | non =>
      cases ru
      cases rv
      obtain ⟨its, r1, pl, _⟩ := I.list (SqL.of e0)
      exact SeqAt.RcNeAt.list_none pl.isList (by omega)
    | bl =>
      cases ru
      cases rv
      obtain ⟨its, r1, pl, _⟩ := I.list (SqL.of e0)
      exact SeqAt.RcNeAt.list_bool _ pl.isList (by omega)
    | int =>
      cases ru
      obtain ⟨_, rfl⟩ := rv
      obtain ⟨its, r1, pl, _⟩ := I.list (SqL.of e0)
      exact SeqAt.RcNeAt.list_int _ _ pl.isList (by omega)
    | str =>
      cases ru
      obtain ⟨_, rfl⟩ := rv
      obtain ⟨its, r1, pl, _⟩ := I.list (SqL.of e0)
      exact SeqAt.RcNeAt.list_str _ _ pl.isList (by omega)
    | @tup m p' ys es e1 hl1 h1 =>
      cases ru
      cases rv
      obtain ⟨its, r1, pl, _⟩ := I.list (SqL.of e0)
      obtain ⟨jts, r2, pl', _⟩ := I.tuple (SqT.of e1)
      exact SeqAt.RcNeAt.list_tuple pl.isList pl' (by omega)
    | @lst m p' ys es e1 hl1 h1 =>
      cases ru
      cases rv
      obtain ⟨its, r1, pl, _⟩ := I.list (SqL.of e0)
      obtain ⟨jts, r2, pl', _⟩ := I.list (SqL.of e1)
      have g1 := r1.length
      have g2 := r2.length
      by_cases hz : ds.length = es.length
      · have y := SeqAt.RcNeAt.lists (A := A) (e := fun j => deq (ds.getD j .non) (es.getD j .non)) pl.isList pl'.isList (by rw [List.size_toArray, List.size_toArray]; omega) (by omega) (elts_at r1 r2 hl hl1 fun j x y d e u w a b c k ra rb => (h j x d a c).eqAt (h1 j y e b k) I ra rb (by show A.units + 1 + _ < cLine; omega))
        rw [List.size_toArray, ← r1.length, hl, deqs_all' hz] at y
        exact y
      · rw [show deq (.lst ds) (.lst es) = false from deqs_len hz]
        exact SeqAt.RcNeAt.lists_lengths pl.isList pl'.isList (by rw [List.size_toArray, List.size_toArray]; simp; omega) (by omega)
end
section
variable {X : Cx}
def rEqD (neg : Bool) : R2 := fun x y H Q => ∃ d e, Rp H 9 x d ∧ Rp H 9 y e ∧ Q (.bl (if neg then !(deq d e) else deq d e)) H
theorem op_eqD (hu : X.A.units + 10 < cLine) : OpR X (compareOp .Eq) (rEqD false) := by
  intro pins s σ H x y v u Q I rx ry h
  obtain ⟨d, e, rd, re, k⟩ := h
  exact rd.rcAt re I rx ry (by omega) _ _ _ _ ⟨.bl _, H, I, rfl, k⟩
theorem op_neD (hu : X.A.units + 10 < cLine) : OpR X (compareOp .NotEq) (rEqD true) := by
  intro pins s σ H x y v u Q I rx ry h
  obtain ⟨d, e, rd, re, k⟩ := h
  exact rd.rcNeAt re I rx ry (by omega) _ _ _ _ ⟨.bl _, H, I, rfl, k⟩
end
/-! ### how one shows what a value stands for -/
section
variable {H : Hp} {n : Nat} {p : Addr} {x y z w : V} {a b c d : D}
theorem Rp.t0 (e : H p = some (.tup [])) : Rp H (n + 1) (.ref p) (.tup []) := .tup e rfl fun j x d h => by simp at h
theorem Rp.t1 (e : H p = some (.tup [x])) (ha : Rp H n x a) : Rp H (n + 1) (.ref p) (.tup [a]) := .tup e rfl fun j x d h k => by
  match j with
  | 0 => cases h; cases k; exact ha
  | j + 1 => simp at h
theorem Rp.t2 (e : H p = some (.tup [x, y])) (ha : Rp H n x a) (hb : Rp H n y b) : Rp H (n + 1) (.ref p) (.tup [a, b]) := .tup e rfl fun j x d h k => by
  match j with
  | 0 => cases h; cases k; exact ha
  | 1 => cases h; cases k; exact hb
  | j + 2 => simp at h
theorem Rp.t3 (e : H p = some (.tup [x, y, z])) (ha : Rp H n x a) (hb : Rp H n y b) (hc : Rp H n z c) : Rp H (n + 1) (.ref p) (.tup [a, b, c]) := .tup e rfl fun j x d h k => by
  match j with
  | 0 => cases h; cases k; exact ha
  | 1 => cases h; cases k; exact hb
  | 2 => cases h; cases k; exact hc
  | j + 3 => simp at h
theorem Rp.t4 (e : H p = some (.tup [x, y, z, w])) (ha : Rp H n x a) (hb : Rp H n y b) (hc : Rp H n z c) (hd : Rp H n w d) : Rp H (n + 1) (.ref p) (.tup [a, b, c, d]) := .tup e rfl fun j x d h k => by
  match j with
  | 0 => cases h; cases k; exact ha
  | 1 => cases h; cases k; exact hb
  | 2 => cases h; cases k; exact hc
  | 3 => cases h; cases k; exact hd
  | j + 4 => simp at h
theorem Rp.l0 (e : H p = some (.lst [])) : Rp H (n + 1) (.ref p) (.lst []) := .lst e rfl fun j x d h => by simp at h
theorem Rp.l1 (e : H p = some (.lst [x])) (ha : Rp H n x a) : Rp H (n + 1) (.ref p) (.lst [a]) := .lst e rfl fun j x d h k => by
  match j with
  | 0 => cases h; cases k; exact ha
  | j + 1 => simp at h
theorem Rp.l2 (e : H p = some (.lst [x, y])) (ha : Rp H n x a) (hb : Rp H n y b) : Rp H (n + 1) (.ref p) (.lst [a, b]) := .lst e rfl fun j x d h k => by
  match j with
  | 0 => cases h; cases k; exact ha
  | 1 => cases h; cases k; exact hb
  | j + 2 => simp at h
theorem deqs_self : ∀ {ds : List D}, (∀ d ∈ ds, deq d d = true) → deqs ds ds = true
  | [], _ => by simp [deqs]
  | d :: ds, h => by
    simp only [deqs, Bool.and_eq_true]
    exact ⟨h d (by simp), deqs_self fun e he => h e (by simp [he])⟩
mutual
theorem deq_self : ∀ d : D, deq d d = true
  | .non => rfl
  | .bl b => by simp [deq]
  | .int i => by simp [deq]
  | .str x => by simp [deq]
  | .tup ds => by simp only [deq]; exact deqs_same ds
  | .lst ds => by simp only [deq]; exact deqs_same ds
theorem deqs_same : ∀ ds : List D, deqs ds ds = true
  | [] => by simp [deqs]
  | d :: ds => by simp only [deqs, Bool.and_eq_true]; exact ⟨deq_self d, deqs_same ds⟩
end
end
end L2
/- a bound of a number's size -/
local macro_rules | `(tactic| walk_at "bt") => `(tactic| first
  | assumption
  | (apply L2.bits_mul <;> walk_at "bt")
  | (apply L2.bits_add2 <;> walk_at "bt")
  | (apply L2.bits_sub2 <;> walk_at "bt")
  | (apply L2.bits_neg; walk_at "bt")
  | (apply L2.bits_abs; walk_at "bt")
  | exact L2.bits_lit)
/- .. at most a written one -/
local macro_rules | `(tactic| walk_at "bl") => `(tactic| (apply L2.bits_of_le; (walk_at "bt"); decide))
local macro_rules | `(tactic| walk_at "cm") => `(tactic| first
  | exact L2.CM.l ⟨by decide, by decide⟩
  | exact L2.CM.r ⟨by decide, by decide⟩
  | (apply L2.CM.of; (walk_at "bt"); (walk_at "bt"); decide))
/- what stands at an address -/
local macro_rules | `(tactic| walk_at "at") => `(tactic| first
  | assumption
  | exact L2.upd_same
  | (refine L2.Same.at (by assumption) ?_; walk_at "at")
  | (refine L2.SameT.at (by assumption) ?_; walk_at "at"))
local macro_rules | `(tactic| walk_at "sm") => `(tactic| first
  | assumption
  | exact L2.Same.rfl'
  | (refine L2.Same.trans ?_ (by assumption); walk_at "sm"))
local macro_rules | `(tactic| walk_at "kn") => `(tactic| first
  | assumption
  | exact ⟨_, .int _⟩ | exact ⟨_, .bl _⟩ | exact ⟨_, .str _⟩ | exact ⟨_, .non⟩
  | exact ⟨_, .tup (by walk_at "at")⟩ | exact ⟨_, .lst (by walk_at "at")⟩ | exact ⟨_, .dict (by walk_at "at")⟩)
local macro_rules | `(tactic| walk_at "nice") => `(tactic| first
  | exact L2.nice_int | exact L2.nice_bool | exact L2.nice_tuple | exact L2.nice_list | exact L2.nice_str)
local macro_rules | `(tactic| walk_at "th") => `(tactic| first
  | assumption
  | exact Sp1.th_flat .non (fun p e => nomatch e) | exact Sp1.th_flat (.int _) (fun p e => nomatch e) | exact Sp1.th_flat (.bl _) (fun p e => nomatch e) | exact Sp1.th_flat (.str _) (fun p e => nomatch e)
  | exact Sp1.th_lst (by walk_at "at")
  | (refine' Sp1.th_tup ?hat ?hkn; (case hat => walk_at "at"); (case hkn => (simp only [List.mem_cons, List.not_mem_nil, or_false, forall_eq_or_imp, forall_eq, false_imp_iff, implies_true]; (try (first | (walk_at "kn") | (repeat' apply And.intro) <;> walk_at "kn")))))
  )
/- a step of the reading -/
local macro_rules | `(tactic| walk_at "r1") => `(tactic| first
  | (refine ⟨_, rfl, ?_⟩)
  | (refine ⟨_, _, rfl, rfl, ?_⟩)
  | (refine' ⟨_, _, _, _, rfl, rfl, L2.SqT.of ?hat, ?hix, ?nxt⟩; (case hat => walk_at "at"); (case hix => exact rfl))
  | (refine' ⟨_, _, _, _, rfl, rfl, L2.SqL.of ?hat, ?hix, ?nxt⟩; (case hat => walk_at "at"); (case hix => exact rfl))
  | (refine ⟨by walk_at "cm", ?_⟩)
  | (refine ⟨(by show (0 : Int) < _; decide), ?_⟩)
  | (refine ⟨⟨by decide, by decide⟩, ?_⟩)
  | (refine ⟨⟨by decide, by decide, by decide⟩, ?_⟩)
  | (refine ⟨Sp1.sz (by simp), fun _ _ _ _ _ => ?_⟩)
  | (refine ⟨Sp1.sz (by simp), L2.alloc fun _ _ _ _ => ?_⟩)
  | (refine' ⟨_, _, _, _, rfl, rfl, ?hat, ?hbt, Sp1.sz ?hsz, fun _ _ _ _ _ => ?nxt⟩; (case hat => walk_at "at"); (case hbt => walk_at "at"); (case hsz => simp))
  | (refine' ⟨_, _, _, _, rfl, rfl, ?hat, ?hbt, Sp1.sz ?hsz, L2.alloc fun _ _ _ _ => ?nxt⟩; (case hat => walk_at "at"); (case hbt => walk_at "at"); (case hsz => simp))
  | (refine' ⟨_, _, rfl, .inl (L2.SqL.of ?hat), ?nxt⟩; (case hat => walk_at "at"))
  | (refine' ⟨_, _, rfl, .inr (L2.SqT.of ?hat), ?nxt⟩; (case hat => walk_at "at"))
  | (refine' L2.alloc fun _ _ _ _ => ?nxt))
local macro_rules | `(tactic| walk_at "rd") => `(tactic| repeat (walk_at "r1"))
namespace K51
open PySem PySem.Spec L2 Mth Sp1 Sp2 Sp3
def top (i : Nat) : Stmt := PySem.Challenge.pw_oneleash_k51_parts_and_short_cuts.main.body.getD i (.Pass ⟨0, 0, 0, 0⟩)
structure Txt (mg : Str → Option Value) : Prop where
  z_bool : mg "bool" = none
  z_isinstance : mg "isinstance" = none
  z_len : mg "len" = none
  z_list : mg "list" = none
  z_max : mg "max" = none
  z_min : mg "min" = none
  z_range : mg "range" = none
  z_tuple : mg "tuple" = none
  z_zip : mg "zip" = none
section
variable {P : Program} {w : World} {K : PySem.W.Frag} {mg : Str → Option Value} {base : Heap}

/-- what a pool of one number may change -/
structure Pl (p : Addr) (H H' : Hp) : Prop where
  oth : ∀ b o, b ≠ p → H b = some o → H' b = some o
  was : ∃ n : Int, H p = some (.lst [.int n])
  now : ∃ n : Int, H' p = some (.lst [.int n])
theorem Pl.refl {p : Addr} {H : Hp} {n : Int} (h : H p = some (.lst [.int n])) : Pl p H H := ⟨fun _ _ _ e => e, ⟨n, h⟩, ⟨n, h⟩⟩
theorem Pl.trans {p : Addr} {H H1 H2 : Hp} (a : Pl p H H1) (b : Pl p H1 H2) : Pl p H H2 := ⟨fun c o n e => b.oth c o n (a.oth c o n e), a.was, b.now⟩
theorem Pl.same {p : Addr} {H0 H H' : Hp} (a : Pl p H H') (s : Same H0 H) (h : H0 p = none) : Same H0 H' := fun b o e => a.oth b o (ne_of_none e h) (s b o e)
theorem Pl.t {p : Addr} {H H' : Hp} (a : Pl p H H') : SameT H H' := fun b xs e => by
  obtain ⟨n, h⟩ := a.was
  exact a.oth b _ (ne_of e h (by intro z; cases z)) e
theorem Pl.grow {p : Addr} {H H1 H2 : Hp} (a : Pl p H H1) (s : Same H1 H2) : Pl p H H2 := ⟨fun c o n e => s c o (a.oth c o n e), a.was, let ⟨n, h⟩ := a.now; ⟨n, s _ _ h⟩⟩
theorem Pl.lst {p l : Addr} {H H' : Hp} {xs : List V} (a : Pl p H H') (n : l ≠ p) (e : H l = some (.lst xs)) : H' l = some (.lst xs) := a.oth l _ n e
def spCell (K : PySem.W.Frag) : Sp := fun vs H Q _ => ∃ (sa : Addr) (ss : List Int) (k : Int), vs = [.ref sa, .int k] ∧ SqL K H sa (ss.map V.int) ∧ 0 ≤ k ∧ ∀ c : Int, Q (.int c) H
def spPool (K : PySem.W.Frag) : Sp := fun vs H Q _ => ∃ (sa : Addr) (ss : List Int) (k : Int), vs = [.ref sa, .int k] ∧ SqL K H sa (ss.map V.int) ∧ 0 ≤ k ∧ k ≤ 100 ∧ ∀ (p : Addr) (n : Int) (H' : Hp), Same H H' → H p = none → H' p = some (.lst [.int n]) → Q (.ref p) H'
def spTake : Sp := fun vs H Q _ => ∃ (p : Addr) (n m : Int), vs = [.ref p, .int m] ∧ H p = some (.lst [.int n]) ∧ (0 < m ∧ bits m ≤ 8000) ∧ ∀ (r : Int) (H' : Hp), 0 ≤ r → r < m → Pl p H H' → Q (.int r) H'
def spLn : Sp := fun vs H Q _ => ∃ (p : Addr) (n m : Int), vs = [.ref p, .int m] ∧ H p = some (.lst [.int n]) ∧ (0 < m ∧ m ≤ 100) ∧ ∀ (l : Addr) (qs : List (Addr × Int × Int)) (H' : Hp), LineAt H' l qs → 1 ≤ qs.length → (qs.length : Int) ≤ m → H l = none → (∀ b o, b ≠ p → H b = some o → H' b = some o) → Q (.ref l) H'
def spPart (K : PySem.W.Frag) : Sp := fun vs H Q _ => ∃ (l : Addr) (xs : List V) (a b : Int), vs = [.ref l, .int a, .int b] ∧ H l = some (.lst xs) ∧ ∀ (p : Addr) (H' : Hp), Same H H' → H' p = some (.lst (cutV xs (some a) (some (b + 1)))) → H p = none → Q (.ref p) H'
def spCut : Sp := fun vs H Q _ => ∃ (l : Addr) (xs : List V) (a b : Int) (x y : V), vs = [.ref l, .int a, .int b] ∧ H l = some (.lst xs) ∧ atI xs a = some x ∧ atI xs b = some y ∧ ∀ (p : Addr) (H' : Hp), Same H H' → H' p = some (.lst [x, y]) → H p = none → Q (.ref p) H'
def spAlike : Sp := fun vs H Q _ => ∃ (l r : Addr) (qs : List (Addr × Int × Int)), vs = [.ref l, .ref r] ∧ LineAt H l qs ∧ LineAt H r qs ∧ ∀ H', Same H H' → Q (.bl true) H'
theorem S_part_of : FnScope ["line", "a", "b"] ["line", "a", "b"] (defScope (top 1)) := ⟨rfl, rfl, rfl, by decide +kernel, rfl, by decide +kernel, by decide +kernel⟩
theorem fn_part_of (D_part_of : Df K mg "part_of" (top 1)) : Fn P w K mg base "part_of" ["line", "a", "b"] 1 (spPart K) := by
  refine D_part_of.fn S_part_of (fun _ _ _ _ _ _ us hl => match us, hl with | [_, _, _], _ => rfl) (fun vs H Q E h => ?_) (fun f cdv A outer s H vs Q E hr h => ?_)
  · obtain ⟨l, xs, a, b, rfl, _⟩ := h
    rfl
  · obtain ⟨l, xs, a, b, rfl, el, k⟩ := h
    refine ⟨_, (pss_one (ps_ret (pe_slice sl_listA (pv 0) (po_some (pv 1)) (po_some (pe_op op_add (pv 2) pe_int))))), ?_⟩
    walk_at "rd"
    exact ⟨_, _, rfl, SqL.of el, fun p H2 s2 f2 n2 => k p H2 s2 f2 n2⟩
theorem S_short_cut : FnScope ["line", "a", "b"] ["line", "a", "b"] (defScope (top 2)) := ⟨rfl, rfl, rfl, by decide +kernel, rfl, by decide +kernel, by decide +kernel⟩
theorem fn_short_cut (D_short_cut : Df K mg "short_cut" (top 2)) : Fn P w K mg base "short_cut" ["line", "a", "b"] 1 spCut := by
  refine D_short_cut.fn S_short_cut (fun _ _ _ _ _ _ us hl => match us, hl with | [_, _, _], _ => rfl) (fun vs H Q E h => ?_) (fun f cdv A outer s H vs Q E hr h => ?_)
  · obtain ⟨l, xs, a, b, x, y, rfl, _⟩ := h
    rfl
  · obtain ⟨l, xs, a, b, x, y, rfl, el, ha, hb, k⟩ := h
    refine ⟨_, (pss_one (ps_ret (pe_lstA (pa_cons (pe_ix ix_list (pv 0) (pv 1) (fun _ _ => rfl)) (pa_cons (pe_ix ix_list (pv 0) (pv 2) (fun _ _ => rfl)) pa_nil))))), ?_⟩
    refine ⟨_, rfl, _, rfl, l, _, _, _, rfl, rfl, SqL.of el, ha, _, rfl, _, rfl, l, _, _, _, rfl, rfl, SqL.of el, hb, ?_⟩
    exact ⟨sz (by simp), fun p H2 s2 f2 n2 => k p H2 s2 f2 n2⟩
theorem S_law_cell_at : FnScope ["script", "k"] ["script", "k"] (defScope (top 4)) := ⟨rfl, rfl, rfl, by decide +kernel, rfl, by decide +kernel, by decide +kernel⟩
theorem fn_law_cell_at (D_law_cell_at : Df K mg "_law_cell_at" (top 4)) (T : Txt mg) : Fn P w K mg base "_law_cell_at" ["script", "k"] 1 (spCell K) := by
  refine D_law_cell_at.fn S_law_cell_at (fun _ _ _ _ _ _ us hl => match us, hl with | [_, _], _ => rfl) (fun vs H Q E h => ?_) (fun f cdv A outer s H vs Q E hr h => ?_)
  · obtain ⟨sa, ss, k, rfl, _⟩ := h
    rfl
  · obtain ⟨sa, ss, k, rfl, hS, hk, q⟩ := h
    refine ⟨_, (pss_cons (ps_if (pt_cmpR op_lt (pv 1) (pe_callB call_len_seq (by rfl) T.z_len bt_len (pa_cons (pv 0) pa_nil)) (nomark _)) (pss_one (ps_ret (pe_ix ix_list (pv 0) (pv 1) (fun _ _ => rfl)))) pss_nil) (pss_one (ps_ret pe_int))), ?_⟩
    refine ⟨_, rfl, _, rfl, sa, _, rfl, .inl hS, _, _, rfl, rfl, _, rfl, ite3 (fun h1 => ?_) (fun h1 => ?_)⟩
    · have h1 : k < (((ss.map V.int).length : Nat) : Int) := dec_t h1
      rw [List.length_map] at h1
      exact ⟨_, rfl, _, rfl, sa, _, _, _, rfl, rfl, hS, at_int k.toNat (by omega) (by omega), q _⟩
    · exact q _
theorem S_law_pool : FnScope ["script", "at", "cell", "big", "turn", "one"] ["script", "at"] (defScope (top 5)) := ⟨rfl, rfl, rfl, by decide +kernel, rfl, by decide +kernel, by decide +kernel⟩
theorem fn_law_pool (D_law_pool : Df K mg "_law_pool" (top 5)) (F_law_cell_at : Fn P w K mg base "_law_cell_at" ["script", "k"] 1 (spCell K)) (T : Txt mg) : Fn P w K mg base "_law_pool" ["script", "at"] 2 (spPool K) := by
  refine D_law_pool.fn S_law_pool (fun _ _ _ _ _ _ us hl => match us, hl with | [_, _], _ => rfl) (fun vs H Q E h => ?_) (fun f cdv A outer s H vs Q E hr h => ?_)
  · obtain ⟨sa, ss, k, rfl, _⟩ := h
    rfl
  · obtain ⟨sa, ss, k, rfl, hS, hk, hk2, q⟩ := h
    refine ⟨_, (pss_cons (ps_set (i := 2) S_law_pool.nd rfl (Or.inl rfl) (pe_fn F_law_cell_at (hr.mono (by decide)) (by rfl) (pa_cons (pv 0) (pa_cons (pv 1) pa_nil)))) (pss_cons (ps_if (pt_cmpR op_ge (pv 2) (pe_op op_pow pe_int pe_int) (nomark _)) (pss_one (ps_ret (pe_lstA (pa_cons (pv 2) pa_nil)))) pss_nil) (pss_cons (ps_set (i := 3) S_law_pool.nd rfl (Or.inl rfl) pe_int) (pss_cons (ps_for PassesOwn.never rfl (pi_range1 rfl T.z_range (pa_cons pe_int pa_nil)) (pg_name (i := 4) S_law_pool.nd rfl (Or.inl rfl)) (pss_cons (ps_set (i := 5) S_law_pool.nd rfl (Or.inl rfl) (pe_op op_mod (pe_op op_mulX (pe_op op_add (pe_op op_add (pe_op op_add (pe_op op_mod (pv 2) pe_int) (pe_op op_mulX (pe_op op_mulX pe_int (pv 4)) (pv 4))) (pe_op op_mulX pe_int (pv 1))) pe_int) pe_int) pe_int)) (pss_cons (ps_set (i := 5) S_law_pool.nd rfl (Or.inl rfl) (pe_op op_mod (pe_op op_mulX (pv 5) (pv 5)) pe_int)) (pss_cons (ps_set (i := 5) S_law_pool.nd rfl (Or.inl rfl) (pe_op op_mod (pe_op op_mulX (pe_op op_add (pv 5) (pe_op op_mulX pe_int (pv 4))) pe_int) pe_int)) (pss_one (ps_set (i := 3) S_law_pool.nd rfl (Or.inl rfl) (pe_op op_add (pe_op op_mulX (pv 3) pe_int) (pe_op op_mod (pe_op op_fdivP (pv 5) pe_int) pe_int)))))))) (pss_one (ps_ret (pe_lstA (pa_cons (pv 3) pa_nil)))))))), ?_⟩
    refine ⟨_, rfl, _, rfl, sa, ss, k, rfl, hS, hk, fun c => ?_⟩
    refine ⟨_, rfl, _, _, rfl, rfl, ⟨by decide, by decide, by decide⟩, _, _, rfl, rfl, _, rfl, ite3 (fun h1 => ?_) (fun h1 => ?_)⟩
    · exact ⟨_, rfl, sz (by simp), fun p H2 s2 f2 n2 => q p c H2 s2 n2 f2⟩
    refine ⟨24, rfl, by decide, by decide, for_range (n := 24) (lo := 0) (fun _ σ H1 => ∃ (b : Int) (z1 z2 : Option V), σ = [some (.ref sa), some (.int k), some (.int c), some (.int b), z1, z2] ∧ H1 = H) ⟨_, _, _, rfl, rfl⟩ ?_ ?_⟩
    · rintro i σ H1 hi ⟨b, z1, z2, rfl, rfl⟩
      have g0 := Int.emod_nonneg c (show (998244353 : Int) ≠ 0 by decide)
      have e64 : (2 : Int) ^ 64 = 18446744073709551616 := by decide
      have r1 : ∀ n : Int, 0 ≤ n % 2147483647 ∧ n % 2147483647 < 2147483647 := fun n => ⟨Int.emod_nonneg _ (by decide), Int.emod_lt_of_pos _ (by decide)⟩
      refine ⟨_, rfl, _, _, rfl, rfl, (by show (0 : Int) < 998244353; decide), _, rfl, _, _, rfl, rfl, CM.l ⟨by decide, by decide⟩, _, rfl, _, _, rfl, rfl, CM.l (by rw [e64]; omega), _, _, rfl, rfl, _, rfl, _, _, rfl, rfl, CM.l ⟨by decide, by decide⟩, _, _, rfl, rfl, _, _, rfl, rfl, _, _, rfl, rfl, CM.r ⟨by decide, by decide⟩, _, _, rfl, rfl, (by show (0 : Int) < 2147483647; decide), ?_⟩
      refine ⟨_, rfl, _, rfl, _, _, rfl, rfl, CM.l (by rw [e64]; have := r1 ((c % 998244353 + 89 * (0 + (i : Int)) * (0 + (i : Int)) + 7 * k + 1) * 48271); omega), _, _, rfl, rfl, (by show (0 : Int) < 1000000007; decide), ?_⟩
      walk_at "rd"
      exact ⟨_, _, _, rfl, rfl⟩
    · rintro σ H1 ⟨b, z1, z2, rfl, rfl⟩
      exact ⟨_, rfl, sz (by simp), fun p H2 s2 f2 n2 => q p b H2 s2 n2 f2⟩
theorem S_law_take : FnScope ["pool", "many", "number"] ["pool", "many"] (defScope (top 6)) := ⟨rfl, rfl, rfl, by decide +kernel, rfl, by decide +kernel, by decide +kernel⟩
theorem fn_law_take (D_law_take : Df K mg "_law_take" (top 6)) : Fn P w K mg base "_law_take" ["pool", "many"] 1 spTake := by
  refine D_law_take.fn S_law_take (fun _ _ _ _ _ _ us hl => match us, hl with | [_, _], _ => rfl) (fun vs H Q E h => ?_) (fun f cdv A outer s H vs Q E hr h => ?_)
  · obtain ⟨p, n, m, rfl, _⟩ := h
    rfl
  · obtain ⟨p, n, m, rfl, ep, ⟨hm, bm⟩, q⟩ := h
    refine ⟨_, (pss_cons (ps_set (i := 2) S_law_take.nd rfl (Or.inl rfl) (pe_op op_mod (pe_ix ix_list (pv 0) pe_int (fun _ _ => rfl)) (pv 1))) (pss_cons (ps_asg (pe_op op_fdivP (pe_ix ix_list (pv 0) pe_int (fun _ _ => rfl)) (pv 1)) (pg_sub (pv 0) pe_int set_listA)) (pss_one (ps_ret (pv 2))))), ?_⟩
    refine ⟨_, rfl, p, _, _, _, rfl, rfl, SqL.of ep, rfl, _, rfl, _, _, rfl, rfl, hm, ?_⟩
    refine ⟨_, rfl, p, _, _, _, rfl, rfl, SqL.of ep, rfl, _, rfl, _, _, rfl, rfl, ⟨hm, bm⟩, _, rfl, p, _, _, 0, rfl, rfl, ep, rfl, fun H2 u => ?_⟩
    exact ⟨_, rfl, q _ _ (Int.emod_nonneg _ (by omega)) (Int.emod_lt_of_pos _ hm) ⟨fun b o nb e => u.at nb e, ⟨n, ep⟩, ⟨_, u.now⟩⟩⟩
theorem S_law_line : FnScope ["pool", "most", "many", "sort", "along", "corners", "k", "steps"] ["pool", "most"] (defScope (top 7)) := ⟨rfl, rfl, rfl, by decide +kernel, rfl, by decide +kernel, by decide +kernel⟩
theorem fn_law_line (D_law_line : Df K mg "_law_line" (top 7)) (F_law_take : Fn P w K mg base "_law_take" ["pool", "many"] 1 spTake) (T : Txt mg) : Fn P w K mg base "_law_line" ["pool", "most"] 2 spLn := by
  refine D_law_line.fn S_law_line (fun _ _ _ _ _ _ us hl => match us, hl with | [_, _], _ => rfl) (fun vs H Q E h => ?_) (fun f cdv A outer s H vs Q E hr h => ?_)
  · obtain ⟨p, n, m, rfl, _⟩ := h
    rfl
  · obtain ⟨p, n, m, rfl, ep, ⟨hm0, hm1⟩, k⟩ := h
    refine ⟨_, (pss_cons (ps_set (i := 2) S_law_line.nd rfl (Or.inl rfl) (pe_op op_add pe_int (pe_fn F_law_take (hr.mono (by decide)) (by rfl) (pa_cons (pv 0) (pa_cons (pv 1) pa_nil))))) (pss_cons (ps_set (i := 3) S_law_line.nd rfl (Or.inl rfl) (pe_fn F_law_take (hr.mono (by decide)) (by rfl) (pa_cons (pv 0) (pa_cons pe_int pa_nil)))) (pss_cons (ps_set (i := 4) S_law_line.nd rfl (Or.inl rfl) (pe_tupA (pa_cons (pe_op op_sub (pe_fn F_law_take (hr.mono (by decide)) (by rfl) (pa_cons (pv 0) (pa_cons pe_int pa_nil))) pe_int) (pa_cons (pe_op op_sub (pe_fn F_law_take (hr.mono (by decide)) (by rfl) (pa_cons (pv 0) (pa_cons pe_int pa_nil))) pe_int) pa_nil)))) (pss_cons (ps_set (i := 5) S_law_line.nd rfl (Or.inl rfl) (pe_lstA pa_nil)) (pss_cons (ps_for PassesOwn.never rfl (pi_range1 rfl T.z_range (pa_cons (pv 2) pa_nil)) (pg_name (i := 6) S_law_line.nd rfl (Or.inl rfl)) (pss_one (ps_if (pt_cmpR op_eq (pv 3) pe_int (nomark _)) (pss_cons (ps_set (i := 7) S_law_line.nd rfl (Or.inl rfl) (pe_op op_sub (pe_fn F_law_take (hr.mono (by decide)) (by rfl) (pa_cons (pv 0) (pa_cons pe_int pa_nil))) pe_int)) (pss_one (ps_expr (pe_bm PySem.F.plainAttrs_list PySem.F.slot_list_append PySem.F.type_list_append mt_appendA (pv 5) (pa_cons (pe_tupA (pa_cons (pe_op op_mulX (pv 7) (pe_ix ix_tup (pv 4) pe_int (fun _ _ => rfl))) (pa_cons (pe_op op_mulX (pv 7) (pe_ix ix_tup (pv 4) pe_int (fun _ _ => rfl))) pa_nil))) pa_nil))))) (pss_one (ps_if (pt_cmpR op_eq (pv 3) pe_int (nomark _)) (pss_one (ps_expr (pe_bm PySem.F.plainAttrs_list PySem.F.slot_list_append PySem.F.type_list_append mt_appendA (pv 5) (pa_cons (pe_tupA (pa_cons (pe_op op_add (pe_op op_sub (pe_fn F_law_take (hr.mono (by decide)) (by rfl) (pa_cons (pv 0) (pa_cons (pe_op op_sub (pe_op op_mulX pe_int (pe_op op_pow pe_int pe_int)) pe_int) pa_nil))) (pe_op op_pow pe_int pe_int)) pe_int) (pa_cons (pe_op op_add (pe_op op_sub (pe_fn F_law_take (hr.mono (by decide)) (by rfl) (pa_cons (pv 0) (pa_cons (pe_op op_sub (pe_op op_mulX pe_int (pe_op op_pow pe_int pe_int)) pe_int) pa_nil))) (pe_op op_pow pe_int pe_int)) pe_int) pa_nil))) pa_nil)))) (pss_one (ps_expr (pe_bm PySem.F.plainAttrs_list PySem.F.slot_list_append PySem.F.type_list_append mt_appendA (pv 5) (pa_cons (pe_tupA (pa_cons (pe_op op_sub (pe_fn F_law_take (hr.mono (by decide)) (by rfl) (pa_cons (pv 0) (pa_cons pe_int pa_nil))) (pe_ix ix_tup (pv 4) pe_int (fun _ _ => rfl))) (pa_cons (pe_op op_sub (pe_fn F_law_take (hr.mono (by decide)) (by rfl) (pa_cons (pv 0) (pa_cons pe_int pa_nil))) (pe_ix ix_tup (pv 4) pe_int (fun _ _ => rfl))) pa_nil))) pa_nil))))))))) (pss_one (ps_ret (pv 5)))))))), ?_⟩
    have bsm : ∀ {z : Int}, -1000 ≤ z → z ≤ 1000 → bits z ≤ 10 := fun a b => bits_small a b
    refine ⟨_, rfl, _, rfl, p, _, _, rfl, ep, ⟨hm0, bits_le (bsm (by omega) (by omega)) (by decide)⟩, fun r1 H1 a1 b1 P1 => ⟨_, _, rfl, rfl, ?_⟩⟩
    obtain ⟨n1, e1⟩ := P1.now
    refine ⟨_, rfl, p, _, _, rfl, e1, ⟨by decide, by decide⟩, fun r2 H2 a2 b2 P2 => ?_⟩
    obtain ⟨n2, e2⟩ := P2.now
    refine ⟨_, rfl, p, _, _, rfl, e2, ⟨by decide, by decide⟩, fun r3 H3 a3 b3 P3 => ⟨_, _, rfl, rfl, ?_⟩⟩
    obtain ⟨n3, e3⟩ := P3.now
    refine ⟨_, rfl, p, _, _, rfl, e3, ⟨by decide, by decide⟩, fun r4 H4 a4 b4 P4 => ⟨_, _, rfl, rfl, ?_⟩⟩
    obtain ⟨n4, e4⟩ := P4.now
    have Q4 : Pl p H H4 := P1.trans (P2.trans (P3.trans P4))
    refine ⟨sz (by simp), fun pa H5 s5 f5 _ => ?_⟩
    refine ⟨sz (by simp), fun l H6 s6 f6 n6 => ?_⟩
    have Q6 : Pl p H H6 := (Q4.grow s5).grow s6
    have npl : l ≠ p := fun z => by
      have e5 := s5 _ _ e4
      subst z
      rw [n6] at e5
      cases e5
    have h6 : H l = none := by
      cases e : H l with
      | none => rfl
      | some o =>
        have z := (Q4.grow s5).oth l o npl e
        rw [n6] at z
        cases z
    refine ⟨_, rfl, _, rfl, by omega, by omega, ?_⟩
    refine for_range (n := (1 + r1).toNat) (lo := 0) (fun i σ H7 => ∃ (z1 z2 : Option V) (qs : List (Addr × Int × Int)), σ = [some (.ref p), some (.int m), some (.int (1 + r1)), some (.int r2), some (.ref pa), some (.ref l), z1, z2] ∧ qs.length = i ∧ LineAt H7 l qs ∧ Pl p H H7 ∧ H7 pa = some (.tup [.int (r3 - 2), .int (r4 - 2)])) ⟨_, _, [], rfl, rfl, ⟨f6, fun q h => nomatch h⟩, Q6, s6 _ _ f5⟩ ?_ ?_
    · rintro i σ H7 hi ⟨z1, z2, qs, rfl, hl, L7, P7, f7⟩
      obtain ⟨n7, e7⟩ := P7.now
      have add : ∀ (x y : Int) (pt : Addr) (H8 H9 : Hp) (z1 z2 : Option V), bits x ≤ 50 → bits y ≤ 50 → Pl p H7 H8 → H8 pt = some (.tup [.int x, .int y]) → Upd H8 H9 l (qs.map fun q => V.ref q.1) ((qs.map fun q => V.ref q.1) ++ [.ref pt]) →
          ∃ (z1' z2' : Option V) (qs' : List (Addr × Int × Int)), [some (V.ref p), some (.int m), some (.int (1 + r1)), some (.int r2), some (.ref pa), some (.ref l), z1, z2] = [some (.ref p), some (.int m), some (.int (1 + r1)), some (.int r2), some (.ref pa), some (.ref l), z1', z2'] ∧ qs'.length = i + 1 ∧ LineAt H9 l qs' ∧ Pl p H H9 ∧ H9 pa = some (.tup [.int (r3 - 2), .int (r4 - 2)]) := by
        intro x y pt H8 H9 z1 z2 bx by_ P8 f8 u
        refine ⟨_, _, qs ++ [(pt, x, y)], rfl, by simp [hl], ⟨by rw [u.now]; simp, fun q hq => ?_⟩, ⟨fun b o nb e => ?_, P7.was, ?_⟩, u.t _ _ (P8.t _ _ f7)⟩
        · rcases List.mem_append.mp hq with hq | hq
          · exact ⟨u.t _ _ (P8.t _ _ (L7.crn q hq).1), (L7.crn q hq).2⟩
          · rw [List.mem_singleton.mp hq]
            exact ⟨u.t _ _ f8, bx, by_⟩
        · exact u.at (fun z => by subst z; rw [h6] at e; cases e) (P8.oth b o nb (P7.oth b o nb e))
        · obtain ⟨n8, e8⟩ := P8.now
          exact ⟨n8, u.at (Ne.symm npl) e8⟩
      have L8 : ∀ {H8 : Hp}, Pl p H7 H8 → H8 l = some (.lst (qs.map fun q => V.ref q.1)) := fun P8 => P8.lst npl L7.lst
      have len : ∀ {α : Type}, (qs.map fun (q : Addr × Int × Int) => V.ref q.1).length < sizeLine := fun {_} => small1000 (by rw [List.length_map]; omega)
      have b10 : ∀ {z : Int}, -1000 ≤ z → z ≤ 1000 → bits z ≤ 50 := fun a b => bits_le (bsm a b) (by decide)
      have g3 : bits (r3 - 2) ≤ 10 := bsm (by omega) (by omega)
      have g4 : bits (r4 - 2) ≤ 10 := bsm (by omega) (by omega)
      refine ⟨_, rfl, rfl, _, rfl, ite3 (fun h1 => ?_) (fun h1 => ?_)⟩
      · refine ⟨_, rfl, p, _, _, rfl, e7, ⟨by decide, by decide⟩, fun r5 H8 a5 b5 P8 => ⟨_, _, rfl, rfl, ?_⟩⟩
        have f8 := P8.t _ _ f7
        have g5 : bits (r5 - 4) ≤ 10 := bsm (by omega) (by omega)
        refine ⟨_, rfl, .inl ⟨rfl, _, SqL.of (L8 P8)⟩, ?_⟩
        walk_at "rd"
        rename_i pt H9 s9 f9 _
        exact ⟨l, _, _, rfl, rfl, s9 _ _ (L8 P8), len (α := Unit), fun H10 u => add _ _ pt H9 H10 _ _ (by walk_at "bl") (by walk_at "bl") (P8.grow s9) f9 u⟩
      · refine ⟨_, rfl, rfl, _, rfl, ite3 (fun h2 => ?_) (fun h2 => ?_)⟩
        · have eb : (2 * (10 : Int) ^ (12 : Int).toNat - 1) = 1999999999999 := by decide +kernel
          have e12 : (10 : Int) ^ (12 : Int).toNat = 1000000000000 := by decide +kernel
          have bb : bits (2 * (10 : Int) ^ (12 : Int).toNat - 1) ≤ 8000 := by rw [eb]; decide +kernel
          have sm : ∀ {z : Int}, 0 ≤ z → z < 2 * (10 : Int) ^ (12 : Int).toNat - 1 → bits (z - (10 : Int) ^ (12 : Int).toNat + 1) ≤ 50 := fun {z} a b => by
            rw [eb] at b
            rw [e12]
            refine bits_of (n := 50) ?_
            have : (2 : Nat) ^ 50 = 1125899906842624 := by decide
            omega
          refine ⟨_, rfl, .inl ⟨rfl, _, SqL.of L7.lst⟩, ?_⟩
          refine ⟨_, rfl, _, _, rfl, rfl, ⟨by decide, by decide, by decide⟩, _, _, rfl, rfl, CM.l ⟨by decide, by decide⟩, _, _, rfl, rfl, p, _, _, rfl, e7, ⟨by rw [eb]; decide, bb⟩, fun r5 H8 a5 b5 P8 => ?_⟩
          obtain ⟨n8, e8⟩ := P8.now
          refine ⟨_, _, rfl, rfl, ⟨by decide, by decide, by decide⟩, _, _, rfl, rfl, _, _, rfl, rfl, ?_⟩
          refine ⟨_, rfl, _, _, rfl, rfl, ⟨by decide, by decide, by decide⟩, _, _, rfl, rfl, CM.l ⟨by decide, by decide⟩, _, _, rfl, rfl, p, _, _, rfl, e8, ⟨by rw [eb]; decide, bb⟩, fun r6 H9 a6 b6 P9 => ?_⟩
          refine ⟨_, _, rfl, rfl, ⟨by decide, by decide, by decide⟩, _, _, rfl, rfl, _, _, rfl, rfl, sz (by simp), fun pt H10 s10 f10 _ => ?_⟩
          have P10 : Pl p H7 H10 := (P8.trans P9).grow s10
          exact ⟨l, _, _, rfl, rfl, L8 P10, len (α := Unit), fun H11 u => add _ _ pt H10 H11 _ _ (sm a5 b5) (sm a6 b6) P10 f10 u⟩
        · refine ⟨_, rfl, .inl ⟨rfl, _, SqL.of L7.lst⟩, ?_⟩
          refine ⟨_, rfl, p, _, _, rfl, e7, ⟨by decide, by decide⟩, fun r5 H8 a5 b5 P8 => ?_⟩
          obtain ⟨n8, e8⟩ := P8.now
          have f8 := P8.t _ _ f7
          refine ⟨_, rfl, pa, _, _, _, rfl, rfl, SqT.of f8, rfl, _, _, rfl, rfl, ?_⟩
          refine ⟨_, rfl, p, _, _, rfl, e8, ⟨by decide, by decide⟩, fun r6 H9 a6 b6 P9 => ?_⟩
          refine ⟨_, rfl, pa, _, _, _, rfl, rfl, SqT.of (P9.t _ _ f8), rfl, _, _, rfl, rfl, sz (by simp), fun pt H10 s10 f10 _ => ?_⟩
          have P10 : Pl p H7 H10 := (P8.trans P9).grow s10
          exact ⟨l, _, _, rfl, rfl, L8 P10, len (α := Unit), fun H11 u => add _ _ pt H10 H11 _ _ (b10 (by omega) (by omega)) (b10 (by omega) (by omega)) P10 f10 u⟩
    · rintro σ H7 ⟨z1, z2, qs, rfl, hl, L7, P7, f7⟩
      exact ⟨_, rfl, k l qs H7 L7 (by omega) (by omega) h6 P7.oth⟩

theorem cut_map {α : Type} (f : α → V) (qs : List α) (lo hi : Option Int) : ∃ rs : List α, cutV (qs.map f) lo hi = rs.map f ∧ ∀ r ∈ rs, r ∈ qs := by
  unfold cutV
  rw [← List.map_drop, ← List.map_take]
  exact ⟨_, rfl, fun r h => List.mem_of_mem_drop (List.mem_of_mem_take h)⟩
theorem line_rp {H : Hp} {l : Addr} {qs : List (Addr × Int × Int)} (L : LineAt H l qs) : Rp H 9 (.ref l) (.lst (qs.map fun q => .tup [.int q.2.1, .int q.2.2])) := .lst L.lst (by simp) fun j x d a b => by
  rw [List.getElem?_map] at a b
  obtain ⟨q, hq, rfl⟩ := Option.map_eq_some_iff.mp a
  rw [hq] at b
  cases b
  exact Rp.t2 (L.crn q (List.mem_of_getElem? hq)).1 .int .int
theorem at_line {qs : List (Addr × Int × Int)} {k : Int} (h0 : 0 ≤ k) (h1 : k < (qs.length : Int)) : ∃ q ∈ qs, atI (qs.map fun (q : Addr × Int × Int) => V.ref q.1) k = some (.ref q.1) := by
  obtain ⟨v, hv, mv⟩ := atI_mem (xs := qs.map fun (q : Addr × Int × Int) => V.ref q.1) h0 (by rw [List.length_map]; exact h1)
  obtain ⟨q, hq, rfl⟩ := List.mem_map.mp mv
  exact ⟨q, hq, hv⟩
theorem S_law_alike : FnScope ["found", "due", "corner", "wanted"] ["found", "due"] (defScope (top 8)) := ⟨rfl, rfl, rfl, by decide +kernel, rfl, by decide +kernel, by decide +kernel⟩
theorem fn_law_alike (D_law_alike : Df K mg "_law_alike" (top 8)) (T : Txt mg) : Fn P w K mg base "_law_alike" ["found", "due"] 1 spAlike := by
  refine D_law_alike.fn S_law_alike (fun _ _ _ _ _ _ us hl => match us, hl with | [_, _], _ => rfl) (fun vs H Q E h => ?_) (fun f cdv A outer s H vs Q E hr h => ?_)
  · obtain ⟨l, r, qs, rfl, _⟩ := h
    rfl
  · obtain ⟨l, r, qs, rfl, L, R, k⟩ := h
    refine ⟨_, (pss_cons (ps_if (pw_or (pt_not (pt_val (pe_callB call_isinst (by rfl) T.z_isinstance bt_isinstance (pa_cons (pv 0) (pa_cons (pe_ty T.z_list bt_list) pa_nil))))) (pw_or1 (pt_cmpR op_ne (pe_callB call_len_seq (by rfl) T.z_len bt_len (pa_cons (pv 0) pa_nil)) (pe_callB call_len_seq (by rfl) T.z_len bt_len (pa_cons (pv 1) pa_nil)) (nomark _)))).pt (pss_one (ps_ret pe_bl)) pss_nil) (pss_cons (ps_for PassesOwn.never rfl (pi_zip rfl T.z_zip (pa_cons (pv 0) (pa_cons (pv 1) pa_nil))) (pg_tup rfl (pgs_cons (pg_name (i := 2) S_law_alike.nd rfl (Or.inl rfl)) (pgs_cons (pg_name (i := 3) S_law_alike.nd rfl (Or.inl rfl)) pgs_nil))) (pss_cons (ps_if (pw_or (pt_not (pt_val (pe_callB call_isinst (by rfl) T.z_isinstance bt_isinstance (pa_cons (pv 2) (pa_cons (pe_ty T.z_tuple bt_tuple) pa_nil))))) (pw_or1 (pt_cmpR (op_neD hr.units10) (pv 2) (pv 3) (nomark _)))).pt (pss_one (ps_ret pe_bl)) pss_nil) (pss_one (ps_if (pw_or (pt_val (pe_callB call_isinst (by rfl) T.z_isinstance bt_isinstance (pa_cons (pe_ix ix_tup (pv 2) pe_int (fun _ _ => rfl)) (pa_cons (pe_ty T.z_bool bt_bool) pa_nil)))) (pw_or1 (pt_val (pe_callB call_isinst (by rfl) T.z_isinstance bt_isinstance (pa_cons (pe_ix ix_tup (pv 2) pe_int (fun _ _ => rfl)) (pa_cons (pe_ty T.z_bool bt_bool) pa_nil)))))).pt (pss_one (ps_ret pe_bl)) pss_nil)))) (pss_one (ps_ret pe_bl)))), ?_⟩
    have hll : (qs.map fun (q : Addr × Int × Int) => V.ref q.1).length = qs.length := List.length_map _
    refine ⟨_, rfl, _, "list", "list", rfl, .lst L.lst, nice_list, true, rfl, iteF ?_⟩
    refine ⟨_, rfl, l, _, rfl, .inl (SqL.of L.lst), _, rfl, r, _, rfl, .inl (SqL.of R.lst), rfl, _, rfl, iteFalse (by simp) ?_⟩
    refine ⟨_, rfl, _, rfl, l, r, rfl, ⟨_, SqL.of L.lst⟩, ⟨_, SqL.of R.lst⟩, for_zip (K := K) (xs := qs.map fun q => V.ref q.1) (ys := qs.map fun q => V.ref q.1) (fun _ σ H2 => ∃ z1 z2, σ = [some (.ref l), some (.ref r), z1, z2] ∧ Same H H2) ⟨_, _, rfl, Same.refl _⟩ (fun i σ H2 _ ⟨_, _, _, s2⟩ => ⟨SqL.of (s2 _ _ L.lst), SqL.of (s2 _ _ R.lst)⟩) ?_ ?_⟩
    · rintro i x y p σ H2 H3 hx hy ⟨z1, z2, rfl, s2⟩ s3 f3
      rw [hx] at hy
      cases hy
      rw [List.getElem?_map] at hx
      obtain ⟨q, hq, rfl⟩ := Option.map_eq_some_iff.mp hx
      have c := (s2.trans s3) _ _ (L.crn q (List.mem_of_getElem? hq)).1
      refine ⟨p, _, rfl, SqT.of f3, rfl, _, _, rfl, _, _, rfl, rfl, ?_⟩
      refine ⟨_, rfl, _, "tuple", "tuple", rfl, .tup c, nice_tuple, true, rfl, iteF ?_⟩
      refine ⟨_, rfl, _, rfl, .tup [.int q.2.1, .int q.2.2], .tup [.int q.2.1, .int q.2.2], Rp.t2 c .int .int, Rp.t2 c .int .int, _, rfl, iteFalse (by rw [deq_self]; rfl) ?_⟩
      refine ⟨_, rfl, q.1, _, _, _, rfl, rfl, SqT.of c, rfl, _, "int", "bool", rfl, .int _, nice_bool, false, rfl, iteF ?_⟩
      refine ⟨_, rfl, q.1, _, _, _, rfl, rfl, SqT.of c, rfl, _, "int", "bool", rfl, .int _, nice_bool, false, rfl, iteF ?_⟩
      exact ⟨_, _, rfl, s2.trans s3⟩
    · rintro σ H2 ⟨z1, z2, rfl, s2⟩
      exact k H2 s2
theorem S_law : FnScope ["script", "line", "handed", "at", "pool", "b", "a", "turn", "part", "cut"] ["script"] (defScope (top 9)) := ⟨rfl, rfl, rfl, by decide +kernel, rfl, by decide +kernel, by decide +kernel⟩
theorem fn_law (D_law : Df K mg "law" (top 9)) (F_law_pool : Fn P w K mg base "_law_pool" ["script", "at"] 2 (spPool K)) (F_law_line : Fn P w K mg base "_law_line" ["pool", "most"] 2 spLn) (F_law_take : Fn P w K mg base "_law_take" ["pool", "many"] 1 spTake) (F_part_of : Fn P w K mg base "part_of" ["line", "a", "b"] 1 (spPart K)) (F_short_cut : Fn P w K mg base "short_cut" ["line", "a", "b"] 1 spCut) (F_law_alike : Fn P w K mg base "_law_alike" ["found", "due"] 1 spAlike) (T : Txt mg) : Fn P w K mg base "law" ["script"] 8 (spLaw K) := by
  refine D_law.fn S_law (fun _ _ _ _ _ _ us hl => match us, hl with | [_], _ => rfl) (fun vs H Q E h => ?_) (fun f cdv A outer s H vs Q E hr h => ?_)
  · obtain ⟨sa, ss, rfl, _⟩ := h
    rfl
  · obtain ⟨sa, ss, rfl, hS, hlen, fin⟩ := h
    refine ⟨_, (pss_cons (ps_set (i := 1) S_law.nd rfl (Or.inl rfl) (pe_fn F_law_line (hr.mono (by decide)) (by rfl) (pa_cons (pe_fn F_law_pool (hr.mono (by decide)) (by rfl) (pa_cons (pv 0) (pa_cons pe_int pa_nil))) (pa_cons pe_int pa_nil)))) (pss_cons (ps_set (i := 2) S_law.nd rfl (Or.inl rfl) (pe_callTy call_list_ofA (by rfl) T.z_list bt_list (pa_cons (pv 1) pa_nil))) (pss_cons (ps_for PassesOwn.never rfl (pi_range2 rfl T.z_range (pa_cons pe_int (pa_cons (pe_callB (call_max2 rfl) (by rfl) T.z_max bt_max (pa_cons pe_int (pa_cons (pe_callB (call_min2 rfl) (by rfl) T.z_min bt_min (pa_cons pe_int (pa_cons (pe_callB call_len_seq (by rfl) T.z_len bt_len (pa_cons (pv 0) pa_nil)) pa_nil))) pa_nil))) pa_nil))) (pg_name (i := 3) S_law.nd rfl (Or.inl rfl)) (pss_cons (ps_set (i := 4) S_law.nd rfl (Or.inl rfl) (pe_fn F_law_pool (hr.mono (by decide)) (by rfl) (pa_cons (pv 0) (pa_cons (pv 3) pa_nil)))) (pss_cons (ps_set (i := 5) S_law.nd rfl (Or.inl rfl) (pe_fn F_law_take (hr.mono (by decide)) (by rfl) (pa_cons (pv 4) (pa_cons (pe_callB call_len_seq (by rfl) T.z_len bt_len (pa_cons (pv 1) pa_nil)) pa_nil)))) (pss_cons (ps_set (i := 6) S_law.nd rfl (Or.inl rfl) (pe_fn F_law_take (hr.mono (by decide)) (by rfl) (pa_cons (pv 4) (pa_cons (pe_op op_add (pv 5) pe_int) pa_nil)))) (pss_one (ps_for PassesOwn.never rfl (pi_range1 rfl T.z_range (pa_cons pe_int pa_nil)) (pg_name (i := 7) S_law.nd rfl (Or.inl rfl)) (pss_cons (ps_set (i := 8) S_law.nd rfl (Or.inl rfl) (pe_fn F_part_of (hr.mono (by decide)) (by rfl) (pa_cons (pv 2) (pa_cons (pv 6) (pa_cons (pv 5) pa_nil))))) (pss_cons (ps_set (i := 9) S_law.nd rfl (Or.inl rfl) (pe_fn F_short_cut (hr.mono (by decide)) (by rfl) (pa_cons (pv 2) (pa_cons (pv 6) (pa_cons (pv 5) pa_nil))))) (pss_cons (ps_if (pw_or (pt_not (pt_val (pe_fn F_law_alike (hr.mono (by decide)) (by rfl) (pa_cons (pv 8) (pa_cons (pe_slice sl_listA (pv 1) (po_some (pv 6)) (po_some (pe_op op_add (pv 5) pe_int))) pa_nil))))) (pw_or (pt_not (pt_val (pe_fn F_law_alike (hr.mono (by decide)) (by rfl) (pa_cons (pv 9) (pa_cons (pe_lstA (pa_cons (pe_ix ix_list (pv 1) (pv 6) (fun _ _ => rfl)) (pa_cons (pe_ix ix_list (pv 1) (pv 5) (fun _ _ => rfl)) pa_nil))) pa_nil))))) (pw_or1 (pt_cmpR (op_neD hr.units10) (pv 2) (pv 1) (nomark _))))).pt (pss_one (ps_ret pe_bl)) pss_nil) (pss_cons (ps_expr (pe_bm0 PySem.F.plainAttrs_list PySem.F.slot_list_reverse PySem.F.type_list_reverse mt_reverseA (pv 8))) (pss_cons (ps_expr (pe_bm PySem.F.plainAttrs_list PySem.F.slot_list_append PySem.F.type_list_append mt_appendA (pv 8) (pa_cons (pe_tupA (pa_cons pe_int (pa_cons pe_int pa_nil))) pa_nil))) (pss_one (ps_asg (pe_tupA (pa_cons pe_int (pa_cons pe_int pa_nil))) (pg_sub (pv 9) pe_int set_listA)))))))))))))) (pss_one (ps_ret (pe_cmpR (op_eqD hr.units10) (pv 2) (pv 1) (nomark _))))))), ?_⟩
    have hs63 : (ss.map V.int).length ≤ 63 := by rw [List.length_map]; exact hlen
    refine ⟨_, rfl, sa, ss, 0, rfl, hS, by decide, by decide, fun p0 n0 H0 s0 np0 f0 => ?_⟩
    refine ⟨p0, n0, 10, rfl, f0, ⟨by decide, by decide⟩, fun l qs H1 L1 h1 h10 _ oth => ?_⟩
    have s1 : Same H H1 := fun b o e => oth b o (ne_of_none e np0) (s0 b o e)
    have hll : (qs.map fun (q : Addr × Int × Int) => V.ref q.1).length = qs.length := List.length_map _
    refine ⟨_, rfl, l, _, rfl, .inl (SqL.of L1.lst), fun a H2 s2 f2 n2 => ?_⟩
    have L2' := L1.mono s2
    have M2 : LineAt H2 a qs := ⟨f2, L2'.crn⟩
    have S2 : SqL K H2 sa (ss.map V.int) := (s1.trans s2).seq hS
    refine ⟨_, rfl, sa, _, rfl, .inl S2, _, _, rfl, _, _, rfl, _, _, rfl, ?_⟩
    have hJ : 2 ≤ (if (if (((ss.map V.int).length : Nat) : Int) < 64 then (((ss.map V.int).length : Nat) : Int) else 64) > 2 then (if (((ss.map V.int).length : Nat) : Int) < 64 then (((ss.map V.int).length : Nat) : Int) else 64) else 2) ∧ (if (if (((ss.map V.int).length : Nat) : Int) < 64 then (((ss.map V.int).length : Nat) : Int) else 64) > 2 then (if (((ss.map V.int).length : Nat) : Int) < 64 then (((ss.map V.int).length : Nat) : Int) else 64) else 2) ≤ 64 := by
      split <;> split <;> omega
    generalize (if (if (((ss.map V.int).length : Nat) : Int) < 64 then (((ss.map V.int).length : Nat) : Int) else 64) > 2 then (if (((ss.map V.int).length : Nat) : Int) < 64 then (((ss.map V.int).length : Nat) : Int) else 64) else 2) = J at hJ
    have e62 : (2 : Int) ^ 62 = 4611686018427387904 := by decide
    refine ⟨by rw [e62]; omega, for_range (n := (J - 1).toNat) (lo := 1) (fun _ σ H3 => ∃ z3 z4 z5 z6 z7 z8 z9, σ = [some (.ref sa), some (.ref l), some (.ref a), z3, z4, z5, z6, z7, z8, z9] ∧ Same H2 H3) ⟨_, _, _, _, _, _, _, rfl, Same.refl _⟩ ?_ ?_⟩
    · rintro i σ H3 hi ⟨z3, z4, z5, z6, z7, z8, z9, rfl, s3⟩
      refine ⟨_, rfl, _, rfl, sa, ss, _, rfl, s3.seq S2, by omega, by omega, fun pp np H4 s4 n4 f4 => ?_⟩
      have L4 := (L2'.mono s3).mono s4
      refine ⟨_, rfl, _, rfl, l, _, rfl, .inl (SqL.of L4.lst), pp, _, _, rfl, f4, ⟨by rw [hll]; omega, bits_le (bits_small (by omega) (by rw [hll]; omega)) (by decide)⟩, fun r5 H5 a5 b5 P5 => ?_⟩
      rw [hll] at b5
      obtain ⟨n5, e5⟩ := P5.now
      have s5 : Same H3 H5 := P5.same s4 n4
      refine ⟨_, rfl, _, rfl, _, _, rfl, rfl, pp, _, _, rfl, e5, ⟨by omega, bits_le (bits_small (by omega) (by omega)) (by decide)⟩, fun r6 H6 a6 b6 P6 => ?_⟩
      have s6 : Same H3 H6 := P6.same s5 n4
      have s26 : Same H2 H6 := s3.trans s6
      refine ⟨2, rfl, by decide, by decide, for_range (n := 2) (lo := 0) (fun _ σ H7 => ∃ z7 z8 z9, σ = [some (.ref sa), some (.ref l), some (.ref a), some (.int (1 + (i : Int))), some (.ref pp), some (.int r5), some (.int r6), z7, z8, z9] ∧ Same H6 H7) ⟨_, _, _, rfl, Same.refl _⟩ ?_ ?_⟩
      · rintro j σ H7 hj ⟨z7, z8, z9, rfl, s7⟩
        have L7 := L2'.mono (s26.trans s7)
        have M7 := M2.mono (s26.trans s7)
        obtain ⟨rs, ers, mrs⟩ := cut_map (fun (q : Addr × Int × Int) => V.ref q.1) qs (some r6) (some (r5 + 1))
        obtain ⟨qa, mqa, eqa⟩ := at_line (qs := qs) a6 (by omega)
        obtain ⟨qb, mqb, eqb⟩ := at_line (qs := qs) a5 b5
        refine ⟨_, rfl, _, rfl, _, rfl, a, _, _, _, rfl, M7.lst, fun p8 H8 s8 f8 n8 => ?_⟩
        rw [ers] at f8
        have M8 := M7.mono s8
        refine ⟨_, rfl, _, rfl, _, rfl, a, _, _, _, _, _, rfl, M8.lst, eqa, eqb, fun p9 H9 s9 f9 n9 => ?_⟩
        have L9 := (L7.mono s8).mono s9
        refine ⟨_, rfl, _, rfl, _, rfl, _, rfl, _, rfl, _, _, rfl, rfl, _, rfl, l, _, rfl, SqL.of L9.lst, fun p10 H10 s10 f10 n10 => ?_⟩
        rw [ers] at f10
        have c9 := L9.crn
        have PL : LineAt H10 p8 rs := ⟨(s9.trans s10) _ _ f8, fun q hq => ⟨s10 _ _ (c9 q (mrs q hq)).1, (c9 q (mrs q hq)).2⟩⟩
        have PR : LineAt H10 p10 rs := ⟨f10, PL.crn⟩
        refine ⟨p8, p10, rs, rfl, PL, PR, fun H11 s11 => ⟨_, rfl, iteF ?_⟩⟩
        have L11 := (L9.mono s10).mono s11
        refine ⟨_, rfl, _, rfl, _, rfl, l, _, _, _, rfl, rfl, SqL.of L11.lst, eqa, _, rfl, _, rfl, l, _, _, _, rfl, rfl, SqL.of L11.lst, eqb, sz (by simp), fun p12 H12 s12 f12 n12 => ?_⟩
        have L12 := L11.mono s12
        have CC : ∀ q ∈ [qa, qb], H12 q.1 = some (.tup [.int q.2.1, .int q.2.2]) ∧ bits q.2.1 ≤ 50 ∧ bits q.2.2 ≤ 50 := fun q hq => by
          simp only [List.mem_cons, List.not_mem_nil, or_false] at hq
          rcases hq with rfl | rfl
          · exact L12.crn _ mqa
          · exact L12.crn _ mqb
        have g9 := (s10.trans (s11.trans s12)) _ _ f9
        refine ⟨p9, p12, [qa, qb], rfl, ⟨g9, CC⟩, ⟨f12, CC⟩, fun H13 s13 => ⟨_, rfl, iteF ?_⟩⟩
        have L13 := L12.mono s13
        have s713 : Same H7 H13 := s8.trans (s9.trans (s10.trans (s11.trans (s12.trans s13))))
        have M13 := M7.mono s713
        refine ⟨_, rfl, _, rfl, _, _, line_rp M13, line_rp L13, _, rfl, iteFalse (by rw [deq_self]; rfl) ?_⟩
        -- what was told is changed
        have e8 : H13 p8 = some (.lst (rs.map fun q => V.ref q.1)) := (s9.trans (s10.trans (s11.trans (s12.trans s13)))) _ _ f8
        have e9 := s13 _ _ g9
        have n89 : p8 ≠ p9 := ne_of_none f8 n9
        have n79 : H7 p9 = none := s8.free n9
        refine ⟨_, rfl, .inl ⟨rfl, _, SqL.of e8⟩, p8, _, rfl, rfl, e8, fun H14 u14 => ?_⟩
        have s14 := u14.same s713 n8
        have e9' := u14.at (Ne.symm n89) e9
        refine ⟨_, rfl, .inl ⟨rfl, _, SqL.of u14.now⟩, sz (by simp), fun p15 H15 s15 f15 n15 => ?_⟩
        refine ⟨p8, _, _, rfl, rfl, s15 _ _ u14.now, small1000 ?_, fun H16 u16 => ?_⟩
        · have z := cutV_length (qs.map fun (q : Addr × Int × Int) => V.ref q.1) (some r6) (some (r5 + 1))
          rw [ers, hll, List.length_map] at z
          rw [List.length_reverse, List.length_map]
          omega
        have s16 := u16.same (s14.trans s15) n8
        have e9'' := u16.at (Ne.symm n89) (s15 _ _ e9')
        refine ⟨sz (by simp), fun p17 H17 s17 f17 n17 => ?_⟩
        refine ⟨_, rfl, p9, _, _, 0, rfl, rfl, s17 _ _ e9'', rfl, fun H18 u18 => ?_⟩
        exact ⟨_, _, _, rfl, s7.trans (u18.same (s16.trans s17) n79)⟩
      · rintro σ H7 ⟨z7, z8, z9, rfl, s7⟩
        exact ⟨_, _, _, _, _, _, _, rfl, s26.trans s7⟩
    · rintro σ H3 ⟨z3, z4, z5, z6, z7, z8, z9, rfl, s3⟩
      refine ⟨_, rfl, _, rfl, _, _, line_rp (M2.mono s3), line_rp (L2'.mono s3), ?_⟩
      show Q (.bl (deq _ _)) H3
      rw [deq_self]
      exact fin H3
end
/-! ### the whole -/
theorem all_mk {P : Program} {w : World} {K : PySem.W.Frag} {h : Heap} {mg : Str → Option Value} {fa : Addr} (X : K.In h) (G : h.Ns mainGlobals mg) (hfa : mg "law" = some (.ref fa))
    {f0 : Addr} {od0 an0 : Option Addr} {sl0 : Array (Option Value)} {oc0 kV0 dc0 pm0 cd0 ct0 : Value}
    {f1 : Addr} {od1 an1 : Option Addr} {sl1 : Array (Option Value)} {oc1 kV1 dc1 pm1 cd1 ct1 : Value}
    {f2 : Addr} {od2 an2 : Option Addr} {sl2 : Array (Option Value)} {oc2 kV2 dc2 pm2 cd2 ct2 : Value}
    {f3 : Addr} {od3 an3 : Option Addr} {sl3 : Array (Option Value)} {oc3 kV3 dc3 pm3 cd3 ct3 : Value}
    {f4 : Addr} {od4 an4 : Option Addr} {sl4 : Array (Option Value)} {oc4 kV4 dc4 pm4 cd4 ct4 : Value}
    {f5 : Addr} {od5 an5 : Option Addr} {sl5 : Array (Option Value)} {oc5 kV5 dc5 pm5 cd5 ct5 : Value}
    {f6 : Addr} {od6 an6 : Option Addr} {sl6 : Array (Option Value)} {oc6 kV6 dc6 pm6 cd6 ct6 : Value}
    {f7 : Addr} {od7 an7 : Option Addr} {sl7 : Array (Option Value)} {oc7 kV7 dc7 pm7 cd7 ct7 : Value}
    (a0 : PySem.W.nsIn K mainGlobals "part_of" = some (some (.ref f0))) (l0 : K.lookup f0 = some ⟨oc0, od0, .func (PySem.W.fnOf "part_of" "part_of" (defArgs (top 1)) (defBody (top 1)) (defScope (top 1)) .none kV0 dc0 pm0 an0 cd0 ct0), sl0⟩) (c0 : PySem.W.codeIn K cd0 "part_of" = true) (k0 : PySem.W.keepIn K (.ref f0) = true)
    (a1 : PySem.W.nsIn K mainGlobals "short_cut" = some (some (.ref f1))) (l1 : K.lookup f1 = some ⟨oc1, od1, .func (PySem.W.fnOf "short_cut" "short_cut" (defArgs (top 2)) (defBody (top 2)) (defScope (top 2)) .none kV1 dc1 pm1 an1 cd1 ct1), sl1⟩) (c1 : PySem.W.codeIn K cd1 "short_cut" = true) (k1 : PySem.W.keepIn K (.ref f1) = true)
    (a2 : PySem.W.nsIn K mainGlobals "_law_cell_at" = some (some (.ref f2))) (l2 : K.lookup f2 = some ⟨oc2, od2, .func (PySem.W.fnOf "_law_cell_at" "_law_cell_at" (defArgs (top 4)) (defBody (top 4)) (defScope (top 4)) .none kV2 dc2 pm2 an2 cd2 ct2), sl2⟩) (c2 : PySem.W.codeIn K cd2 "_law_cell_at" = true) (k2 : PySem.W.keepIn K (.ref f2) = true)
    (a3 : PySem.W.nsIn K mainGlobals "_law_pool" = some (some (.ref f3))) (l3 : K.lookup f3 = some ⟨oc3, od3, .func (PySem.W.fnOf "_law_pool" "_law_pool" (defArgs (top 5)) (defBody (top 5)) (defScope (top 5)) .none kV3 dc3 pm3 an3 cd3 ct3), sl3⟩) (c3 : PySem.W.codeIn K cd3 "_law_pool" = true) (k3 : PySem.W.keepIn K (.ref f3) = true)
    (a4 : PySem.W.nsIn K mainGlobals "_law_take" = some (some (.ref f4))) (l4 : K.lookup f4 = some ⟨oc4, od4, .func (PySem.W.fnOf "_law_take" "_law_take" (defArgs (top 6)) (defBody (top 6)) (defScope (top 6)) .none kV4 dc4 pm4 an4 cd4 ct4), sl4⟩) (c4 : PySem.W.codeIn K cd4 "_law_take" = true) (k4 : PySem.W.keepIn K (.ref f4) = true)
    (a5 : PySem.W.nsIn K mainGlobals "_law_line" = some (some (.ref f5))) (l5 : K.lookup f5 = some ⟨oc5, od5, .func (PySem.W.fnOf "_law_line" "_law_line" (defArgs (top 7)) (defBody (top 7)) (defScope (top 7)) .none kV5 dc5 pm5 an5 cd5 ct5), sl5⟩) (c5 : PySem.W.codeIn K cd5 "_law_line" = true) (k5 : PySem.W.keepIn K (.ref f5) = true)
    (a6 : PySem.W.nsIn K mainGlobals "_law_alike" = some (some (.ref f6))) (l6 : K.lookup f6 = some ⟨oc6, od6, .func (PySem.W.fnOf "_law_alike" "_law_alike" (defArgs (top 8)) (defBody (top 8)) (defScope (top 8)) .none kV6 dc6 pm6 an6 cd6 ct6), sl6⟩) (c6 : PySem.W.codeIn K cd6 "_law_alike" = true) (k6 : PySem.W.keepIn K (.ref f6) = true)
    (a7 : PySem.W.nsIn K mainGlobals "law" = some (some (.ref f7))) (l7 : K.lookup f7 = some ⟨oc7, od7, .func (PySem.W.fnOf "law" "law" (defArgs (top 9)) (defBody (top 9)) (defScope (top 9)) .none kV7 dc7 pm7 an7 cd7 ct7), sl7⟩) (c7 : PySem.W.codeIn K cd7 "law" = true) (k7 : PySem.W.keepIn K (.ref f7) = true)
    (z_bool : PySem.W.nsIn K mainGlobals "bool" = some none)
    (z_isinstance : PySem.W.nsIn K mainGlobals "isinstance" = some none)
    (z_len : PySem.W.nsIn K mainGlobals "len" = some none)
    (z_list : PySem.W.nsIn K mainGlobals "list" = some none)
    (z_max : PySem.W.nsIn K mainGlobals "max" = some none)
    (z_min : PySem.W.nsIn K mainGlobals "min" = some none)
    (z_range : PySem.W.nsIn K mainGlobals "range" = some none)
    (z_tuple : PySem.W.nsIn K mainGlobals "tuple" = some none)
    (z_zip : PySem.W.nsIn K mainGlobals "zip" = some none) :
    ∃ fd : FuncData, (∀ (s : Shared) (v : Value), BindsTo s fd ⟨[v], []⟩ [("script", v)]) ∧ ∀ base : Heap, K.In base → base.Ns mainGlobals mg → FnOk P w K mg base CX0 8 fa fd ["script"] (spLaw K) := by
  have D_part_of : Df K mg "part_of" (top 1) := df_mk X G a0 l0 c0 k0
  have D_short_cut : Df K mg "short_cut" (top 2) := df_mk X G a1 l1 c1 k1
  have D_law_cell_at : Df K mg "_law_cell_at" (top 4) := df_mk X G a2 l2 c2 k2
  have D_law_pool : Df K mg "_law_pool" (top 5) := df_mk X G a3 l3 c3 k3
  have D_law_take : Df K mg "_law_take" (top 6) := df_mk X G a4 l4 c4 k4
  have D_law_line : Df K mg "_law_line" (top 7) := df_mk X G a5 l5 c5 k5
  have D_law_alike : Df K mg "_law_alike" (top 8) := df_mk X G a6 l6 c6 k6
  have D_law : Df K mg "law" (top 9) := df_mk X G a7 l7 c7 k7
  have T : Txt mg := ⟨PySem.W.mg_none_of X G z_bool, PySem.W.mg_none_of X G z_isinstance, PySem.W.mg_none_of X G z_len, PySem.W.mg_none_of X G z_list, PySem.W.mg_none_of X G z_max, PySem.W.mg_none_of X G z_min, PySem.W.mg_none_of X G z_range, PySem.W.mg_none_of X G z_tuple, PySem.W.mg_none_of X G z_zip⟩
  refine law_fd h hfa fun base => ?_
  have F_part_of := fn_part_of (P := P) (w := w) (base := base) D_part_of
  have F_short_cut := fn_short_cut (P := P) (w := w) (base := base) D_short_cut
  have F_law_cell_at := fn_law_cell_at (P := P) (w := w) (base := base) D_law_cell_at T
  have F_law_pool := fn_law_pool (P := P) (w := w) (base := base) D_law_pool F_law_cell_at T
  have F_law_take := fn_law_take (P := P) (w := w) (base := base) D_law_take
  have F_law_line := fn_law_line (P := P) (w := w) (base := base) D_law_line F_law_take T
  have F_law_alike := fn_law_alike (P := P) (w := w) (base := base) D_law_alike T
  exact fn_law D_law F_law_pool F_law_line F_law_take F_part_of F_short_cut F_law_alike T
end K51
end
open PySem PySem.W PyProof.Rows
set_option maxRecDepth 100000 in
set_option maxHeartbeats 0 in
theorem PySem.Challenge.cw_oneleash_k51_parts_and_short_cuts_holds : PySem.Challenge.rw_oneleash_k51_parts_and_short_cuts.Holds := by
  w_on; o_law; k_head; (case hw => w_witness2)
  k_fill
  refine L2.law_walk (l := PySem.Challenge.rw_oneleash_k51_parts_and_short_cuts) (k := 8) ⟨rfl, by decide, by decide⟩ rfl rfl (fun w h Y => PySem.W.kIn_of Y) ?F
  case F =>
    intro w mg fa h KX G hmg
    refine' K51.all_mk KX G hmg ?a0 ?l0 ?c0 ?k0 ?a1 ?l1 ?c1 ?k1 ?a2 ?l2 ?c2 ?k2 ?a3 ?l3 ?c3 ?k3 ?a4 ?l4 ?c4 ?k4 ?a5 ?l5 ?c5 ?k5 ?a6 ?l6 ?c6 ?k6 ?a7 ?l7 ?c7 ?k7   ?z_bool ?z_isinstance ?z_len ?z_list ?z_max ?z_min ?z_range ?z_tuple ?z_zip
    (case a0 => k_is); (case l0 => k_is); (case c0 => k_is); (case k0 => k_is)
    (case a1 => k_is); (case l1 => k_is); (case c1 => k_is); (case k1 => k_is)
    (case a2 => k_is); (case l2 => k_is); (case c2 => k_is); (case k2 => k_is)
    (case a3 => k_is); (case l3 => k_is); (case c3 => k_is); (case k3 => k_is)
    (case a4 => k_is); (case l4 => k_is); (case c4 => k_is); (case k4 => k_is)
    (case a5 => k_is); (case l5 => k_is); (case c5 => k_is); (case k5 => k_is)
    (case a6 => k_is); (case l6 => k_is); (case c6 => k_is); (case k6 => k_is)
    (case a7 => k_is); (case l7 => k_is); (case c7 => k_is); (case k7 => k_is)
    (case z_bool => k_is); (case z_isinstance => k_is); (case z_len => k_is); (case z_list => k_is); (case z_max => k_is); (case z_min => k_is); (case z_range => k_is); (case z_tuple => k_is); (case z_zip => k_is)
