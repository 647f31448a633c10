import PyProof.Rows.All
import Wide.All
import OpenK.AllK
import Wide.FinOn
import Lean
import PyProof.EqAt
import PyProof.EqKinds
import PyProof.TupleCall
import PyProof.NeKinds
import PyProof.ListRange
import KE.KDictSum
import Wide.Seal
import OpenK.KTop
import PySem.Challenge.RW_widenrows_k08_whole_ways_are_passed
set_option Elab.async false
set_option linter.all false
set_option maxRecDepth 100000
/-! THE HAND LAYER, for ints, bools, texts, own classes, LISTS and tuples (index, slices, in, append, pop ..), calls, loops. Paste it whole ahead of your own text; what your proof does not reach may be deleted. -/
namespace L2
open PySem PySem.Spec PyProof.Rows

/-- a key: an int or a str -/
abbrev Key := Sum Int Str
def keyIs : Key → Value → Bool
  | .inl k, v => Value.isInt k v
  | .inr x, v => Value.isStrOf x v
def keyH (w : World) : Key → Int
  | .inl k => hashInt k
  | .inr x => hashStr w x
theorem keyIs_shape : ∀ {k : Key} {v : Value}, keyIs k v = true → (∃ i t, k = Sum.inl i ∧ v = Value.int i t) ∨ (∃ x t, k = Sum.inr x ∧ v = Value.str x t)
  | .inl i, v, h => by
    obtain ⟨t, e⟩ := Value.isInt_shape (k := i) (v := v) h
    exact .inl ⟨i, t, rfl, e⟩
  | .inr x, v, h => by
    obtain ⟨t, e⟩ := Value.isStrOf_shape (x := x) (v := v) h
    exact .inr ⟨x, t, rfl, e⟩
theorem keyIs_int (i : Int) (t : Tok) : keyIs (.inl i) (.int i t) = true := by simp [keyIs, Value.isInt]
theorem keyIs_str (x : Str) (t : Tok) : keyIs (.inr x) (.str x t) = true := by simp [keyIs, Value.isStrOf]
theorem key_ll (a b : Int) : decide ((Sum.inl a : Key) = Sum.inl b) = (a == b) := by
  by_cases e : a = b
  · subst e; simp
  · have h : ¬ (Sum.inl a : Key) = Sum.inl b := fun q => e (Sum.inl.inj q)
    rw [decide_eq_false h]
    exact (beq_eq_false_iff_ne.mpr e).symm
theorem key_rr (a b : Str) : decide ((Sum.inr a : Key) = Sum.inr b) = decide (a = b) := by
  by_cases e : a = b
  · subst e; simp
  · have h : ¬ (Sum.inr a : Key) = Sum.inr b := fun q => e (Sum.inr.inj q)
    rw [decide_eq_false h, decide_eq_false e]
theorem key_lr (a : Int) (b : Str) : decide ((Sum.inl a : Key) = Sum.inr b) = false := decide_eq_false (fun q => nomatch q)
theorem key_rl (a : Str) (b : Int) : decide ((Sum.inr a : Key) = Sum.inl b) = false := decide_eq_false (fun q => nomatch q)

def mixKind (prog : Program) (w : World) : PySem.KeyKind prog w Key where
  is := keyIs
  hash := keyH w
  inj := fun v a b ha hb => by
    rcases keyIs_shape ha with ⟨i, t, rfl, rfl⟩ | ⟨x, t, rfl, rfl⟩
    · rcases keyIs_shape hb with ⟨j, u, rfl, e⟩ | ⟨y, u, rfl, e⟩
      · injection e with e1 _; rw [e1]
      · exact nomatch e
    · rcases keyIs_shape hb with ⟨j, u, rfl, e⟩ | ⟨y, u, rfl, e⟩
      · exact nomatch e
      · injection e with e1 _; rw [e1]
  byValue := fun k v h => by
    rcases keyIs_shape h with ⟨i, t, rfl, rfl⟩ | ⟨x, t, rfl, rfl⟩ <;> rfl
  pyHash := fun hv h => by
    rcases keyIs_shape hv with ⟨i, t, rfl, rfl⟩ | ⟨x, t, rfl, rfl⟩
    · exact wpAny_pyHash_int h
    · exact wpAny_pyHash_str h
  eqBool := fun hu hv h => by
    rcases keyIs_shape hu with ⟨i, t, rfl, rfl⟩ | ⟨x, t, rfl, rfl⟩
    · rcases keyIs_shape hv with ⟨j, u, rfl, rfl⟩ | ⟨y, u, rfl, rfl⟩
      · rw [key_ll] at h; exact wpAny_eqBool_int h
      · rw [key_lr] at h; exact SeqAt.EqAt.int_str i t y u _ _ _ _ h
    · rcases keyIs_shape hv with ⟨j, u, rfl, rfl⟩ | ⟨y, u, rfl, rfl⟩
      · rw [key_rl] at h; exact SeqAt.EqAt.str_int x t j u _ _ _ _ h
      · rw [key_rr] at h; exact wpAny_eqBool_str h
  «strs» := fun k x t v h => by
    rcases keyIs_shape h with ⟨i, u, rfl, e⟩ | ⟨y, u, rfl, e⟩
    · exact nomatch e
    · injection e with e1 _
      subst e1
      cases v <;> rfl

theorem mixKind_int (prog : Program) (w : World) (i : Int) (t : Tok) : (mixKind prog w).is (.inl i) (.int i t) = true := keyIs_int i t
theorem mixKind_str (prog : Program) (w : World) (x : Str) (t : Tok) : (mixKind prog w).is (.inr x) (.str x t) = true := keyIs_str x t
end L2

namespace L2
open PySem PySem.Spec PyProof.Rows

/-- a value, without the heap -/
inductive V where
  | non | bl (b : Bool) | int (i : Int) | str (x : Str) | byt (b : Array UInt8) | flt (b : UInt64) | ref (a : Addr) | ty (n : String)
  deriving DecidableEq

def RelV : V → Value → Prop
  | .non, u => u = Value.none
  | .bl b, u => u = Value.bool b
  | .int i, u => ∃ t, u = Value.int i t
  | .str x, u => ∃ t, u = Value.str x t
  | .byt b, u => ∃ t, u = Value.bytes b t
  | .flt b, u => ∃ t, u = Value.float b t
  | .ref a, u => u = Value.ref a
  | .ty n, u => u = Value.type n

abbrev Vals : List V → List Value → Prop := Paired RelV
theorem Vals.length {xs : List V} {us : List Value} (r : Vals xs us) : xs.length = us.length := Paired.length r
theorem Vals.get : ∀ {xs : List V} {us : List Value} {i : Nat} {x : V}, Vals xs us → xs[i]? = some x → ∃ u, us[i]? = some u ∧ RelV x u
  | _, _, _, _, .nil, e => by simp at e
  | _, _, 0, _, .cons r _, e => by simp at e; subst e; exact ⟨_, rfl, r⟩
  | _, _, i + 1, x, .cons _ t, e => by
    obtain ⟨u, h1, h2⟩ := Vals.get (i := i) (x := x) t (by simpa using e)
    exact ⟨u, by simpa using h1, h2⟩
theorem Vals.set {x : V} {u : Value} (r : RelV x u) : ∀ {xs : List V} {us : List Value} (i : Nat), Vals xs us → Vals (xs.set i x) (us.set i u)
  | _, _, _, .nil => .nil
  | _, _, 0, .cons _ t => .cons r t
  | _, _, i + 1, .cons q t => .cons q (Vals.set r i t)
theorem Vals.append : ∀ {xs ys : List V} {us ws : List Value}, Vals xs us → Vals ys ws → Vals (xs ++ ys) (us ++ ws)
  | _, _, _, _, .nil, s => s
  | _, _, _, _, .cons r t, s => .cons r (Vals.append t s)
theorem Vals.take : ∀ {xs : List V} {us : List Value} (n : Nat), Vals xs us → Vals (xs.take n) (us.take n)
  | _, _, 0, _ => .nil
  | _, _, _ + 1, .nil => .nil
  | _, _, n + 1, .cons r t => .cons r (Vals.take n t)
theorem Vals.drop : ∀ {xs : List V} {us : List Value} (n : Nat), Vals xs us → Vals (xs.drop n) (us.drop n)
  | _, _, 0, r => r
  | _, _, _ + 1, .nil => .nil
  | _, _, n + 1, .cons _ t => Vals.drop n t

def RelO : Option V → Option Value → Prop
  | some v, some u => RelV v u
  | none, none => True
  | _, _ => False
def KV {κ : Type} : List (κ × V) → List (κ × Value) → Prop := Paired fun (p : κ × V) (q : κ × Value) => p.1 = q.1 ∧ RelV p.2 q.2

/-- a key of a dict (00_mix): an int or a text -/
def kV : Key → V
  | .inl i => .int i
  | .inr x => .str x

/-- what stands at a tracked address -/
inductive HO where
  /-- a list -/
  | lst (xs : List V)
  /-- a tuple (never changes) -/
  | tup (xs : List V)
  /-- a dict whose keys are ints and texts; one whose keys are tuples of ints and texts (the empty one is both) -/
  | dK (kvs : List (Key × V)) | dT (kvs : List (List Key × V))
  /-- a set of ints: its members, its size -/
  | set (S : Int → Bool) (n : Nat)
  /-- an instance of the class at C, its dict at dx, its attributes -/
  | ins (C dx : Addr) (fs : List (Str × V))
  /-- the dict of the instance at x -/
  | own (x : Addr)
  /-- the dict of an exception -/
  | xd (fs : List (Str × V))
  /-- a bound method, f of x -/
  | met (f x : Addr)
  /-- a range object lo, lo + 1, .. below hi -/
  | rng (lo hi : Int)
  /-- a thing that is known to the object (the script; a dict while a loop walks it): read, never written while it is so -/
  | frz (o : Obj) (u : HO)
  /-- a code object's table -/
  | tbl (ps : Array Value)
  /-- any other thing, by what is true of its one object (a def of one's own: SetO a S n := HO.ext fun h => ..) -/
  | ext (φ : Heap → Prop)

abbrev Hp := Addr → Option HO
def upd (H : Hp) (a : Addr) (o : HO) : Hp := fun b => if b = a then some o else H b
theorem upd_same {H : Hp} {a : Addr} {o : HO} : upd H a o a = some o := by unfold upd; rw [if_pos rfl]
theorem upd_ne {H : Hp} {a b : Addr} {o : HO} (h : b ≠ a) : upd H a o b = H b := by unfold upd; rw [if_neg h]
/-- two objects of different content stand apart -/
theorem ne_of {H : Hp} {a b : Addr} {o u : HO} (h : H a = some o) (h' : H b = some u) (d : o ≠ u) : a ≠ b := by
  intro e; subst e; rw [h] at h'; exact d (Option.some.inj h')
theorem ne_of_none {H : Hp} {a b : Addr} {o : HO} (h : H a = some o) (h' : H b = none) : a ≠ b := by
  intro e; subst e; rw [h] at h'; cases h'

section
variable (P : Program) (w : World)
def ObjOk (H : Hp) (h : Heap) (a : Addr) : HO → Prop
  | .lst xs => xs.length ≤ sizeLine ∧ ∃ (its : List Value) (n : Nat), Vals xs its ∧ h.get? a = some { cls := .type "list", data := .seq its.toArray n }
  | .tup xs => xs.length ≤ sizeLine ∧ ∃ its : List Value, Vals xs its ∧ IsTup h a its.toArray
  | .dK kvs => kvs.length ≤ sizeLine ∧ (a == sysModules) = false ∧ ∃ vs, KV kvs vs ∧ h.DictOf (mixKind P w) a vs
  | .dT kvs => kvs.length ≤ sizeLine ∧ (a == sysModules) = false ∧ ∃ xs : List (List Key × Addr × Value),
      Paired (fun (p : List Key × V) (q : List Key × Addr × Value) => p.1 = q.1 ∧ H q.2.1 = some (.tup (p.1.map kV)) ∧ RelV p.2 q.2.2) kvs xs ∧
      ∃ o es ep, h.get? a = some o ∧ o.ExactDict ∧ o.data = .dict es ep ∧ es.toList = xs.map (entryOfKey (tupleKind (mixKind P w))) ∧ (xs.map (·.1)).Nodup
  | .set S n => h.SetOf (intKind P w) a S n
  | .ins C dx fs => H dx = some (.own a) ∧ fs.length ≤ 1000 ∧ dx ≠ a ∧ h.get? a = some (PySem.W.instObj C dx) ∧
      ∃ mA, h.Ns1 dx mA ∧ (∀ f, RelO (fs.lookup f) (mA f)) ∧ PySem.Within mA (fs.map (·.1))
  | .own _ => ∃ o, h.get? a = some o
  | .xd fs => ∃ mA, h.Ns1 a mA ∧ ∀ f, RelO (fs.lookup f) (mA f)
  | .rng lo hi => ∃ t u v, h.get? a = some { cls := .type "range", data := .fields #[.int lo t, .int hi u, .int 1 v] }
  | .frz o u => h.get? a = some o ∧ ObjOk H h a u
  | .tbl ps => h.get? a = some { cls := .none, data := .fields ps }
  | .met f x => h.get? a = some (PySem.W.methodObj (.ref f) (.ref x))
  | .ext φ => φ h ∧ (∃ o, h.get? a = some o) ∧ ∀ h1 h2 : Heap, φ h1 → (∀ o, h1.get? a = some o → h2.get? a = some o) → φ h2
/-- the abstract heap is held -/
def HOk (H : Hp) (h : Heap) : Prop := ∀ a o, H a = some o → ObjOk P w H h a o
end

section
variable {P : Program} {w : World} {H H' : Hp} {h h' : Heap} {a : Addr} {o : HO}
theorem ObjOk.lt (x : ObjOk P w H h a o) : a < h.objs.size := by
  cases o with
  | lst xs => obtain ⟨_, _, _, _, e⟩ := x; exact Heap.lt_size e
  | tup xs => obtain ⟨_, _, _, p⟩ := x; exact p.lt
  | dK kvs => obtain ⟨_, _, _, _, o, _, _, e, _⟩ := x; exact Heap.lt_size e
  | dT kvs => obtain ⟨_, _, _, _, o, _, _, e, _⟩ := x; exact Heap.lt_size e
  | set S n => obtain ⟨o, _, _, _, e, _⟩ := x; exact Heap.lt_size e
  | ins C dx fs => obtain ⟨_, _, _, e, _⟩ := x; exact Heap.lt_size e
  | own y => obtain ⟨_, e⟩ := x; exact Heap.lt_size e
  | xd fs => obtain ⟨_, ⟨_, _, _, e, _⟩, _⟩ := x; exact Heap.lt_size e
  | rng lo hi => obtain ⟨_, _, _, e⟩ := x; exact Heap.lt_size e
  | frz ob u => obtain ⟨e, _⟩ := x; exact Heap.lt_size e
  | tbl ps => exact Heap.lt_size (show h.get? a = some _ from x)
  | met f y => exact Heap.lt_size (show h.get? a = some _ from x)
  | ext φ => obtain ⟨_, ⟨_, e⟩, _⟩ := x; exact Heap.lt_size e
theorem Paired.mapP {α β : Type} {F G : α → β → Prop} : ∀ {l₁ : List α} {l₂ : List β}, Paired F l₁ l₂ → (∀ a b, F a b → G a b) → Paired G l₁ l₂
  | _, _, .nil, _ => .nil
  | _, _, .cons r t, f => .cons (f _ _ r) (Paired.mapP t f)
/-- what an object's description leans on: its own object, its own dict, the tuples -/
theorem ObjOk.stay (x : ObjOk P w H h a o) (k : ∀ b u, (b = a ∨ H b = some (.own a)) → h.get? b = some u → h'.get? b = some u)
    (ho : ∀ b, H b = some (.own a) → H' b = some (.own a)) (ht : ∀ b xs, H b = some (.tup xs) → H' b = some (.tup xs)) : ObjOk P w H' h' a o := by
  induction o with
  | lst xs => obtain ⟨z, its, n, r, e⟩ := x; exact ⟨z, its, n, r, k _ _ (.inl rfl) e⟩
  | tup xs => obtain ⟨z, its, r, ob, e, c⟩ := x; exact ⟨z, its, r, ob, k _ _ (.inl rfl) e, c⟩
  | dK kvs => obtain ⟨z, y, vs, r, ob, es, ep, e, c⟩ := x; exact ⟨z, y, vs, r, ob, es, ep, k _ _ (.inl rfl) e, c⟩
  | dT kvs =>
    obtain ⟨z, y, xs, r, ob, es, ep, e, c⟩ := x
    exact ⟨z, y, xs, Paired.mapP r fun p q z => ⟨z.1, ht _ _ z.2.1, z.2.2⟩, ob, es, ep, k _ _ (.inl rfl) e, c⟩
  | set S n => obtain ⟨ob, es, ep, t, e, c⟩ := x; exact ⟨ob, es, ep, t, k _ _ (.inl rfl) e, c⟩
  | ins C dx fs =>
    obtain ⟨d, z, ne, e, mA, ⟨od, es, ep, e2, c⟩, r⟩ := x
    exact ⟨ho _ d, z, ne, k _ _ (.inl rfl) e, mA, ⟨od, es, ep, k _ _ (.inr d) e2, c⟩, r⟩
  | own y => obtain ⟨ob, e⟩ := x; exact ⟨ob, k _ _ (.inl rfl) e⟩
  | xd fs => obtain ⟨mA, ⟨od, es, ep, e, c⟩, r⟩ := x; exact ⟨mA, ⟨od, es, ep, k _ _ (.inl rfl) e, c⟩, r⟩
  | rng lo hi => obtain ⟨t, u, v, e⟩ := x; exact ⟨t, u, v, k _ _ (.inl rfl) e⟩
  | frz ob u ih => obtain ⟨e, q⟩ := x; exact ⟨k _ _ (.inl rfl) e, ih q⟩
  | tbl ps =>
    have e : h.get? a = some { cls := .none, data := .fields ps } := x
    show h'.get? a = some { cls := .none, data := .fields ps }
    exact k a _ (.inl rfl) e
  | met f y =>
    have e : h.get? a = some (PySem.W.methodObj (.ref f) (.ref y)) := x
    show h'.get? a = some (PySem.W.methodObj (.ref f) (.ref y))
    exact k a _ (.inl rfl) e
  | ext φ => obtain ⟨p, ⟨o, e⟩, st⟩ := x; exact ⟨st _ _ p fun o q => k _ _ (.inl rfl) q, ⟨o, k _ _ (.inl rfl) e⟩, st⟩
theorem HOk.lt (x : HOk P w H h) (e : H a = some o) : a < h.objs.size := (x a o e).lt
theorem HOk.fresh (x : HOk P w H h) (e : h.objs.size ≤ a) : H a = none := by
  cases q : H a with
  | none => rfl
  | some u => exact absurd (Nat.lt_of_lt_of_le (x.lt q) e) (Nat.lt_irrefl _)
/-- every object of the heap is kept -/
theorem HOk.kept (x : HOk P w H h) (k : ∀ b u, h.get? b = some u → h'.get? b = some u) : HOk P w H h' := fun a o e =>
  (x a o e).stay (fun b u _ q => k b u q) (fun _ q => q) fun _ _ q => q
/-- a new object is laid and tracked -/
theorem HOk.laid (x : HOk P w H h) (k : ∀ b u, h.get? b = some u → h'.get? b = some u) (hp : h.objs.size ≤ a) (new : ObjOk P w (upd H a o) h' a o) : HOk P w (upd H a o) h' := fun b u e => by
  have hn := x.fresh hp
  by_cases hb : b = a
  · subst hb; rw [upd_same] at e; cases e; exact new
  · rw [upd_ne hb] at e
    exact (x b u e).stay (fun c v _ q => k c v q) (fun c q => by rw [upd_ne (ne_of_none q hn)]; exact q) fun c xs q => by rw [upd_ne (ne_of_none q hn)]; exact q
end

/-- what may be read as u: it is u, or a known u -/
def Rd (H : Hp) (a : Addr) (u : HO) : Prop := H a = some u ∨ ∃ o, H a = some (.frz o u)
theorem Rd.of {H : Hp} {a : Addr} {u : HO} (h : H a = some u) : Rd H a u := .inl h
theorem Rd.ok {P : Program} {w : World} {H : Hp} {h : Heap} {a : Addr} {u : HO} (r : Rd H a u) (x : HOk P w H h) : ObjOk P w H h a u := by
  rcases r with r | ⟨o, r⟩
  · exact x a u r
  · obtain ⟨_, q⟩ := x a _ r
    exact q
/-- what may be written -/
def Mut : Option HO → Prop
  | some (.lst _) => True
  | some (.dK _) => True
  | some (.dT _) => True
  | some (.set _ _) => True
  | some (.ins _ _ _) => True
  | some (.ext _) => True
  | _ => False
section
variable {P : Program} {w : World} {H : Hp} {h h' : Heap} {x e : Addr} {o' : HO}
/-- the object at e is changed: x itself, or the dict of the instance x -/
theorem HOk.write (ok : HOk P w H h) (mu : Mut (H x)) (he : e = x ∨ H e = some (.own x)) (k : ∀ b u, b ≠ e → h.get? b = some u → h'.get? b = some u) (heo : ∃ u, h'.get? e = some u)
    (new : ObjOk P w (upd H x o') h' x o') : HOk P w (upd H x o') h' := fun b u q => by
  have nown : ∀ c y, H c = some (.own y) → c ≠ x := fun c y r z => by subst z; rw [r] at mu; exact mu
  have ntup : ∀ c xs, H c = some (.tup xs) → c ≠ x := fun c xs r z => by subst z; rw [r] at mu; exact mu
  by_cases hb : b = x
  · subst hb; rw [upd_same] at q; cases q; exact new
  · rw [upd_ne hb] at q
    by_cases hbe : b = e
    · have q' : H b = some (.own x) := by
        rcases he with z | z
        · exact absurd (hbe.trans z) hb
        · rw [hbe]; exact z
      rw [q] at q'; cases q'
      obtain ⟨v, hv⟩ := heo
      exact ⟨v, by rw [hbe]; exact hv⟩
    · refine (ok b u q).stay (fun c v hc r => k c v ?_ r) (fun c r => by rw [upd_ne (nown c b r)]; exact r) fun c xs r => by rw [upd_ne (ntup c xs r)]; exact r
      rcases hc with rfl | hc
      · exact hbe
      · rintro rfl
        rcases he with z | z
        · exact nown c b hc z
        · rw [hc] at z; cases z; exact hb rfl
end

/-! ### kept unless tracked; of the frames at fs (the callers') the slots may change (an exception that passes writes there); of the records at ex (iterators) nothing is said -/
structure Un (fs ex : List Addr) (H H' : Hp) (h h' : Heap) : Prop where
  keep : ∀ b o, h.get? b = some o → H b = none → b ∉ fs → b ∉ ex → h'.get? b = some o
  slot : ∀ b o, h.get? b = some o → H b = none → b ∈ fs → b ∉ ex → ∃ sl, h'.get? b = some { o with slots := sl }
  free : ∀ b o, h.get? b = some o → H b = none → b ∉ ex → H' b = none
  there : ∀ b o, h.get? b = some o → b ∉ ex → ∃ o', h'.get? b = some o'
  tups : ∀ b xs, H b = some (.tup xs) → H' b = some (.tup xs)
  frzs : ∀ b o u, H b = some (.frz o u) → H' b = some (.frz o u)
  tbls : ∀ b ps, H b = some (.tbl ps) → ∃ more, H' b = some (.tbl (ps ++ more))
section
variable {fs fs' ex ex' : List Addr} {H H1 H2 : Hp} {h h1 h2 h' : Heap} {a x e : Addr} {o : HO}
theorem Un.any (u : Un fs ex H H1 h h1) {b : Addr} {ob : Obj} (q : h.get? b = some ob) (n : H b = none) (hx : b ∉ ex) : ∃ sl, h1.get? b = some { ob with slots := sl } := by
  by_cases hb : b ∈ fs
  · exact u.slot b ob q n hb hx
  · exact ⟨ob.slots, u.keep b ob q n hb hx⟩
theorem Un.kept (k : ∀ b u, h.get? b = some u → h'.get? b = some u) : Un fs ex H H h h' :=
  ⟨fun b ob q _ _ _ => k b ob q, fun b ob q _ _ _ => ⟨ob.slots, k b ob q⟩, fun _ _ _ n _ => n, fun b ob q _ => ⟨ob, k b ob q⟩, fun _ _ q => q, fun _ _ _ q => q, fun _ ps q => ⟨#[], by rw [q]; simp⟩⟩
theorem Un.refl : Un fs ex H H h h := Un.kept fun _ _ q => q
theorem Un.laid (k : ∀ b u, h.get? b = some u → h'.get? b = some u) (hp : h.objs.size ≤ a) (hn : H a = none) : Un fs ex H (upd H a o) h h' where
  keep := fun b u q _ _ _ => k b u q
  slot := fun b u q _ _ _ => ⟨u.slots, k b u q⟩
  free := fun b u q n _ => by rw [upd_ne (Nat.ne_of_lt (Nat.lt_of_lt_of_le (Heap.lt_size q) hp))]; exact n
  there := fun b u q _ => ⟨u, k b u q⟩
  tups := fun b xs q => by rw [upd_ne (ne_of_none q hn)]; exact q
  frzs := fun b u xs q => by rw [upd_ne (ne_of_none q hn)]; exact q
  tbls := fun b ps q => ⟨#[], by rw [upd_ne (ne_of_none q hn), q]; simp⟩
theorem Un.write (mu : Mut (H x)) (he : e = x ∨ H e = some (.own x)) (k : ∀ b u, b ≠ e → h.get? b = some u → h'.get? b = some u) (heo : ∃ u, h'.get? e = some u) : Un fs ex H (upd H x o) h h' := by
  have hx : ∀ b, H b = none → b ≠ x := fun b n z => by subst z; rw [n] at mu; exact mu
  have hb : ∀ b, H b = none → b ≠ e := fun b n z => by
    subst z
    rcases he with r | r
    · exact hx b n r
    · rw [n] at r; cases r
  have hm : ∀ b u, H b = some u → ¬ Mut (some u) → b ≠ x := fun b u q nm z => by subst z; rw [q] at mu; exact nm mu
  refine ⟨fun b u q n _ _ => k b u (hb b n) q, fun b u q n _ _ => ⟨u.slots, k b u (hb b n) q⟩, fun b u q n _ => by rw [upd_ne (hx b n)]; exact n, fun b u q _ => ?_,
    fun b xs q => by rw [upd_ne (hm b _ q fun z => z)]; exact q, fun b u xs q => by rw [upd_ne (hm b _ q fun z => z)]; exact q, fun b ps q => ⟨#[], by rw [upd_ne (hm b _ q fun z => z), q]; simp⟩⟩
  by_cases hbe : b = e
  · subst hbe; exact heo
  · exact ⟨u, k b u hbe q⟩
end

/-! ### the heap without what is tracked -/
def trk (h : Heap) (H : Hp) : List Addr := (List.range h.objs.size).filter fun a => (H a).isSome
def hidT (h : Heap) (H : Hp) : Heap := PySem.W.hideAll h (trk h H)
theorem hidT_size (h : Heap) (H : Hp) : (hidT h H).objs.size = h.objs.size := PySem.W.hideAll_size _ _
theorem hidT_get {h : Heap} {H : Hp} {b : Addr} {o : Obj} (e : h.get? b = some o) (n : H b = none) : (hidT h H).get? b = some o :=
  PySem.W.hideAll_get _ e fun hm => by
    have q : (H b).isSome = true := (List.mem_filter.mp hm).2
    rw [n] at q; simp at q
theorem of_hidT {h : Heap} {H : Hp} {b : Addr} {o : Obj} (e : (hidT h H).get? b = some o) : h.get? b = some o ∧ H b = none := by
  have e' : h.get? b = some o := PySem.W.of_hideAll (trk h H) e
  refine ⟨e', ?_⟩
  cases q : H b with
  | none => rfl
  | some x =>
    have hm : b ∈ trk h H := List.mem_filter.mpr ⟨List.mem_range.mpr (Heap.lt_size e'), by simp [q]⟩
    have z : (hidT h H).get? b = none := PySem.W.hideAll_none (trk h H) hm
    rw [z] at e; cases e

/-! ### OpenK's ledger, filled with every new object but one -/
end L2

namespace L2
open PySem PySem.Spec PyProof.Rows

/-- the module's facts, over the base: the heap at the law's entry without what is tracked there -/
structure Mod (K : PySem.W.Frag) (mg : Str → Option Value) (base : Heap) : Prop where
  kin : K.In base
  glob : base.Ns mainGlobals mg
  blt : ∃ mb, base.Ns builtinsNs mb ∧ ∀ x : Str, x ≠ "__name__" → mb x = bootBuiltins x
  nolimit : base.NoLimit

/-- the context: a def's body (or a comprehension's block) running. base: fixed through the whole law; s₀, H₀: the entry; outer: the frames whose slots others may change (a def's callers); stack: all frames that run;
   ex: iterators that were made ahead of the entry and are walked here (a comprehension's); fn: the names whose cells were made at the entry (a def: all; a comprehension's block: its own); calm: not within an except suite; pn: pins that every state bears; xe: what is wanted of an exception that leaves the code -/
structure Cx where
  prog : Program
  w : World
  K : PySem.W.Frag
  mg : Str → Option Value
  base : Heap
  A : Around
  N : List Str
  s₀ : Shared
  H₀ : Hp
  env : Env
  outer : List Env
  stack : List Env
  ex : List Addr
  fn : Str → Bool
  calm : Bool
  pn : List (Addr × Obj)
  xe : Value → Shared → Prop
/-- the callers' frames -/
def frs (l : List Env) : List Addr := l.filterMap (·.frame)
abbrev Cx.fs (X : Cx) : List Addr := frs X.outer

def Vis (sc : Scope) (x : Str) : Prop := sc.names.lookup x = some .local ∨ sc.names.lookup x = some .cell ∨ sc.names.lookup x = some .free
def Loc (sc : Scope) (x : Str) : Prop := sc.names.lookup x = some .local ∨ sc.names.lookup x = some .cell
def Look (env : Env) (h : Heap) (m : Str → Option Value) (x : Str) (u : Value) : Prop :=
  (env.kindOf x = some .local ∧ m x = some u) ∨ ((env.kindOf x = some .cell ∨ env.kindOf x = some .free) ∧ ∃ c, env.cells.lookup x = some c ∧ h.IsCell c (some u))

structure Cx.Ok (X : Cx) : Prop where
  mod : Mod X.K X.mg X.base
  kind : X.env.scope.kind = .function
  glob : X.env.globals = mainGlobals
  blt : X.env.builtins = builtinsNs
  above : X.s₀.heap.objs.size ≤ X.env.locals
  inj : ∀ x y c, X.env.cells.lookup x = some c → X.env.cells.lookup y = some c → x = y
  has : ∀ x, (X.env.kindOf x = some .cell ∨ X.env.kindOf x = some .free) → ∃ c, X.env.cells.lookup x = some c
  cab : ∀ x c, X.fn x = true → X.env.cells.lookup x = some c → X.s₀.heap.objs.size ≤ c
  hd : X.calm = true → X.A.handled = none
  frames : X.A.frames = some X.stack
  stk : X.stack = X.outer ∨ (X.stack = X.env :: X.outer ∧ X.env.frame = some X.env.locals)
  exf : ∀ b ∈ X.ex, b ≠ X.env.locals ∧ ∀ x c, X.env.cells.lookup x = some c → c ≠ b
  bs : ∀ b o, X.base.get? b = some o → X.s₀.heap.get? b = some o ∧ X.H₀ b = none
  bsz : X.base.objs.size ≤ X.s₀.heap.objs.size
  noex : ∀ b o, X.base.get? b = some o → b ∉ X.ex
  exfs : ∀ b ∈ X.ex, b ∉ X.fs
  funs : X.s₀.heap.FunFrames X.base X.outer
  frf : ∀ b ∈ X.fs, X.H₀ b = none

structure Inv (X : Cx) (pins : List (Addr × Obj)) (σ : List (Option V)) (H : Hp) (s : Shared) : Prop where
  ok : X.Ok
  os : s.os = X.s₀.os
  bare : AllBare s.gens
  base : Un X.fs X.ex X.H₀ H X.s₀.heap s.heap
  loc : ∃ m, s.heap.Ns X.env.locals m ∧ ∀ (i : Nat) (x : Str) (v : V), X.N[i]? = some x → σ[i]? = some (some v) → Vis X.env.scope x → ∃ u, RelV v u ∧ Look X.env s.heap m x u
  cell : ∀ x c, X.env.cells.lookup x = some c → ∃ v, s.heap.IsCell c v
  free : H X.env.locals = none
  freeC : ∀ x c, X.env.cells.lookup x = some c → H c = none
  pin : ∀ p ∈ X.pn ++ pins, s.heap.get? p.1 = some p.2 ∧ H p.1 = none ∧ p.1 ≠ X.env.locals ∧ p.1 ∉ X.fs ∧ ∀ v, p.2.data ≠ .cell v
  hok : HOk X.prog X.w H s.heap
  len : σ.length = X.N.length

section
variable {X : Cx} {pins : List (Addr × Obj)} {σ : List (Option V)} {H H' : Hp} {s : Shared} {h' : Heap}

theorem Cx.Ok.nofr (ok : X.Ok) {b : Addr} {o : Obj} (e : X.base.get? b = some o) : b ∉ X.fs := fun hb => by
  have := (ok.funs.mem hb).1
  rw [e] at this; cases this
theorem Inv.bs (I : Inv X pins σ H s) : ∀ b o, X.base.get? b = some o → s.heap.get? b = some o ∧ H b = none := fun b o e =>
  ⟨I.base.keep b o (I.ok.bs b o e).1 (I.ok.bs b o e).2 (I.ok.nofr e) (I.ok.noex b o e), I.base.free b o (I.ok.bs b o e).1 (I.ok.bs b o e).2 (I.ok.noex b o e)⟩
theorem Inv.bk (I : Inv X pins σ H s) : ∀ b o, X.base.get? b = some o → s.heap.get? b = some o := fun b o e => (I.bs b o e).1
theorem Inv.mod (I : Inv X pins σ H s) : Mod X.K X.mg X.base := I.ok.mod
theorem Inv.kIn (I : Inv X pins σ H s) : X.K.In s.heap := I.ok.mod.kin.keeps I.bk
theorem Inv.lt (I : Inv X pins σ H s) : X.env.locals < s.heap.objs.size := let ⟨_, hn, _⟩ := I.loc; hn.lt
theorem Inv.sz (I : Inv X pins σ H s) : X.s₀.heap.objs.size ≤ s.heap.objs.size := Nat.le_trans I.ok.above (Nat.le_of_lt I.lt)
theorem Inv.nofs (I : Inv X pins σ H s) {a : Addr} (h : s.heap.objs.size ≤ a) : a ∉ X.fs := fun hb => by
  obtain ⟨_, o, ho, _⟩ := I.ok.funs.mem hb
  exact absurd (Nat.lt_of_lt_of_le (Heap.lt_size ho) (Nat.le_trans I.sz h)) (Nat.lt_irrefl _)
theorem Inv.cne (I : Inv X pins σ H s) : ∀ x c, X.env.cells.lookup x = some c → c ≠ X.env.locals := fun x c e z => by
  obtain ⟨v, o, ho, hd⟩ := I.cell x c e
  obtain ⟨m, ⟨o', es, ep, ho', hd', _⟩, _⟩ := I.loc
  rw [z, ho'] at ho; cases ho; rw [hd'] at hd; cases hd
theorem Inv.funs (I : Inv X pins σ H s) : s.heap.FunFrames X.base X.outer := by
  have all : ∀ (l : List Env), (∀ b ∈ frs l, b ∈ X.fs) → X.s₀.heap.FunFrames X.base l → s.heap.FunFrames X.base l := by
    intro l
    induction l with
    | nil => intro _ _; trivial
    | cons env r ih =>
      intro hs hl
      obtain ⟨hk, ⟨L, o, hf, hn, ho, hd⟩, hr⟩ := hl
      have hL : L ∈ X.fs := hs L (by unfold frs; rw [List.filterMap_cons, hf]; exact List.mem_cons_self)
      obtain ⟨sl, e⟩ := I.base.slot L o ho (I.ok.frf L hL) hL fun z => I.ok.exfs L z hL
      exact ⟨hk, ⟨L, _, hf, hn, e, hd⟩, ih (fun b hb => hs b (by unfold frs; rw [List.filterMap_cons, hf]; exact List.mem_cons_of_mem _ hb)) hr⟩
  exact all X.outer (fun _ hb => hb) I.ok.funs

/-- the frames that run, for a call -/
theorem Inv.stack (I : Inv X pins σ H s) : s.heap.FunFrames X.base X.stack := by
  rcases I.ok.stk with e | ⟨e, hf⟩
  · rw [e]; exact I.funs
  · rw [e]
    obtain ⟨m, hn, _⟩ := I.loc
    refine .cons (by rw [I.ok.kind]; decide) hf hn ?_ I.funs
    exact Heap.get?_none_of_le (Nat.le_trans I.ok.bsz I.ok.above)
theorem Inv.stkSub (I : Inv X pins σ H s) : ∀ b ∈ frs X.stack, b ∈ X.env.locals :: X.fs := fun b hb => by
  rcases I.ok.stk with e | ⟨e, hf⟩
  · rw [e] at hb; exact List.mem_cons_of_mem _ hb
  · rw [e] at hb
    unfold frs at hb
    rw [List.filterMap_cons, hf] at hb
    exact hb
theorem Inv.stkFree (I : Inv X pins σ H s) : ∀ b ∈ frs X.stack, H b = none := fun b hb => by
  rcases List.mem_cons.mp (I.stkSub b hb) with e | hb
  · rw [e]; exact I.free
  · obtain ⟨_, o, ho, _⟩ := I.ok.funs.mem hb
    exact I.base.free b o ho (I.ok.frf b hb) fun z => I.ok.exfs b z hb

/-- THE STEP: the untracked objects but the frame and the records at ch are kept (the callers' frames up to slots), the frame's map is kept, the new abstract heap is held -/
theorem Inv.step {g' : Array GenState} {t' : Nat} {d' : Drawn} {ch : List Addr} (I : Inv X pins σ H s)
    (hch : ∀ b ∈ ch, (b ∈ X.ex ∨ X.s₀.heap.objs.size ≤ b) ∧ b ≠ X.env.locals ∧ (∀ x c, X.env.cells.lookup x = some c → c ≠ b) ∧ ∀ p ∈ X.pn ++ pins, p.1 ≠ b)
    (keep : ∀ b o, b ≠ X.env.locals → b ∉ X.fs → b ∉ ch → s.heap.get? b = some o → H b = none → h'.get? b = some o)
    (slot : ∀ b o, b ≠ X.env.locals → b ∈ X.fs → b ∉ ch → s.heap.get? b = some o → H b = none → ∃ sl, h'.get? b = some { o with slots := sl }) (free : ∀ b o, b ∉ ch → s.heap.get? b = some o → H b = none → H' b = none)
    (there : ∀ b o, b ∉ ch → s.heap.get? b = some o → ∃ o', h'.get? b = some o')
    (tups : ∀ b xs, H b = some (.tup xs) → H' b = some (.tup xs)) (frzs : ∀ b o u, H b = some (.frz o u) → H' b = some (.frz o u)) (tbls : ∀ b ps, H b = some (.tbl ps) → ∃ more, H' b = some (.tbl (ps ++ more)))
    (ns : ∀ m, s.heap.Ns X.env.locals m → h'.Ns X.env.locals m) (hok : HOk X.prog X.w H' h') (hg : AllBare g') :
    Inv X pins σ H' { s with heap := h', gens := g', drawn := d', toks := t' } := by
  have neL : ∀ b o, X.s₀.heap.get? b = some o → b ≠ X.env.locals := fun b o e => Nat.ne_of_lt (Nat.lt_of_lt_of_le (Heap.lt_size e) I.ok.above)
  have neC : ∀ b o, X.s₀.heap.get? b = some o → b ∉ X.ex → b ∉ ch := fun b o e hx hb => by
    rcases (hch b hb).1 with z | z
    · exact hx z
    · exact absurd (Nat.lt_of_lt_of_le (Heap.lt_size e) z) (Nat.lt_irrefl _)
  have cellK : ∀ x c, X.env.cells.lookup x = some c → ∀ v, s.heap.IsCell c v → h'.IsCell c v := fun x c e v ⟨o, ho, hd⟩ => by
    have nch : c ∉ ch := fun z => (hch c z).2.2.1 x c e rfl
    by_cases hc : c ∈ X.fs
    · obtain ⟨sl, q⟩ := slot c o (I.cne x c e) hc nch ho (I.freeC x c e)
      exact ⟨_, q, hd⟩
    · exact ⟨o, keep c o (I.cne x c e) hc nch ho (I.freeC x c e), hd⟩
  refine ⟨I.ok, I.os, hg, ⟨fun b o e n hb hx => ?_, fun b o e n hb hx => ?_, fun b o e n hx => ?_, fun b o e hx => ?_, fun b xs e => tups b xs (I.base.tups b xs e), fun b o xs e => frzs b o xs (I.base.frzs b o xs e), fun b ps e => ?_⟩, ?_, fun x c e => ?_, ?_, fun x c e => ?_, fun p hp => ?_, hok, I.len⟩
  · exact keep b o (neL b o e) hb (neC b o e hx) (I.base.keep b o e n hb hx) (I.base.free b o e n hx)
  · obtain ⟨sl, e1⟩ := I.base.slot b o e n hb hx
    obtain ⟨sl', e2⟩ := slot b _ (neL b o e) hb (neC b o e hx) e1 (I.base.free b o e n hx)
    exact ⟨sl', e2⟩
  · obtain ⟨o', e1⟩ := I.base.there b o e hx
    exact free b o' (neC b o e hx) e1 (I.base.free b o e n hx)
  · obtain ⟨o', e1⟩ := I.base.there b o e hx
    exact there b o' (neC b o e hx) e1
  · obtain ⟨m1, e1⟩ := I.base.tbls b ps e
    obtain ⟨m2, e2⟩ := tbls b _ e1
    exact ⟨m1 ++ m2, by rw [e2, Array.append_assoc]⟩
  · obtain ⟨m, hn, hl⟩ := I.loc
    refine ⟨m, ns m hn, fun i x v e1 e2 e3 => ?_⟩
    obtain ⟨u, r, l⟩ := hl i x v e1 e2 e3
    refine ⟨u, r, ?_⟩
    rcases l with l | ⟨k, c, e, z⟩
    · exact .inl l
    · exact .inr ⟨k, c, e, cellK x c e _ z⟩
  · obtain ⟨v, z⟩ := I.cell x c e
    exact ⟨v, cellK x c e v z⟩
  · obtain ⟨m, ⟨o, _, _, ho, _⟩, _⟩ := I.loc
    exact free _ o (fun z => (hch _ z).2.1 rfl) ho I.free
  · obtain ⟨v, o, ho, hd⟩ := I.cell x c e
    exact free c o (fun z => (hch c z).2.2.1 x c e rfl) ho (I.freeC x c e)
  · obtain ⟨e, n, ne, nf, d⟩ := I.pin p hp
    have nch : p.1 ∉ ch := fun z => (hch p.1 z).2.2.2 p hp rfl
    exact ⟨keep p.1 p.2 ne nf nch e n, free p.1 p.2 nch e n, ne, nf, d⟩
/-- .. where the frame's own object is kept too -/
theorem Inv.un {t' : Nat} (I : Inv X pins σ H s) (u : Un X.fs [] H H' s.heap h') (hok : HOk X.prog X.w H' h') : Inv X pins σ H' { s with heap := h', toks := t' } := by
  obtain ⟨m, ⟨o, es, ep, ho, r⟩, _⟩ := id I.loc
  obtain ⟨sl, hL⟩ := u.any ho I.free (by simp)
  exact I.step (g' := s.gens) (d' := s.drawn) (ch := []) (fun _ z => nomatch z) (fun b o _ hb _ e n => u.keep b o e n hb (by simp)) (fun b o _ hb _ e n => u.slot b o e n hb (by simp)) (fun b o _ e n => u.free b o e n (by simp)) (fun b o _ e => u.there b o e (by simp)) u.tups u.frzs u.tbls (fun m' hm => by
    obtain ⟨o', es', ep', ho', r'⟩ := hm
    rw [ho] at ho'; cases ho'
    exact ⟨_, es', ep', hL, r'⟩) hok I.bare
/-- behind a call (or a comprehension's block): the slots of this frame may have changed too, the records at ch may have turned -/
theorem Inv.call {g' : Array GenState} {t' : Nat} {d' : Drawn} {ch : List Addr} (I : Inv X pins σ H s) (u : Un (frs X.stack) ch H H' s.heap h') (hok : HOk X.prog X.w H' h') (hg : AllBare g')
    (hch : ∀ b ∈ ch, (b ∈ X.ex ∨ X.s₀.heap.objs.size ≤ b) ∧ b ≠ X.env.locals ∧ (∀ x c, X.env.cells.lookup x = some c → c ≠ b) ∧ ∀ p ∈ X.pn ++ pins, p.1 ≠ b) :
    Inv X pins σ H' { s with heap := h', gens := g', drawn := d', toks := t' } := by
  obtain ⟨m, ⟨o, es, ep, ho, r⟩, _⟩ := id I.loc
  obtain ⟨sl, hL⟩ := u.any ho I.free fun z => (hch _ z).2.1 rfl
  exact I.step (ch := ch) hch (fun b o hL hb hc e n => u.keep b o e n (fun z => (List.mem_cons.mp (I.stkSub b z)).elim hL hb) hc) (fun b o _ _ hc e n => u.any e n hc) (fun b o hc e n => u.free b o e n hc) (fun b o hc e => u.there b o e hc) u.tups u.frzs u.tbls (fun m' hm => by
    obtain ⟨o', es', ep', ho', r'⟩ := hm
    rw [ho] at ho'; cases ho'
    exact ⟨_, es', ep', hL, r'⟩) hok hg
/-- an untracked record of ours (an iterator) has turned -/
theorem Inv.turned {t' : Nat} {it : Addr} (I : Inv X pins σ H s) (k : ∀ b o, b ≠ it → s.heap.get? b = some o → h'.get? b = some o) (hn : H it = none) (hL : it ≠ X.env.locals)
    (h1 : it ∈ X.ex ∨ X.s₀.heap.objs.size ≤ it) (h2 : ∀ x c, X.env.cells.lookup x = some c → c ≠ it) (h3 : ∀ p ∈ X.pn ++ pins, p.1 ≠ it) : Inv X pins σ H { s with heap := h', toks := t' } := by
  have nit : ∀ b u, H b = some u → b ≠ it := fun b u e z => by rw [z, hn] at e; cases e
  refine I.step (g' := s.gens) (d' := s.drawn) (ch := [it]) (fun b hb => ?_) (fun b o _ _ hc e _ => k b o (fun z => hc (by simp [z])) e) (fun b o _ _ hc e _ => ⟨o.slots, k b o (fun z => hc (by simp [z])) e⟩) (fun _ _ _ _ n => n)
    (fun b o hc e => ⟨o, k b o (fun z => hc (by simp [z])) e⟩) (fun _ _ e => e) (fun _ _ _ e => e) (fun b ps e => ⟨#[], by rw [e]; simp⟩) (fun m hm => ?_) (fun b u e => ?_) I.bare
  · have e : b = it := by simpa using hb
    subst e
    exact ⟨h1, hL, h2, h3⟩
  · obtain ⟨o, es, ep, ho, r⟩ := hm
    exact ⟨o, es, ep, k _ o (Ne.symm hL) ho, r⟩
  · refine (I.hok b u e).stay (fun c v hc q => k c v ?_ q) (fun _ q => q) fun _ _ q => q
    rcases hc with z | z
    · rw [z]; exact nit b u e
    · exact nit c _ z
theorem Inv.tok (I : Inv X pins σ H s) (t : Nat) : Inv X pins σ H { s with toks := t } := I.un (h' := s.heap) (t' := t) Un.refl I.hok
/-- all objects kept -/
theorem Inv.kept {t' : Nat} (I : Inv X pins σ H s) (k : ∀ b u, s.heap.get? b = some u → h'.get? b = some u) : Inv X pins σ H { s with heap := h', toks := t' } := I.un (Un.kept k) (I.hok.kept k)
/-- a new object laid and tracked -/
theorem Inv.laid {a : Addr} {o : HO} {t' : Nat} (I : Inv X pins σ H s) (k : ∀ b u, s.heap.get? b = some u → h'.get? b = some u) (hp : s.heap.objs.size ≤ a) (new : ObjOk X.prog X.w (upd H a o) h' a o) :
    Inv X pins σ (upd H a o) { s with heap := h', toks := t' } := I.un (Un.laid k hp (I.hok.fresh hp)) (I.hok.laid k hp new)
/-- an object written -/
theorem Inv.write {x e : Addr} {o : HO} {t' : Nat} (I : Inv X pins σ H s) (mu : Mut (H x)) (he : e = x ∨ H e = some (.own x)) (k : ∀ b u, b ≠ e → s.heap.get? b = some u → h'.get? b = some u) (heo : ∃ u, h'.get? e = some u)
    (new : ObjOk X.prog X.w (upd H x o) h' x o) : Inv X pins σ (upd H x o) { s with heap := h', toks := t' } := I.un (Un.write mu he k heo) (I.hok.write mu he k heo new)
theorem Inv.pins_of {pins' : List (Addr × Obj)} (I : Inv X pins σ H s) (h : ∀ p ∈ pins', s.heap.get? p.1 = some p.2 ∧ H p.1 = none ∧ p.1 ≠ X.env.locals ∧ p.1 ∉ X.fs ∧ ∀ v, p.2.data ≠ .cell v) : Inv X pins' σ H s :=
  ⟨I.ok, I.os, I.bare, I.base, I.loc, I.cell, I.free, I.freeC, fun p hp => (List.mem_append.mp hp).elim (fun z => I.pin p (List.mem_append_left _ z)) (h p), I.hok, I.len⟩

theorem nodup_ix {N : List Str} (hN : N.Nodup) {i j : Nat} {x : Str} (a : N[i]? = some x) (b : N[j]? = some x) : i = j := by
  obtain ⟨h1, e1⟩ := List.getElem?_eq_some_iff.mp a
  obtain ⟨h2, e2⟩ := List.getElem?_eq_some_iff.mp b
  exact (List.getElem_inj hN).mp (e1.trans e2.symm)

/-- a name is stored; what changed -/
theorem store_ok2 {M : Model} {A : Around} {E : Value → Shared → Prop} {i : Nat} {x : Str} {v : V} {u : Value} {Q : Unit → Shared → Prop} (I : Inv X pins σ H s) (hN : X.N.Nodup) (hi : X.N[i]? = some x) (hx : Loc X.env.scope x) (r : RelV v u)
    (h : ∀ s', Inv X pins (σ.set i (some v)) H s' → (∃ a, Heap.SameBut a s.heap s'.heap ∧ (a = X.env.locals ∨ X.env.cells.lookup x = some a)) → Q () s') (hf : X.fn x = true ∨ X.env.scope.names.lookup x = some .local := by first | exact .inl rfl | exact .inr rfl | assumption) : wpAny M A (storeName X.env x u) Q E s := by
  obtain ⟨m, hn, hl⟩ := id I.loc
  have hcls : (X.env.scope.kind == .class || (X.env.scope.kind == .module && X.env.locals != X.env.globals)) = false := by rw [I.ok.kind]; rfl
  have hiσ : i < σ.length := by rw [I.len]; exact (List.getElem?_eq_some_iff.mp hi).1
  have cne := I.cne
  have tracked : ∀ {a : Addr} {h' : Heap}, (∃ o, s.heap.get? a = some o ∧ H a = none) → Heap.SameBut a s.heap h' → HOk X.prog X.w H h' := fun {a h'} ha hs b ob e => by
    obtain ⟨_, _, hfree⟩ := ha
    refine (I.hok b ob e).stay (fun c w' hc q => (hs.2 c ?_).trans q) (fun _ q => q) fun _ _ q => q
    rintro rfl
    rcases hc with rfl | hc
    · rw [hfree] at e; cases e
    · rw [hfree] at hc; cases hc
  rcases hx with hk | hk
  · refine wpAny_storeName_local hk hn (fun h' hn' hs => ?_) hcls
    obtain ⟨oL, _, _, hoL, _⟩ := id hn
    refine h _ ⟨I.ok, I.os, I.bare, ⟨fun b o e n hb hx => ?_, fun b o e n hb hx => ?_, I.base.free, fun b o e hx => ?_, I.base.tups, I.base.frzs, I.base.tbls⟩, ⟨_, hn', fun j y v' e1 e2 e3 => ?_⟩, fun y c e => ?_, I.free, I.freeC, fun p hp => ?_, tracked ⟨oL, hoL, I.free⟩ hs, by simpa using I.len⟩ ⟨_, hs, .inl rfl⟩
    · exact (hs.2 b (Nat.ne_of_lt (Nat.lt_of_lt_of_le (Heap.lt_size e) I.ok.above))).trans (I.base.keep b o e n hb hx)
    · obtain ⟨sl, e1⟩ := I.base.slot b o e n hb hx
      exact ⟨sl, (hs.2 b (Nat.ne_of_lt (Nat.lt_of_lt_of_le (Heap.lt_size e) I.ok.above))).trans e1⟩
    · obtain ⟨o', e1⟩ := I.base.there b o e hx
      exact ⟨o', (hs.2 b (Nat.ne_of_lt (Nat.lt_of_lt_of_le (Heap.lt_size e) I.ok.above))).trans e1⟩
    · by_cases hj : j = i
      · subst hj
        rw [hi] at e1; cases e1
        rw [List.getElem?_set_self hiσ] at e2
        cases e2
        exact ⟨u, r, .inl ⟨hk, by simp⟩⟩
      · rw [List.getElem?_set_ne (Ne.symm hj)] at e2
        obtain ⟨u', r', q⟩ := hl j y v' e1 e2 e3
        refine ⟨u', r', ?_⟩
        rcases q with ⟨k, e⟩ | ⟨k, c, e, z⟩
        · refine .inl ⟨k, ?_⟩
          have : y ≠ x := fun e => hj (nodup_ix hN e1 (e ▸ hi))
          simp [this, e]
        · exact .inr ⟨k, c, e, z.sameBut hs (cne y c e)⟩
    · obtain ⟨w', z⟩ := I.cell y c e
      exact ⟨w', z.sameBut hs (cne y c e)⟩
    · obtain ⟨e, n, ne, nf, d⟩ := I.pin p hp
      exact ⟨(hs.2 p.1 ne).trans e, n, ne, nf, d⟩
  · have hfn : X.fn x = true := by
      rcases hf with z | z
      · exact z
      · rw [z] at hk; cases hk
    obtain ⟨c, hc⟩ := I.ok.has x (.inl hk)
    obtain ⟨w', z⟩ := I.cell x c hc
    refine wpAny_storeName_cell I.ok.kind hk hc z (fun h' hc' hs => ?_)
    obtain ⟨oc, hoc, hocd⟩ := id z
    refine h { s with heap := h' } ⟨I.ok, I.os, I.bare, ⟨fun b o e n hb hx => ?_, fun b o e n hb hx => ?_, I.base.free, fun b o e hx => ?_, I.base.tups, I.base.frzs, I.base.tbls⟩, ⟨m, hn.sameBut hs (Ne.symm (cne x c hc)), fun j y v' e1 e2 e3 => ?_⟩, fun y c' e => ?_, I.free, I.freeC, fun p hp => ?_, tracked ⟨oc, hoc, I.freeC x c hc⟩ hs, by simpa using I.len⟩ ⟨c, hs, .inr hc⟩
    · exact (hs.2 b (Nat.ne_of_lt (Nat.lt_of_lt_of_le (Heap.lt_size e) (I.ok.cab x c hfn hc)))).trans (I.base.keep b o e n hb hx)
    · obtain ⟨sl, e1⟩ := I.base.slot b o e n hb hx
      exact ⟨sl, (hs.2 b (Nat.ne_of_lt (Nat.lt_of_lt_of_le (Heap.lt_size e) (I.ok.cab x c hfn hc)))).trans e1⟩
    · obtain ⟨o', e1⟩ := I.base.there b o e hx
      exact ⟨o', (hs.2 b (Nat.ne_of_lt (Nat.lt_of_lt_of_le (Heap.lt_size e) (I.ok.cab x c hfn hc)))).trans e1⟩
    · by_cases hj : j = i
      · subst hj
        rw [hi] at e1; cases e1
        rw [List.getElem?_set_self hiσ] at e2
        cases e2
        exact ⟨u, r, .inr ⟨.inl hk, c, hc, hc'⟩⟩
      · rw [List.getElem?_set_ne (Ne.symm hj)] at e2
        obtain ⟨u', r', q⟩ := hl j y v' e1 e2 e3
        refine ⟨u', r', ?_⟩
        rcases q with q | ⟨k, c', e, z'⟩
        · exact .inl q
        · refine .inr ⟨k, c', e, z'.sameBut hs ?_⟩
          rintro rfl
          exact hj (nodup_ix hN e1 (I.ok.inj _ _ _ e hc ▸ hi))
    · by_cases hcc : c' = c
      · subst hcc; exact ⟨_, hc'⟩
      · obtain ⟨w2, z2⟩ := I.cell y c' e
        exact ⟨w2, z2.sameBut hs hcc⟩
    · obtain ⟨e, n, ne, nf, d⟩ := I.pin p hp
      refine ⟨(hs.2 p.1 ?_).trans e, n, ne, nf, d⟩
      intro q
      rw [q, hoc] at e
      have q' : oc = p.2 := Option.some.inj e
      exact d w' (by rw [← q']; exact hocd)
theorem store_ok {M : Model} {A : Around} {E : Value → Shared → Prop} {i : Nat} {x : Str} {v : V} {u : Value} {Q : Unit → Shared → Prop} (I : Inv X pins σ H s) (hN : X.N.Nodup) (hi : X.N[i]? = some x) (hx : Loc X.env.scope x) (r : RelV v u)
    (h : ∀ s', Inv X pins (σ.set i (some v)) H s' → Q () s') (hf : X.fn x = true ∨ X.env.scope.names.lookup x = some .local := by first | exact .inl rfl | exact .inr rfl | assumption) : wpAny M A (storeName X.env x u) Q E s :=
  store_ok2 I hN hi hx r (fun s' I' _ => h s' I') hf
/-- behind a call or a block, the state as it is -/
theorem Inv.call' {s' : Shared} {ch : List Addr} (I : Inv X pins σ H s) (ho : s'.os = s.os) (u : Un (frs X.stack) ch H H' s.heap s'.heap) (hok : HOk X.prog X.w H' s'.heap) (hg : AllBare s'.gens)
    (hch : ∀ b ∈ ch, (b ∈ X.ex ∨ X.s₀.heap.objs.size ≤ b) ∧ b ≠ X.env.locals ∧ (∀ x c, X.env.cells.lookup x = some c → c ≠ b) ∧ ∀ p ∈ X.pn ++ pins, p.1 ≠ b) : Inv X pins σ H' s' := by
  obtain ⟨h', g', d', t', o'⟩ := s'
  have e : o' = s.os := ho
  subst e
  exact I.call (g' := g') (t' := t') (d' := d') u hok hg hch
end

/-! ### the judgements -/
/-- an exception: its class, its own dict's address (where it has one), the abstract heap behind it -/
abbrev XK := Value → Option Addr → Hp → Prop
abbrev St := List (Option V)
abbrev VK := V → Hp → Prop
/-- an expression's reading; a test's; an argument list's -/
abbrev TE := St → Hp → VK → Prop
abbrev TT := St → Hp → (Bool → Hp → Prop) → Prop
abbrev TA := St → Hp → (List V → Hp → Prop) → Prop
/-- what is wanted behind a statement -/
structure Ends where
  nx : St → Hp → Prop
  rt : VK
  bk : St → Hp → Prop := fun _ _ => False
  ct : St → Hp → Prop := fun _ _ => False
abbrev TS := Ends → St → Hp → Prop

def EP (X : Cx) (pins : List (Addr × Obj)) (σ : St) (Q : VK) (u : Value) (s' : Shared) : Prop := ∃ v H', Inv X pins σ H' s' ∧ RelV v u ∧ Q v H'
def TP (X : Cx) (pins : List (Addr × Obj)) (σ : St) (Q : Bool → Hp → Prop) (b : Bool) (s' : Shared) : Prop := ∃ H', Inv X pins σ H' s' ∧ Q b H'
def AP (X : Cx) (pins : List (Addr × Obj)) (σ : St) (Q : List V → Hp → Prop) (us : List Value) (s' : Shared) : Prop := ∃ vs H', Inv X pins σ H' s' ∧ Vals vs us ∧ Q vs H'
def SP (X : Cx) (pins : List (Addr × Obj)) (D : Ends) (f : Flow) (s' : Shared) : Prop :=
  match f with
  | .next => ∃ σ' H', Inv X pins σ' H' s' ∧ D.nx σ' H'
  | .brk => ∃ σ' H', Inv X pins σ' H' s' ∧ D.bk σ' H'
  | .cont => ∃ σ' H', Inv X pins σ' H' s' ∧ D.ct σ' H'
  | .ret u => ∃ v σ' H', Inv X pins σ' H' s' ∧ RelV v u ∧ D.rt v H'

def PE (X : Cx) (e : Expr) (t : TE) : Prop :=
  ∀ (pins : List (Addr × Obj)) (s : Shared) (σ : St) (H : Hp) (Q : VK), Inv X pins σ H s → t σ H Q → wpAny (model X.prog X.w) X.A (eval e X.env) (EP X pins σ Q) X.xe s
def PT (X : Cx) (e : Expr) (t : TT) : Prop :=
  ∀ (pins : List (Addr × Obj)) (s : Shared) (σ : St) (H : Hp) (Q : Bool → Hp → Prop), Inv X pins σ H s → t σ H Q → wpAny (model X.prog X.w) X.A (isTrue e X.env (eval e X.env)) (TP X pins σ Q) X.xe s
/-- an argument list (no star), from the left -/
def PA (X : Cx) (es : List Expr) (t : TA) : Prop :=
  ∀ (pos : Pos) (pins : List (Addr × Obj)) (s : Shared) (σ : St) (H : Hp) (Q : List V → Hp → Prop), Inv X pins σ H s → t σ H Q → wpAny (model X.prog X.w) X.A (spliced (backTo pos (starEach es X.env))) (AP X pins σ Q) X.xe s
def PS (X : Cx) (st : Stmt) (t : TS) : Prop :=
  ∀ (pins : List (Addr × Obj)) (s : Shared) (σ : St) (H : Hp) (D : Ends), Inv X pins σ H s → t D σ H → wpAny (model X.prog X.w) X.A (exec st X.env) (SP X pins D) X.xe s
def PSs (X : Cx) (st : List Stmt) (t : TS) : Prop :=
  ∀ (pins : List (Addr × Obj)) (s : Shared) (σ : St) (H : Hp) (D : Ends), Inv X pins σ H s → t D σ H → wpAny (model X.prog X.w) X.A (execs st X.env) (SP X pins D) X.xe s
/-- weaken the end -/
theorem thn {α : Type} {t : Sem α} {Q Q' : α → Shared → Prop} {M : Model} {A : Around} {E : Value → Shared → Prop} {s : Shared} (h : wpAny M A t Q E s) (hQ : ∀ a s, Q a s → Q' a s) : wpAny M A t Q' E s := wpAny_mono h hQ fun _ _ x => x
end L2

namespace L2
open PySem PySem.Spec PyProof.Rows
section
variable {X : Cx}


/-! ### names and constants -/
def tVar (i : Nat) : TE := fun σ H Q => ∃ v, σ[i]? = some (some v) ∧ Q v H
def tC (v : V) : TE := fun _ H Q => Q v H
theorem pe_var {i : Nat} {x : Str} {pos : Pos} (hN : X.N[i]? = some x) (hv : Vis X.env.scope x) (hd : (x == ("__debug__" : Str)) = false := by decide) (hcd : (x == ("__classdict__" : Str)) = false := by decide) : PE X (.Name x pos) (tVar i) := by
  intro pins s σ H Q I h
  obtain ⟨v, e, h⟩ := h
  obtain ⟨m, hn, hl⟩ := I.loc
  obtain ⟨u, r, l⟩ := hl i x v hN e hv
  have fin : EP X pins σ Q u s := ⟨v, H, I, r, h⟩
  rcases l with ⟨hk, hm⟩ | ⟨hk, c, hc, hcell⟩
  · exact wpAny_Name (wpAny_loadName_local I.ok.kind hk hn hm fin) hd
  · rcases hk with hk | hk
    · exact wpAny_Name (wpAny_loadName_cell I.ok.kind hk hc hcell fin) hd
    · exact wpAny_Name (wpAny_loadName_free I.ok.kind hk hc hcell fin hcd) hd
theorem pe_int {i j pos} : PE X (.Constant (.int i) j pos) (tC (.int i)) := fun _ _ _ H _ I h => wpAny_Constant_int ⟨.int i, H, I.tok _, ⟨_, rfl⟩, h⟩
theorem pe_bl {b j pos} : PE X (.Constant (.bool b) j pos) (tC (.bl b)) := fun _ _ _ H _ I h => Constant_bool ⟨.bl b, H, I, rfl, h⟩
theorem pe_non {j pos} : PE X (.Constant .none j pos) (tC .non) := fun _ _ _ H _ I h => Constant_none ⟨.non, H, I, rfl, h⟩
theorem pe_str {x j pos} : PE X (.Constant (.str x) j pos) (tC (.str x)) := fun _ _ _ H _ I h => Calls.Constant_str ⟨.str x, H, I.tok _, ⟨_, rfl⟩, h⟩

/-- a global name of the def -/
def Gl (X : Cx) (x : Str) : Prop := X.env.kindOf x = some .globalImplicit
theorem ld_glob {E : Value → Shared → Prop} {pins : List (Addr × Obj)} {s : Shared} {σ : St} {H : Hp} {x : Str} {u : Value} {pos : Pos} {Q : Value → Shared → Prop} (I : Inv X pins σ H s) (hg : Gl X x) (hm : X.mg x = some u) (h : Q u s)
    (hd : (x == ("__debug__" : Str)) = false := by decide) : wpAny (model X.prog X.w) X.A (eval (.Name x pos) X.env) Q E s :=
  Calls.Name_function_global I.ok.kind hg (Calls.loadGlobal_global (by rw [I.ok.glob]; exact I.mod.glob.keeps I.bk) hm h) hd
theorem ld_blt {E : Value → Shared → Prop} {pins : List (Addr × Obj)} {s : Shared} {σ : St} {H : Hp} {x : Str} {u : Value} {pos : Pos} {Q : Value → Shared → Prop} (I : Inv X pins σ H s) (hg : Gl X x) (hm : X.mg x = none) (hv : bootBuiltins x = some u) (h : Q u s)
    (hn : x ≠ "__name__" := by decide) (hd : (x == ("__debug__" : Str)) = false := by decide) : wpAny (model X.prog X.w) X.A (eval (.Name x pos) X.env) Q E s := by
  obtain ⟨mb, h1, h2⟩ := I.mod.blt
  exact Calls.Name_function_global I.ok.kind hg (Calls.loadGlobal_builtin (by rw [I.ok.glob]; exact I.mod.glob.keeps I.bk) hm (by rw [I.ok.blt]; exact h1.keeps I.bk) ((h2 x hn).trans hv) h) hd
/-- a module's constant, a class, a function, as a value -/
theorem pe_glob {x : Str} {v : V} {u : Value} {pos : Pos} (hg : Gl X x) (hm : X.mg x = some u) (r : RelV v u) (hd : (x == ("__debug__" : Str)) = false := by decide) : PE X (.Name x pos) (tC v) :=
  fun _ _ _ H _ I h => ld_glob I hg hm ⟨v, H, I, r, h⟩ hd

/-! ### arithmetic -/
variable {a b : Expr} {ta tb : TE} {pos : Pos}

/-! ### comparisons -/
def PC (X : Cx) (op : CmpOp) (a b : Expr) (t : TE) : Prop :=
  ∀ (pins : List (Addr × Obj)) (s : Shared) (σ : St) (H : Hp) (Q : VK), Inv X pins σ H s → t σ H Q →
    wpAny (model X.prog X.w) X.A (eval a X.env) (fun v s₁ => wpAny (model X.prog X.w) X.A (eval b X.env) (fun u s₂ => wpAny (model X.prog X.w) X.A (compareOp op v u) (EP X pins σ Q) X.xe s₂) X.xe s₁) X.xe s
/-- a comparison as a value, as a test -/
def tB (t : TE) : TT := fun σ H Q => t σ H fun x H1 => ∃ c, x = .bl c ∧ Q c H1
theorem pe_cmp {op : CmpOp} {t : TE} (h : PC X op a b t) (h1 : behindInMarks op b = false := by first | exact nobehind _ (by decide) (by decide) | rfl) : PE X (.Compare a [op] [b] pos) t := fun pins s σ H Q I hw => wpAny_Compare1 (h pins s σ H Q I hw) h1
theorem pt_cmp {op : CmpOp} {t : TE} (h : PC X op a b t) (h1 : behindInMarks op b = false := by first | exact nobehind _ (by decide) (by decide) | rfl) : PT X (.Compare a [op] [b] pos) (tB t) := by
  intro pins s σ H Q I hw
  refine wpAny_isTrue_Compare1 (thn (h pins s σ H _ I hw) fun v s1 h1 => thn h1 fun u s2 h2 => thn h2 fun c s3 ⟨x, H1, I1, r1, q1⟩ => ?_) h1
  obtain ⟨d, rfl, q⟩ := q1
  cases r1
  exact wpAny_truthy_bool ⟨H1, I1, q⟩
/-- an expression whose value is a bool, as a test -/
theorem pt_val {e : Expr} {t : TE} (h : PE X e t) (he : ∀ whole, isTrue e X.env whole = (do let v ← whole; standAt e.pos; holding [v] (truthy v)) := by intro _; rfl) : PT X e (tB t) := by
  intro pins s σ H Q I hw
  refine isTrue_plain (thn (h pins s σ H _ I hw) fun v s1 ⟨x, H1, I1, r1, q1⟩ => ?_) (he _)
  obtain ⟨d, rfl, q⟩ := q1
  cases r1
  exact wpAny_truthy_bool ⟨H1, I1, q⟩

/-! ### and, or, not -/
variable {tA tB' : TT} {rest : List Expr}
/-- .. as values (bools) -/
def tAndV (ta tb : TE) : TE := fun σ H Q => ta σ H fun x H1 => ∃ c, x = .bl c ∧ if c = true then tb σ H1 Q else Q (.bl false) H1
theorem pe_one {op} {t : TE} (h : PE X a t) : PE X (.BoolOp op [a] pos) t := fun pins s σ H Q I hw => BoolOp_one (h pins s σ H Q I hw)
theorem pe_and (ha : PE X a ta) (hb : PE X (.BoolOp .And (b :: rest) pos) tb) : PE X (.BoolOp .And (a :: b :: rest) pos) (tAndV ta tb) := by
  intro pins s σ H Q I h
  refine BoolOp_and (thn (ha pins s σ H _ I h) fun v s1 ⟨x, H1, I1, r1, q1⟩ => ?_)
  obtain ⟨c, rfl, q1⟩ := q1
  cases r1
  refine wpAny_truthy_bool ?_
  cases c with
  | true => exact hb pins s1 σ H1 Q I1 q1
  | false => exact ⟨.bl false, H1, I1, rfl, q1⟩
end
end L2

namespace L2
open PySem PySem.Spec PyProof.Rows

/-! ### a list, a tuple that is read: tracked, frozen, or an object of the module -/
def SqL (K : PySem.W.Frag) (H : Hp) (a : Addr) (xs : List V) : Prop :=
  Rd H a (.lst xs) ∨
    ∃ (o : Obj) (its : Array Value) (n : Nat), K.lookup a = some o ∧ o.cls = .type "list" ∧ o.dict = none ∧ o.data = .seq its n ∧ its.size ≤ sizeLine ∧ Vals xs its.toList
def SqT (K : PySem.W.Frag) (H : Hp) (a : Addr) (xs : List V) : Prop :=
  Rd H a (.tup xs) ∨
    ∃ (o : Obj) (its : Array Value) (n : Nat), K.lookup a = some o ∧ o.cls = .type "tuple" ∧ o.data = .seq its n ∧ its.size ≤ sizeLine ∧ Vals xs its.toList
def absV : Value → Option V
  | .none => some .non
  | .bool b => some (.bl b)
  | .int i _ => some (.int i)
  | .str x _ => some (.str x)
  | .bytes b _ => some (.byt b)
  | .float b _ => some (.flt b)
  | .ref a => some (.ref a)
  | .type n => some (.ty n)
  | _ => none
theorem RelV.abs {x : V} {u : Value} (r : RelV x u) : absV u = some x := by
  cases x with
  | non => cases r; rfl
  | bl _ => cases r; rfl
  | int _ => obtain ⟨t, rfl⟩ := r; rfl
  | str _ => obtain ⟨t, rfl⟩ := r; rfl
  | byt _ => obtain ⟨t, rfl⟩ := r; rfl
  | flt _ => obtain ⟨t, rfl⟩ := r; rfl
  | ref _ => cases r; rfl
  | ty _ => cases r; rfl
theorem RelV.inj {x y : V} {u : Value} (r : RelV x u) (q : RelV y u) : x = y := Option.some.inj (r.abs.symm.trans q.abs)
theorem Vals.inj : ∀ {xs ys : List V} {us : List Value}, Vals xs us → Vals ys us → xs = ys
  | _, _, _, .nil, .nil => rfl
  | _, _, _, .cons r t, .cons r' t' => by rw [r.inj r', Vals.inj t t']
section
variable {X : Cx} {pins : List (Addr × Obj)} {σ : St} {H : Hp} {s : Shared} {a : Addr} {xs ys : List V}
theorem SqL.of {K : PySem.W.Frag} (h : H a = some (.lst xs)) : SqL K H a xs := .inl (.inl h)
theorem SqT.of {K : PySem.W.Frag} (h : H a = some (.tup xs)) : SqT K H a xs := .inl (.inl h)
theorem Inv.list (I : Inv X pins σ H s) (h : SqL X.K H a xs) : ∃ its : List Value, Vals xs its ∧ PlainL s.heap a its.toArray ∧ xs.length ≤ sizeLine := by
  rcases h with h | ⟨o, its, n, hk, hc, hd, hs, hz, r⟩
  · obtain ⟨z, its, n, r, e⟩ := h.ok I.hok
    exact ⟨its, r, ⟨_, n, e, rfl, rfl, rfl⟩, z⟩
  · refine ⟨its.toList, r, ⟨o, n, I.kIn a o hk, hc, hd, by simpa using hs⟩, ?_⟩
    have e := r.length
    simp only [Array.length_toList] at e
    omega
theorem Inv.tuple (I : Inv X pins σ H s) (h : SqT X.K H a xs) : ∃ its : List Value, Vals xs its ∧ IsTup s.heap a its.toArray ∧ xs.length ≤ sizeLine := by
  rcases h with h | ⟨o, its, n, hk, hc, hs, hz, r⟩
  · obtain ⟨z, its, r, p⟩ := h.ok I.hok
    exact ⟨its, r, p, z⟩
  · refine ⟨its.toList, r, ⟨o, I.kIn a o hk, hc, n, by simpa using hs⟩, ?_⟩
    have e := r.length
    simp only [Array.length_toList] at e
    omega
theorem Inv.list_inj (I : Inv X pins σ H s) (h : SqL X.K H a xs) (h' : SqL X.K H a ys) : xs = ys := by
  obtain ⟨its, r, ⟨o, n, e, _, _, d⟩, _⟩ := I.list h
  obtain ⟨its', r', ⟨o', n', e', _, _, d'⟩, _⟩ := I.list h'
  rw [e] at e'; cases e'
  rw [d] at d'
  injection d' with d1 _
  have : its = its' := by simpa using congrArg Array.toList d1
  subst this
  exact r.inj r'
theorem Inv.tuple_inj (I : Inv X pins σ H s) (h : SqT X.K H a xs) (h' : SqT X.K H a ys) : xs = ys := by
  obtain ⟨its, r, ⟨o, e, _, n, d⟩, _⟩ := I.tuple h
  obtain ⟨its', r', ⟨o', e', _, n', d'⟩, _⟩ := I.tuple h'
  rw [e] at e'; cases e'
  rw [d] at d'
  injection d' with d1 _
  have : its = its' := by simpa using congrArg Array.toList d1
  subst this
  exact r.inj r'
end

/-! ### another wish about exceptions -/
abbrev Cx.wish (X : Cx) (E : Value → Shared → Prop) : Cx := { X with xe := E }
/-- no exception leaves -/
abbrev Cx.nox (X : Cx) : Cx := X.wish fun _ _ => False
theorem Cx.Ok.wish {X : Cx} (ok : X.Ok) (E : Value → Shared → Prop) : (X.wish E).Ok :=
  ⟨ok.mod, ok.kind, ok.glob, ok.blt, ok.above, ok.inj, ok.has, ok.cab, ok.hd, ok.frames, ok.stk, ok.exf, ok.bs, ok.bsz, ok.noex, ok.exfs, ok.funs, ok.frf⟩
theorem Cx.Ok.unwish {X : Cx} {E : Value → Shared → Prop} (ok : (X.wish E).Ok) : X.Ok :=
  ⟨ok.mod, ok.kind, ok.glob, ok.blt, ok.above, ok.inj, ok.has, ok.cab, ok.hd, ok.frames, ok.stk, ok.exf, ok.bs, ok.bsz, ok.noex, ok.exfs, ok.funs, ok.frf⟩
section
variable {X : Cx} {pins : List (Addr × Obj)} {σ : St} {H : Hp} {s : Shared} {E : Value → Shared → Prop}
theorem Inv.wish (I : Inv X pins σ H s) (E : Value → Shared → Prop) : Inv (X.wish E) pins σ H s := ⟨I.ok.wish E, I.os, I.bare, I.base, I.loc, I.cell, I.free, I.freeC, I.pin, I.hok, I.len⟩
theorem Inv.unwish (I : Inv (X.wish E) pins σ H s) : Inv X pins σ H s := ⟨I.ok.unwish, I.os, I.bare, I.base, I.loc, I.cell, I.free, I.freeC, I.pin, I.hok, I.len⟩
theorem SP.unwish {D : Ends} {f : Flow} {s' : Shared} (h : SP (X.wish E) pins D f s') : SP X pins D f s' := by
  cases f with
  | next => obtain ⟨σ', H', I, q⟩ := h; exact ⟨σ', H', I.unwish, q⟩
  | brk => obtain ⟨σ', H', I, q⟩ := h; exact ⟨σ', H', I.unwish, q⟩
  | cont => obtain ⟨σ', H', I, q⟩ := h; exact ⟨σ', H', I.unwish, q⟩
  | ret u => obtain ⟨v, σ', H', I, r, q⟩ := h; exact ⟨v, σ', H', I.unwish, r, q⟩
theorem PSs.nox {st : List Stmt} {t : TS} (h : PSs X.nox st t) : PSs X st t := fun pins s σ H D I hw =>
  wpAny_mono (h pins s σ H D (I.wish _) hw) (fun _ _ q => q.unwish) fun _ _ z => False.elim z
end

/-! ### blocks and small statements -/
section
variable {X : Cx} {st : Stmt} {rest : List Stmt} {t u : TS} {e : Expr} {te : TE} {pos : Pos}
def tNext : TS := fun D σ H => D.nx σ H
def tSeq (t u : TS) : TS := fun D σ H => t { D with nx := u D } σ H
theorem pss_nil : PSs X [] tNext := fun _ _ σ H _ I h => wpAny_execs_nil ⟨σ, H, I, h⟩
theorem pss_cons (h1 : PS X st t) (h2 : PSs X rest u) : PSs X (st :: rest) (tSeq t u) := by
  intro pins s σ H D I h
  refine wpAny_execs_cons (thn (h1 pins s σ H { D with nx := u D } I h) fun f s1 q => ?_)
  cases f with
  | next =>
    obtain ⟨σ', H', I', q⟩ := q
    exact h2 pins s1 σ' H' D I' q
  | ret v => exact q
  | brk => exact q
  | cont => exact q
theorem pss_one (h1 : PS X st t) : PSs X [st] t := by
  intro pins s σ H D I h
  refine wpAny_execs_cons (thn (h1 pins s σ H D I h) fun f s1 q => ?_)
  cases f with
  | next => exact wpAny_execs_nil q
  | ret v => exact q
  | brk => exact q
  | cont => exact q
/-- in a def's body nothing is shown -/
theorem Inv.quiet {pins : List (Addr × Obj)} {σ : St} {H : Hp} {s : Shared} (I : Inv X pins σ H s) : interactive X.env = false := by simp [interactive, I.ok.kind]
/-- an expression whose value is dropped -/
def tDrop (te : TE) : TS := fun D σ H => te σ H fun _ H1 => D.nx σ H1
theorem ps_expr (he : PE X e te) (hs : swapsWith e none pos.line X.env = pure false := by rfl) : PS X (.Expr e pos) (tDrop te) := by
  intro pins s σ H D I h
  exact wpAny_Expr_any (thn (he pins s σ H _ I h) fun v s1 ⟨x, H1, I1, r1, q1⟩ => ⟨σ, H1, I1, q1⟩) I.quiet hs
def tRet (te : TE) : TS := fun D σ H => te σ H D.rt
theorem ps_ret (he : PE X e te) : PS X (.Return (some e) pos) (tRet te) := by
  intro pins s σ H D I h
  exact wpAny_Return_some (thn (he pins s σ H _ I h) fun v s1 ⟨x, H1, I1, r1, q1⟩ => ⟨x, σ, H1, I1, r1, q1⟩)
def tIfS (c : TT) (t u : TS) : TS := fun D σ H => c σ H fun b H1 => if b = true then t D σ H1 else u D σ H1
theorem ps_if {c : Expr} {a b : List Stmt} {tc : TT} (hc : PT X c tc) (ha : PSs X a t) (hb : PSs X b u) : PS X (.If c a b pos) (tIfS tc t u) := by
  intro pins s σ H D I h
  refine wpAny_If (thn (hc pins s σ H _ I h) fun d s1 ⟨H1, I1, q1⟩ => ?_)
  cases d with
  | true => exact ha pins s1 σ H1 D I1 q1
  | false => exact hb pins s1 σ H1 D I1 q1
/-- code that the proof never comes to -/
def tNever : TS := fun _ _ _ => False
theorem pss_never {sts : List Stmt} : PSs X sts tNever := fun _ _ _ _ _ _ h => h.elim
end

/-! ### targets -/
abbrev TG := V → St → Hp → (St → Hp → Prop) → Prop
def PG (X : Cx) (target : Expr) (t : TG) : Prop :=
  ∀ (pins : List (Addr × Obj)) (s : Shared) (σ : St) (H : Hp) (v : V) (u : Value) (Q : St → Hp → Prop), Inv X pins σ H s → RelV v u → t v σ H Q →
    wpAny (model X.prog X.w) X.A (assign target X.env u) (fun _ s' => ∃ σ' H', Inv X pins σ' H' s' ∧ Q σ' H') X.xe s
/-- o[i] = v, by values -/
abbrev TSet := V → V → V → Hp → (Hp → Prop) → Prop
def PSet (X : Cx) (t : TSet) : Prop :=
  ∀ (pins : List (Addr × Obj)) (s : Shared) (σ : St) (H : Hp) (o i v : V) (ov iv u : Value) (Q : Hp → Prop), Inv X pins σ H s → RelV o ov → RelV i iv → RelV v u → t o i v H Q →
    wpAny (model X.prog X.w) X.A (setItem ov iv u) (fun _ s' => ∃ H', Inv X pins σ H' s' ∧ Q H') X.xe s
section
variable {X : Cx} {pos : Pos}
def gName (i : Nat) : TG := fun v σ H Q => Q (σ.set i (some v)) H
theorem pg_name {i : Nat} {x : Str} (hN : X.N.Nodup) (hi : X.N[i]? = some x) (hx : Loc X.env.scope x) (hf : X.fn x = true ∨ X.env.scope.names.lookup x = some .local := by first | exact .inl rfl | exact .inr rfl | assumption) : PG X (.Name x pos) (gName i) := by
  intro pins s σ H v u Q I r h
  exact wpAny_assign_Name (store_ok I hN hi hx r (fun s' I' => ⟨_, H, I', h⟩) hf)
/-- o[i] = .. -/
def gSub (to ti : TE) (t : TSet) : TG := fun v σ H Q => to σ H fun o H1 => ti σ H1 fun i H2 => t o i v H2 fun H3 => Q σ H3
theorem pg_sub {o i : Expr} {to ti : TE} {t : TSet} (ho : PE X o to) (hi : PE X i ti) (hs : PSet X t)
    (ha : ∀ v, assign (.Subscript o i pos) X.env v = (do
      let ov ← holding [v] (eval o X.env)
      let iv ← holding [v, ov] (eval i X.env)
      standAt pos
      holding [v, ov, iv] (setItem ov iv v)
      release [v, ov, iv] []) := by intro _; rfl) : PG X (.Subscript o i pos) (gSub to ti t) := by
  intro pins s σ H v u Q I r h
  rw [ha]
  refine wpAny_bind (wpAny_holding (thn (ho pins s σ H _ I h) fun ov s1 ⟨x, H1, I1, r1, q1⟩ => ?_))
  refine wpAny_bind (wpAny_holding (thn (hi pins s1 σ H1 _ I1 q1) fun iv s2 ⟨y, H2, I2, r2, q2⟩ => ?_))
  refine wpAny_bind (wpAny_standAt (wpAny_bind (wpAny_holding (thn (hs pins s2 σ H2 x y v ov iv u _ I2 r1 r2 r q2) fun _ s3 ⟨H3, I3, q3⟩ => ?_))))
  exact wpAny_release ⟨σ, H3, I3, q3⟩
/-- target = value -/
def tAsg (te : TE) (g : TG) : TS := fun D σ H => te σ H fun x H1 => g x σ H1 D.nx
theorem ps_asg {tg e : Expr} {te : TE} {g : TG} (he : PE X e te) (hg : PG X tg g) (hs : swapsWithSole [tg] e pos.line X.env = pure false := by rfl) (hw : swappedStores [tg] e X.env = pure none := by rfl)
    (h1 : (assignEach [tg] X.env).map (·.2) = [assign tg X.env] := by rfl) : PS X (.Assign [tg] e pos) (tAsg te g) := by
  intro pins s σ H D I h
  refine wpAny_Assign_stores (thn (he pins s σ H _ I h) fun v s1 ⟨x, H1, I1, r1, q1⟩ => ?_) hs hw
  rw [h1]
  exact thn (hg pins s1 σ H1 x v _ I1 r1 q1) fun _ s2 q => q
/-- name = value -/
theorem ps_set {i : Nat} {x : Str} {e : Expr} {te : TE} {pos' : Pos} (hN : X.N.Nodup) (hi : X.N[i]? = some x) (hx : Loc X.env.scope x) (he : PE X e te) (hs : swapsWith e (some (.Name x pos')) pos.line X.env = pure false := by rfl) (hf : X.fn x = true ∨ X.env.scope.names.lookup x = some .local := by first | exact .inl rfl | exact .inr rfl | assumption) :
    PS X (.Assign [.Name x pos'] e pos) (tAsg te (gName i)) := by
  intro pins s σ H D I h
  refine wpAny_Assign_Name (thn (he pins s σ H _ I h) fun v s1 ⟨y, H1, I1, r1, q1⟩ => ?_) hs
  exact store_ok I1 hN hi hx r1 (fun s2 I2 => ⟨_, H1, I2, q1⟩) hf
end

/-! ### while -/
section
variable {X : Cx} {pos : Pos}
end

/-! ### what a loop or a comprehension walks -/
/-- at turn i: it yields x (the heap may grow), or it stops -/
structure It where
  go : Nat → Hp → Prop
  yld : Nat → Hp → V → Hp → Prop
  stop : Nat → Hp → Prop
/-- the iterator's own objects may turn: they are not the frame's, not pinned, younger than the entry (or a comprehension's own) -/
def FpOk (X : Cx) (pins : List (Addr × Obj)) (H : Hp) (b : Addr) : Prop :=
  H b = none ∧ b ≠ X.env.locals ∧ b ∉ X.fs ∧ (b ∈ X.ex ∨ X.s₀.heap.objs.size ≤ b) ∧ (∀ x c, X.env.cells.lookup x = some c → c ≠ b) ∧ ∀ p ∈ X.pn ++ pins, p.1 ≠ b
theorem Inv.fpOk {X : Cx} {pins : List (Addr × Obj)} {σ : St} {H H' : Hp} {s : Shared} {b : Addr} (I : Inv X pins σ H s) (hb : s.heap.objs.size ≤ b) (hn : H' b = none) : FpOk X pins H' b := by
  refine ⟨hn, Nat.ne_of_gt (Nat.lt_of_lt_of_le I.lt hb), I.nofs hb, .inr (Nat.le_trans I.sz hb), fun x c e z => ?_, fun p hp z => ?_⟩
  · obtain ⟨v, q⟩ := I.cell x c e
    exact absurd (Nat.lt_of_lt_of_le q.lt (by rw [z]; exact hb)) (Nat.lt_irrefl _)
  · exact absurd (Nat.lt_of_lt_of_le (Heap.lt_size (I.pin p hp).1) (by rw [z]; exact hb)) (Nat.lt_irrefl _)
structure Turn (P : Program) (w : World) (K : PySem.W.Frag) (tg : Expr) (J : It) (fp : List Addr) (it : Addr) (tn : Nat → Heap → Prop) : Prop where
  mem : it ∈ fp
  obj : ∀ i h, tn i h → ∀ b ∈ fp, ∃ o, h.get? b = some o ∧ ∀ v, o.data ≠ .cell v
  keep : ∀ i h h', tn i h → (∀ b ∈ fp, ∀ o, h.get? b = some o → h'.get? b = some o) → tn i h'
  item : ∀ (X : Cx), X.prog = P → X.w = w → X.K = K → X.calm = true → ∀ (i : Nat) (pins : List (Addr × Obj)) (s : Shared) (σ : St) (H : Hp) (E : Value → Shared → Prop), Inv X pins σ H s → (∀ b ∈ fp, FpOk X pins H b) → tn i s.heap → J.go i H →
    wpAny (model P w) X.A (pyNext (.ref it)) (fun r s1 => ∃ u, r = some u ∧
      wpAny (model P w) X.A (letOwnedTupleGo tg (.ref it) u) (fun _ s2 => ∃ x H', Inv X pins σ H' s2 ∧ RelV x u ∧ J.yld i H x H' ∧ tn (i + 1) s2.heap ∧ ∀ b ∈ fp, H' b = none) E s1) E s
  done : ∀ (X : Cx), X.prog = P → X.w = w → X.K = K → X.calm = true → ∀ (i : Nat) (pins : List (Addr × Obj)) (s : Shared) (σ : St) (H : Hp) (E : Value → Shared → Prop), Inv X pins σ H s → (∀ b ∈ fp, FpOk X pins H b) → tn i s.heap → J.stop i H →
    wpAny (model P w) X.A (pyNext (.ref it)) (fun r s1 => r = none ∧ Inv X pins σ H s1) E s
  self : ∀ (A : Around) (i : Nat) (s : Shared) (Q : Value → Shared → Prop) (E : Value → Shared → Prop), tn i s.heap → Q (.ref it) s → wpAny (model P w) A (pyIter (.ref it)) Q E s
abbrev TI := St → Hp → (It → Hp → Prop) → Prop
/-- an iterator has come -/
def PIE (X : Cx) (pins : List (Addr × Obj)) (σ : St) (tg : Expr) (R : It → Hp → Prop) (itv : Value) (s2 : Shared) : Prop :=
  ∃ (it : Addr) (fp : List Addr) (tn : Nat → Heap → Prop) (J : It) (H' : Hp), itv = .ref it ∧ Inv X pins σ H' s2 ∧ Turn X.prog X.w X.K tg J fp it tn ∧ tn 0 s2.heap ∧ (∀ b ∈ fp, FpOk X pins H' b) ∧ R J H'
def PI (X : Cx) (tg iter : Expr) (wi : TI) : Prop :=
  ∀ (pins : List (Addr × Obj)) (s : Shared) (σ : St) (H : Hp) (R : It → Hp → Prop), Inv X pins σ H s → wi σ H R →
    wpAny (model X.prog X.w) X.A (eval iter X.env) (fun v s1 => wpAny (model X.prog X.w) X.A (pyIter v) (PIE X pins σ tg R) X.xe s1) X.xe s

/-- the step ahead of the store is nothing for an iterator that keeps no tuple -/
theorem go_of {M : Model} {A : Around} {E : Value → Shared → Prop} {s : Shared} {tg : Expr} {it : Addr} {u : Value} {o : Obj} {n : String} {vs : Array Value} {Q : Unit → Shared → Prop} (ho : s.heap.get? it = some o) (hc : o.cls = .type n) (hd : o.data = .fields vs)
    (hn : ["enumerate", "zip", "dict_itemiterator", "dict_reverseitemiterator", "odict_iterator", "itertools.zip_longest", "itertools.pairwise"].contains n = false) (hQ : Q () s) : wpAny M A (letOwnedTupleGo tg (.ref it) u) Q E s := by
  unfold letOwnedTupleGo
  cases tg <;> first
    | exact wpAny_pure hQ
    | (cases u <;> first
        | exact wpAny_pure hQ
        | (refine wpAny_bind (wpAny_load ho ?_)
           rw [hc, hd]
           show wpAny M A (if (["enumerate", "zip", "dict_itemiterator", "dict_reverseitemiterator", "odict_iterator", "itertools.zip_longest", "itertools.pairwise"].contains n && vs[0]? == some (rawInt _)) = true then _ else _) Q E s
           rw [if_neg (by intro h; rw [hn, Bool.false_and] at h; cases h)]
           exact wpAny_pure hQ))

/-- the list at a, as it stands at each turn (a loop may append to it) -/
def Itl (K : PySem.W.Frag) (a : Addr) : It :=
  ⟨fun i H => ∃ xs x, SqL K H a xs ∧ xs[i]? = some x, fun i H x H' => H' = H ∧ ∀ xs, SqL K H a xs → xs[i]? = some x, fun i H => ∃ xs, SqL K H a xs ∧ xs.length ≤ i⟩
def Itt (K : PySem.W.Frag) (a : Addr) : It :=
  ⟨fun i H => ∃ xs x, SqT K H a xs ∧ xs[i]? = some x, fun i H x H' => H' = H ∧ ∀ xs, SqT K H a xs → xs[i]? = some x, fun i H => ∃ xs, SqT K H a xs ∧ xs.length ≤ i⟩
/-- lo, lo + 1, .. (n of them) -/
def Itr (lo : Int) (n : Nat) : It := ⟨fun i _ => i < n, fun i H x H' => H' = H ∧ x = .int (lo + i), fun i _ => n ≤ i⟩
theorem turn_list {P : Program} {w : World} {K : PySem.W.Frag} {tg : Expr} (a it : Addr) : Turn P w K tg (Itl K a) [it] it (fun i h => h.IsListIter it a i) where
  mem := by simp
  obj := fun i h st b hb => by
    have e : b = it := by simpa using hb
    subst e
    obtain ⟨o, e, c, d⟩ := st
    exact ⟨o, e, fun v z => by rw [d] at z; cases z⟩
  keep := fun i h h' st k => st.at fun o e => k it (by simp) o e
  item := by
    intro X hP hw hK hc i pins s σ H E I hf st hg
    subst hP hw hK
    obtain ⟨xs, x, hq, hx⟩ := hg
    obtain ⟨its, rv, p, hz⟩ := I.list hq
    obtain ⟨u, hu, ru⟩ := rv.get hx
    obtain ⟨f0, f1, f2, f3, f4, f5⟩ := hf it (by simp)
    refine wpAny_pyNext_list_item st p.isList (x := u) (by simpa using hu) fun h' st' sb => ?_
    have I1 : Inv X pins σ H { s with heap := h' } := I.turned (t' := s.toks) (fun b o hb e => (sb.2 b hb).trans e) f0 f1 f3 f4 f5
    obtain ⟨o, e, c, d⟩ := id st'
    exact ⟨u, rfl, go_of (s := { s with heap := h' }) e c d (by decide) ⟨x, H, I1, ru, ⟨rfl, fun ys hy => by rw [I.list_inj hy hq]; exact hx⟩, st', fun b hb => (hf b hb).1⟩⟩
  done := by
    intro X hP hw hK hc i pins s σ H E I hf st hg
    subst hP hw hK
    obtain ⟨xs, hq, hx⟩ := hg
    obtain ⟨its, rv, p, hz⟩ := I.list hq
    obtain ⟨f0, f1, f2, f3, f4, f5⟩ := hf it (by simp)
    have hl := rv.length
    exact wpAny_pyNext_list_end (I.ok.hd hc) st p.isList (by simp; omega) fun h' eb => ⟨rfl, I.turned (t' := s.toks) (fun b o hb e => eb b o hb e) f0 f1 f3 f4 f5⟩
  self := fun _ _ _ _ _ st h => wpAny_pyIter_listiter st h
theorem turn_tuple {P : Program} {w : World} {K : PySem.W.Frag} {tg : Expr} (a it : Addr) : Turn P w K tg (Itt K a) [it] it (fun i h => h.IsTupleIter it a i) where
  mem := by simp
  obj := fun i h st b hb => by
    have e : b = it := by simpa using hb
    subst e
    obtain ⟨o, e, c, d⟩ := st
    exact ⟨o, e, fun v z => by rw [d] at z; cases z⟩
  keep := fun i h h' st k => st.at fun o e => k it (by simp) o e
  item := by
    intro X hP hw hK hc i pins s σ H E I hf st hg
    subst hP hw hK
    obtain ⟨xs, x, hq, hx⟩ := hg
    obtain ⟨its, rv, p, hz⟩ := I.tuple hq
    obtain ⟨u, hu, ru⟩ := rv.get hx
    obtain ⟨f0, f1, f2, f3, f4, f5⟩ := hf it (by simp)
    refine wpAny_pyNext_tuple_item st (show s.heap.IsTuple a its.toArray from p) (x := u) (by simpa using hu) fun h' st' sb => ?_
    have I1 : Inv X pins σ H { s with heap := h' } := I.turned (t' := s.toks) (fun b o hb e => (sb.2 b hb).trans e) f0 f1 f3 f4 f5
    obtain ⟨o, e, c, d⟩ := id st'
    exact ⟨u, rfl, go_of (s := { s with heap := h' }) e c d (by decide) ⟨x, H, I1, ru, ⟨rfl, fun ys hy => by rw [I.tuple_inj hy hq]; exact hx⟩, st', fun b hb => (hf b hb).1⟩⟩
  done := by
    intro X hP hw hK hc i pins s σ H E I hf st hg
    subst hP hw hK
    obtain ⟨xs, hq, hx⟩ := hg
    obtain ⟨its, rv, p, hz⟩ := I.tuple hq
    obtain ⟨f0, f1, f2, f3, f4, f5⟩ := hf it (by simp)
    have hl := rv.length
    exact wpAny_pyNext_tuple_end (I.ok.hd hc) st (show s.heap.IsTuple a its.toArray from p) (by simp; omega) fun h' eb => ⟨rfl, I.turned (t' := s.toks) (fun b o hb e => eb b o hb e) f0 f1 f3 f4 f5⟩
  self := fun _ _ _ _ _ st h => wpAny_pyIter_tupleiter st h
theorem turn_range {P : Program} {w : World} {K : PySem.W.Frag} {tg : Expr} (it : Addr) (lo : Int) (n : Nat) : Turn P w K tg (Itr lo n) [it] it (fun i h => IsRangeIter h it (lo + (i : Nat) * 1) ((n : Int) - (i : Nat)) 1) where
  mem := by simp
  obj := fun i h st b hb => by
    have e : b = it := by simpa using hb
    subst e
    exact ⟨_, st, fun v z => by
      have z' : Data.fields _ = Data.cell v := z
      cases z'⟩
  keep := fun i h h' st k => k it (by simp) _ st
  item := by
    intro X hP hw hK hc i pins s σ H E I hf st hg
    subst hP hw hK
    obtain ⟨f0, f1, f2, f3, f4, f5⟩ := hf it (by simp)
    have W := Walks.range (prog := X.prog) (w := X.w) (I.ok.hd hc) it lo 1 n
    refine W.item i s _ _ hg st fun v h' tk hv st' kk => ?_
    obtain ⟨t, rfl⟩ := hv
    have I1 : Inv X pins σ H { s with heap := h', toks := tk } := I.turned (fun b o hb e => kk b o (by simpa using hb) e) f0 f1 f3 f4 f5
    refine ⟨_, rfl, go_of (s := { s with heap := h', toks := tk }) (n := "range_iterator") st' rfl rfl (by decide) ⟨.int (lo + i), H, I1, ⟨t, ?_⟩, ⟨rfl, rfl⟩, st', fun b hb => (hf b hb).1⟩⟩
    rw [Int.mul_one]
  done := by
    intro X hP hw hK hc i pins s σ H E I hf st hg
    subst hP hw hK
    obtain ⟨f0, f1, f2, f3, f4, f5⟩ := hf it (by simp)
    exact wpAny_pyNext_range_end (I.ok.hd hc) st (by have : n ≤ i := hg; omega) fun h' eb => ⟨rfl, I.turned (t' := s.toks) (fun b o hb e => eb b o hb e) f0 f1 f3 f4 f5⟩
  self := fun _ _ _ _ _ st h => wpAny_pyIter_rangeiter st h
end L2

namespace L2
open PySem PySem.Spec PyProof.Rows
section
variable {X : Cx} {tg : Expr}
def iList (K : PySem.W.Frag) (tl : TE) : TI := fun σ H R => tl σ H fun x H1 => ∃ a, x = .ref a ∧ (∃ xs, SqL K H1 a xs) ∧ R (Itl K a) H1
def iTup (K : PySem.W.Frag) (tl : TE) : TI := fun σ H R => tl σ H fun x H1 => ∃ a, x = .ref a ∧ (∃ xs, SqT K H1 a xs) ∧ R (Itt K a) H1
theorem pi_list {l : Expr} {tl : TE} (hl : PE X l tl) : PI X tg l (iList X.K tl) := by
  intro pins s σ H R I h
  refine thn (hl pins s σ H _ I h) fun v s1 ⟨x, H1, I1, r1, q1⟩ => ?_
  obtain ⟨a, e, ⟨xs, hq⟩, q⟩ := q1
  subst e
  cases r1
  obtain ⟨its, rv, p, hz⟩ := I1.list hq
  refine wpAny_pyIter_list p.isList ?_
  refine ⟨s1.heap.objs.size, [s1.heap.objs.size], _, _, H1, rfl, I1.kept (t' := s1.toks) fun b o e => Heap.get?_push_of_some _ e, turn_list a _, ⟨_, Heap.get?_push_size _ rfl, rfl, rfl⟩, fun b hb => ?_, q⟩
  have e : b = s1.heap.objs.size := by simpa using hb
  subst e
  exact I1.fpOk (Nat.le_refl _) (I1.hok.fresh (Nat.le_refl _))
theorem pi_tup {l : Expr} {tl : TE} (hl : PE X l tl) : PI X tg l (iTup X.K tl) := by
  intro pins s σ H R I h
  refine thn (hl pins s σ H _ I h) fun v s1 ⟨x, H1, I1, r1, q1⟩ => ?_
  obtain ⟨a, e, ⟨xs, hq⟩, q⟩ := q1
  subst e
  cases r1
  obtain ⟨its, rv, p, hz⟩ := I1.tuple hq
  refine wpAny_pyIter_tuple (show s1.heap.IsTuple a its.toArray from p) ?_
  refine ⟨s1.heap.objs.size, [s1.heap.objs.size], _, _, H1, rfl, I1.kept (t' := s1.toks) fun b o e => Heap.get?_push_of_some _ e, turn_tuple a _, ⟨_, Heap.get?_push_size _ rfl, rfl, rfl⟩, fun b hb => ?_, q⟩
  have e : b = s1.heap.objs.size := by simpa using hb
  subst e
  exact I1.fpOk (Nat.le_refl _) (I1.hok.fresh (Nat.le_refl _))
/-- a range object just made, walked -/
theorem range_it {pins : List (Addr × Obj)} {σ : St} {H : Hp} {s : Shared} {R : It → Hp → Prop} {E : Value → Shared → Prop} {lo hi : Int} {t u v : Tok} {tk : Nat} (I : Inv X pins σ H s) (h1 : -(2 ^ 62) ≤ lo) (h2 : lo < 2 ^ 62) (h3 : -(2 ^ 62) ≤ hi) (h4 : hi < 2 ^ 62)
    (q : R (Itr lo (hi - lo).toNat) H) : wpAny (model X.prog X.w) X.A (pyIter (.ref s.heap.objs.size)) (PIE X pins σ tg R) E { s with heap := s.heap.push { cls := .type "range", data := .fields #[.int lo t, .int hi u, .int 1 v] }, toks := tk } := by
  refine wpAny_pyIter_range (IsRange.new ..) (small_one h1 h2 h3 h4) ?_
  have I1 : Inv X pins σ H { s with heap := s.heap.push { cls := .type "range", data := .fields #[.int lo t, .int hi u, .int 1 v] }, toks := tk } := I.kept fun b o e => Heap.get?_push_of_some _ e
  refine ⟨(s.heap.push { cls := .type "range", data := .fields #[.int lo t, .int hi u, .int 1 v] }).objs.size, [(s.heap.push { cls := .type "range", data := .fields #[.int lo t, .int hi u, .int 1 v] }).objs.size], _, _, H, rfl,
    I1.kept (t' := tk) fun b o e => Heap.get?_push_of_some _ e, turn_range _ lo (hi - lo).toNat, ?_, fun b hb => ?_, q⟩
  · have e1 : lo + ((0 : Nat) : Int) * 1 = lo := by simp
    have e2 : (((hi - lo).toNat : Nat) : Int) - ((0 : Nat) : Int) = Builtin.Range.rangeSize lo hi 1 := by rw [rangeSize_one]; split <;> omega
    show IsRangeIter _ _ (lo + ((0 : Nat) : Int) * 1) ((((hi - lo).toNat : Nat) : Int) - ((0 : Nat) : Int)) 1
    rw [e1, e2]
    exact Heap.get?_push_size _ rfl
  · have e : b = (s.heap.push { cls := .type "range", data := .fields #[.int lo t, .int hi u, .int 1 v] }).objs.size := by simpa using hb
    subst e
    exact I1.fpOk (Nat.le_refl _) (I1.hok.fresh (Nat.le_refl _))
def iRng1 (ta : TA) : TI := fun σ H R => ta σ H fun vs H1 => ∃ j : Int, vs = [.int j] ∧ -(2 ^ 62) ≤ j ∧ j < 2 ^ 62 ∧ R (Itr 0 j.toNat) H1
def iRng2 (ta : TA) : TI := fun σ H R => ta σ H fun vs H1 => ∃ i j : Int, vs = [.int i, .int j] ∧ (-(2 ^ 62) ≤ i ∧ i < 2 ^ 62 ∧ -(2 ^ 62) ≤ j ∧ j < 2 ^ 62) ∧ R (Itr i (j - i).toNat) H1
theorem pi_range1 {a : Expr} {ta : TA} {p pos : Pos} (hg : Gl X "range") (hm : X.mg "range" = none) (ha : PA X [a] ta) (hs : starEach [a] X.env = [(false, eval a X.env)] := by rfl) : PI X tg (.Call (.Name "range" p) [a] [] pos) (iRng1 ta) := by
  intro pins s σ H R I h
  refine Call_ (ld_blt I hg hm boot_range (PyProof.Rows.callWith_type1 (thn (ha pos pins s σ H _ I h) fun us s1 ⟨vs, H1, I1, r1, q1⟩ => ?_) hs rfl))
  obtain ⟨j, e, q1, q2, q⟩ := q1
  subst e
  cases r1 with
  | cons r rr =>
    cases rr
    obtain ⟨t, rfl⟩ := r
    exact call_range_1 (range_it I1 (by omega) (by omega) q1 q2 (by simpa using q))
theorem pi_range2 {a b : Expr} {ta : TA} {p pos : Pos} (hg : Gl X "range") (hm : X.mg "range" = none) (ha : PA X [a, b] ta) (hs : starEach [a, b] X.env = [(false, eval a X.env), (false, eval b X.env)] := by rfl) (hs2 : starEach [b] X.env = [(false, eval b X.env)] := by rfl) :
    PI X tg (.Call (.Name "range" p) [a, b] [] pos) (iRng2 ta) := by
  intro pins s σ H R I h
  refine Call_ (ld_blt I hg hm boot_range (PyProof.Rows.callWith_type1 (thn (ha pos pins s σ H _ I h) fun us s1 ⟨vs, H1, I1, r1, q1⟩ => ?_) (by rw [hs, hs2]) (by rw [hs2]; rfl)))
  obtain ⟨i, j, e, ⟨q1, q2, q3, q4⟩, q⟩ := q1
  subst e
  cases r1 with
  | cons r rr =>
    cases rr with
    | cons r' rr =>
      cases rr
      obtain ⟨t, rfl⟩ := r
      obtain ⟨t', rfl⟩ := r'
      exact call_range_2 (range_it I1 q1 q2 q3 q4 q)

/-! ### for -/
/-- W: the invariant by the turn and a measure; N: what the body is to reach -/
def tFor (wi : TI) (g : TG) (tb : TS) : TS := fun D σ H => wi σ H fun J H1 => ∃ W : Nat → Nat → St → Hp → Prop, (∃ m, W 0 m σ H1) ∧ ∀ i m σ H, W i m σ H →
  (J.stop i H ∧ D.nx σ H) ∨ (J.go i H ∧ ∃ N : St → Hp → Prop, (∀ σ' H', N σ' H' → ∃ m', m' < m ∧ W (i + 1) m' σ' H') ∧ ∀ x H', J.yld i H x H' → g x σ H' fun σ2 H2 => tb { D with nx := N, ct := N, bk := D.nx } σ2 H2)
/-- the records at fp as they stand -/
def pinsAt (fp : List Addr) (h : Heap) : List (Addr × Obj) := fp.filterMap fun b => (h.get? b).map fun o => (b, o)
theorem mem_pinsAt {fp : List Addr} {h : Heap} {b : Addr} {o : Obj} (hb : b ∈ fp) (e : h.get? b = some o) : (b, o) ∈ pinsAt fp h := List.mem_filterMap.mpr ⟨b, hb, by rw [e]; rfl⟩
theorem of_pinsAt {fp : List Addr} {h : Heap} {p : Addr × Obj} (hp : p ∈ pinsAt fp h) : p.1 ∈ fp ∧ h.get? p.1 = some p.2 := by
  obtain ⟨b, hb, e⟩ := List.mem_filterMap.mp hp
  cases q : h.get? b with
  | none => rw [q] at e; cases e
  | some o =>
    rw [q] at e
    have e' : (b, o) = p := Option.some.inj e
    subst e'
    exact ⟨hb, q⟩
theorem Inv.pinned {pins : List (Addr × Obj)} {σ : St} {H : Hp} {s : Shared} {fp : List Addr} (I : Inv X pins σ H s) (hf : ∀ b ∈ fp, FpOk X pins H b) (ho : ∀ b ∈ fp, ∃ o, s.heap.get? b = some o ∧ ∀ v, o.data ≠ .cell v) : Inv X (pins ++ pinsAt fp s.heap) σ H s :=
  I.pins_of fun p hp => (List.mem_append.mp hp).elim (fun z => I.pin p (List.mem_append_right _ z)) fun z => by
    obtain ⟨hb, e⟩ := of_pinsAt z
    obtain ⟨f0, f1, f2, _⟩ := hf p.1 hb
    obtain ⟨o, e', d⟩ := ho p.1 hb
    rw [e] at e'; cases e'
    exact ⟨e, f0, f1, f2, d⟩
theorem Inv.unpinned {pins pl : List (Addr × Obj)} {σ : St} {H : Hp} {s : Shared} (I : Inv X (pins ++ pl) σ H s) : Inv X pins σ H s := I.pins_of fun p hp => I.pin p (List.mem_append_right _ (List.mem_append_left _ hp))
theorem ps_for {iter : Expr} {body : List Stmt} {wi : TI} {g : TG} {tb : TS} {pos : Pos} (hp : PassesOwn (model X.prog X.w) X.A X.env X.xe) (hc : X.calm = true) (hi : PI X tg iter wi) (hg : PG X tg g) (hb : PSs X body tb)
    (hs : ∀ x, foldedSetIterable iter X.env x = pure x := by intro _; rfl) : PS X (.For tg iter body [] pos) (tFor wi g tb) := by
  intro pins s σ H D I h
  refine wpAny_For (thn (hi pins s σ H _ I h) fun v s1 h1 => thn h1 fun itv s2 h2 => ?_) hs
  obtain ⟨it, fp, tn, J, H2, e, I2, T, st2, f2, W, ⟨m0, w0⟩, turn⟩ := h2
  subst e
  -- what stays true of the iterator's objects through the loop
  have stat : ∀ {H' : Hp}, (∀ b ∈ fp, H' b = none) → ∀ b ∈ fp, FpOk X pins H' b := fun hn b hb => ⟨hn b hb, (f2 b hb).2⟩
  refine codeAny_forLoop_any (fun n s' => ∃ i σ' H', Inv X pins σ' H' s' ∧ tn i s'.heap ∧ (∀ b ∈ fp, H' b = none) ∧ W i n σ' H') ?_ m0 ⟨0, σ, H2, I2, st2, fun b hb => (f2 b hb).1, w0⟩
  rintro n s3 ⟨i, σ3, H3, I3, st3, fr3, w3⟩
  rcases turn i n σ3 H3 w3 with ⟨stop, qn⟩ | ⟨go, N, hN, step⟩
  · refine wpAny_passesOwn hp (thn (T.done X rfl rfl rfl hc i pins s3 σ3 H3 X.xe I3 (stat fr3) st3 stop) fun r s4 ⟨hr, I4⟩ => ?_)
    subst hr
    exact wpAny_execs_nil ⟨σ3, H3, I4, qn⟩
  · refine wpAny_passesOwn hp (thn (T.item X rfl rfl rfl hc i pins s3 σ3 H3 X.xe I3 (stat fr3) st3 go) fun r s4 ⟨u, hr, h4⟩ => ?_)
    subst hr
    refine wpAny_passesOwn hp (thn h4 fun _ s5 ⟨x, H5, I5, r5, y5, st5, fr5⟩ => ?_)
    have I5' := I5.pinned (stat fr5) (T.obj _ _ st5)
    refine wpAny_passesOwn hp (thn (hg _ s5 σ3 H5 x u _ I5' r5 (step x H5 y5)) fun _ s6 ⟨σ6, H6, I6, q6⟩ => ?_)
    refine wpAny_passesOwn hp (thn (hb _ s6 σ6 H6 _ I6 q6) fun f s7 q7 => ?_)
    have again : ∀ {σ7 : St} {H7 : Hp}, Inv X (pins ++ pinsAt fp s5.heap) σ7 H7 s7 → N σ7 H7 → ∃ m, m < n ∧ ∃ i σ' H', Inv X pins σ' H' s7 ∧ tn i s7.heap ∧ (∀ b ∈ fp, H' b = none) ∧ W i m σ' H' := fun {σ7 H7} I7 n7 => by
      obtain ⟨m', hm, w7⟩ := hN σ7 H7 n7
      refine ⟨m', hm, i + 1, σ7, H7, I7.unpinned, T.keep _ _ _ st5 fun b hb o e => (I7.pin (b, o) (List.mem_append_right _ (List.mem_append_right _ (mem_pinsAt hb e)))).1, fun b hb => ?_, w7⟩
      obtain ⟨o, e, d⟩ := T.obj _ _ st5 b hb
      exact (I7.pin (b, o) (List.mem_append_right _ (List.mem_append_right _ (mem_pinsAt hb e)))).2.1
    cases f with
    | next => obtain ⟨σ7, H7, I7, n7⟩ := q7; exact again I7 n7
    | cont => obtain ⟨σ7, H7, I7, n7⟩ := q7; exact again I7 n7
    | brk => obtain ⟨σ7, H7, I7, q7⟩ := q7; exact ⟨σ7, H7, I7.unpinned, q7⟩
    | ret v => obtain ⟨x7, σ7, H7, I7, r7, q7⟩ := q7; exact ⟨x7, σ7, H7, I7.unpinned, r7, q7⟩
end

/-! ### the forms one uses -/
/-- over a list that the body leaves as it is -/
theorem for_list {K : PySem.W.Frag} {a : Addr} {xs : List V} {g : TG} {tb : TS} {D : Ends} {σ : St} {H : Hp} (Pv : Nat → St → Hp → Prop) (h0 : Pv 0 σ H) (hl : ∀ i σ H, i ≤ xs.length → Pv i σ H → SqL K H a xs)
    (hs : ∀ i x σ H, xs[i]? = some x → Pv i σ H → g x σ H fun σ2 H2 => tb { D with nx := Pv (i + 1), ct := Pv (i + 1), bk := D.nx } σ2 H2) (hd : ∀ σ H, Pv xs.length σ H → D.nx σ H) :
    ∃ W : Nat → Nat → St → Hp → Prop, (∃ m, W 0 m σ H) ∧ ∀ i m σ H, W i m σ H →
      ((Itl K a).stop i H ∧ D.nx σ H) ∨ ((Itl K a).go i H ∧ ∃ N : St → Hp → Prop, (∀ σ' H', N σ' H' → ∃ m', m' < m ∧ W (i + 1) m' σ' H') ∧ ∀ x H', (Itl K a).yld i H x H' → g x σ H' fun σ2 H2 => tb { D with nx := N, ct := N, bk := D.nx } σ2 H2) := by
  refine ⟨fun i m σ H => m = xs.length - i ∧ i ≤ xs.length ∧ Pv i σ H, ⟨xs.length, by simp, Nat.zero_le _, h0⟩, ?_⟩
  rintro i m σ H ⟨rfl, hi, p⟩
  have q := hl i σ H hi p
  by_cases hlt : i < xs.length
  · refine .inr ⟨⟨xs, xs[i], q, by simp [hlt]⟩, Pv (i + 1), fun σ' H' p' => ⟨xs.length - (i + 1), by omega, rfl, hlt, p'⟩, fun x H' y => ?_⟩
    obtain ⟨e, y⟩ := y
    subst e
    exact hs i x σ _ (y xs q) p
  · have e : i = xs.length := by omega
    subst e
    exact .inl ⟨⟨xs, q, Nat.le_refl _⟩, hd σ H p⟩
theorem for_range {lo : Int} {n : Nat} {g : TG} {tb : TS} {D : Ends} {σ : St} {H : Hp} (Pv : Nat → St → Hp → Prop) (h0 : Pv 0 σ H)
    (hs : ∀ i σ H, i < n → Pv i σ H → g (.int (lo + i)) σ H fun σ2 H2 => tb { D with nx := Pv (i + 1), ct := Pv (i + 1), bk := D.nx } σ2 H2) (hd : ∀ σ H, Pv n σ H → D.nx σ H) :
    ∃ W : Nat → Nat → St → Hp → Prop, (∃ m, W 0 m σ H) ∧ ∀ i m σ H, W i m σ H →
      ((Itr lo n).stop i H ∧ D.nx σ H) ∨ ((Itr lo n).go i H ∧ ∃ N : St → Hp → Prop, (∀ σ' H', N σ' H' → ∃ m', m' < m ∧ W (i + 1) m' σ' H') ∧ ∀ x H', (Itr lo n).yld i H x H' → g x σ H' fun σ2 H2 => tb { D with nx := N, ct := N, bk := D.nx } σ2 H2) := by
  refine ⟨fun i m σ H => m = n - i ∧ i ≤ n ∧ Pv i σ H, ⟨n, by simp, Nat.zero_le _, h0⟩, ?_⟩
  rintro i m σ H ⟨rfl, hi, p⟩
  by_cases hlt : i < n
  · refine .inr ⟨hlt, Pv (i + 1), fun σ' H' p' => ⟨n - (i + 1), by omega, rfl, hlt, p'⟩, fun x H' y => ?_⟩
    obtain ⟨e, y⟩ := y
    subst e y
    exact hs i σ _ hlt p
  · have e : i = n := by omega
    subst e
    exact .inl ⟨Nat.le_refl _, hd σ H p⟩
end L2

namespace L2
open PySem PySem.Spec PyProof.Rows

abbrev R2 := V → V → Hp → VK → Prop
/-- a two-place operation on values: f is binaryOp op, inplaceOp op or compareOp op -/
def OpR (X : Cx) (f : Value → Value → Sem Value) (r : R2) : Prop :=
  ∀ (pins : List (Addr × Obj)) (s : Shared) (σ : St) (H : Hp) (x y : V) (v u : Value) (Q : VK), Inv X pins σ H s → RelV x v → RelV y u → r x y H Q →
    wpAny (model X.prog X.w) X.A (f v u) (EP X pins σ Q) X.xe s
/-- a one-place operation -/
def UnR (X : Cx) (f : Value → Sem Value) (r : V → Hp → VK → Prop) : Prop :=
  ∀ (pins : List (Addr × Obj)) (s : Shared) (σ : St) (H : Hp) (x : V) (v : Value) (Q : VK), Inv X pins σ H s → RelV x v → r x H Q →
    wpAny (model X.prog X.w) X.A (f v) (EP X pins σ Q) X.xe s
/-- a call of a value that is known (a builtin, a type) with values -/
def CallR (X : Cx) (f : Value) (r : List V → Hp → VK → Prop) : Prop :=
  ∀ (pins : List (Addr × Obj)) (s : Shared) (σ : St) (H : Hp) (xs : List V) (us : List Value) (Q : VK), Inv X pins σ H s → Vals xs us → r xs H Q →
    wpAny (model X.prog X.w) X.A (call f us) (EP X pins σ Q) X.xe s

def tOp (r : R2) (ta tb : TE) : TE := fun σ H Q => ta σ H fun x H1 => tb σ H1 fun y H2 => r x y H2 Q
def tUn (r : V → Hp → VK → Prop) (ta : TE) : TE := fun σ H Q => ta σ H fun x H1 => r x H1 Q
/-- ints in, under C, and a value out -/
def rI (C : Int → Int → Prop) (g : Int → Int → V) : R2 := fun x y H Q => ∃ i j, x = .int i ∧ y = .int j ∧ C i j ∧ Q (g i j) H
def rI0 (g : Int → Int → V) : R2 := fun x y H Q => ∃ i j, x = .int i ∧ y = .int j ∧ Q (g i j) H
def rU (g : Int → V) : V → Hp → VK → Prop := fun x H Q => ∃ i, x = .int i ∧ Q (g i) H

section
variable {X : Cx} {a b c : Expr} {ta tb tc : TE} {pos : Pos}

theorem binT (ha : PE X a ta) (hb : PE X b tb) {pins : List (Addr × Obj)} {s : Shared} {σ : St} {H : Hp} {R : V → V → Hp → Prop} (I : Inv X pins σ H s)
    (h : ta σ H fun x H1 => tb σ H1 fun y H2 => R x y H2) {Q : Value → Shared → Prop} {f : Value → Value → Sem Value}
    (hf : ∀ v u s2 x y H2, Inv X pins σ H2 s2 → RelV x v → RelV y u → R x y H2 → wpAny (model X.prog X.w) X.A (f v u) Q X.xe s2) :
    wpAny (model X.prog X.w) X.A (eval a X.env) (fun v s₁ => wpAny (model X.prog X.w) X.A (eval b X.env) (fun u s₂ => wpAny (model X.prog X.w) X.A (f v u) Q X.xe s₂) X.xe s₁) X.xe s := by
  refine thn (ha pins s σ H _ I h) fun v s1 ⟨x, H1, I1, r1, q1⟩ => ?_
  refine thn (hb pins s1 σ H1 _ I1 q1) fun u s2 ⟨y, H2, I2, r2, q2⟩ => ?_
  exact hf v u s2 x y H2 I2 r1 r2 q2

theorem pe_op {op : Operator} {r : R2} (ho : OpR X (binaryOp op) r) (ha : PE X a ta) (hb : PE X b tb) : PE X (.BinOp a op b pos) (tOp r ta tb) := by
  intro pins s σ H Q I h
  exact wpAny_BinOp (binT ha hb I h fun v u s2 x y H2 I2 rx ry q => ho pins s2 σ H2 x y v u Q I2 rx ry q)
theorem pe_un {op : UnaryOp} {r : V → Hp → VK → Prop} (ho : UnR X (unaryOp op) r) (ha : PE X a ta) : PE X (.UnaryOp op a pos) (tUn r ta) := by
  intro pins s σ H Q I h
  exact UnaryOp_ (thn (ha pins s σ H _ I h) fun v s1 ⟨x, H1, I1, r1, q1⟩ => ho pins s1 σ H1 x v Q I1 r1 q1)

/-! ### ints -/
theorem opI {f : Value → Value → Sem Value} {C : Int → Int → Prop} {g : Int → Int → Int}
    (rule : ∀ (i j : Int) (t u : Tok) (s : Shared) (Q : Value → Shared → Prop) (E : Value → Shared → Prop), C i j → Q (.int (g i j) s.toks) { s with toks := s.toks + 1 } → wpAny (model X.prog X.w) X.A (f (.int i t) (.int j u)) Q E s) :
    OpR X f (rI C fun i j => .int (g i j)) := by
  intro pins s σ H x y v u Q I rx ry h
  obtain ⟨i, j, rfl, rfl, hc, q⟩ := h
  obtain ⟨t, rfl⟩ := rx
  obtain ⟨t', rfl⟩ := ry
  exact rule i j t t' s _ _ hc ⟨.int (g i j), H, I.tok _, ⟨_, rfl⟩, q⟩
theorem opI0 {f : Value → Value → Sem Value} {g : Int → Int → Int}
    (rule : ∀ (i j : Int) (t u : Tok) (s : Shared) (Q : Value → Shared → Prop) (E : Value → Shared → Prop), Q (.int (g i j) s.toks) { s with toks := s.toks + 1 } → wpAny (model X.prog X.w) X.A (f (.int i t) (.int j u)) Q E s) :
    OpR X f (rI0 fun i j => .int (g i j)) := by
  intro pins s σ H x y v u Q I rx ry h
  obtain ⟨i, j, rfl, rfl, q⟩ := h
  obtain ⟨t, rfl⟩ := rx
  obtain ⟨t', rfl⟩ := ry
  exact rule i j t t' s _ _ ⟨.int (g i j), H, I.tok _, ⟨_, rfl⟩, q⟩
theorem opB0 {f : Value → Value → Sem Value} {g : Int → Int → Bool}
    (rule : ∀ (i j : Int) (t u : Tok) (s : Shared) (Q : Value → Shared → Prop) (E : Value → Shared → Prop), Q (.bool (g i j)) s → wpAny (model X.prog X.w) X.A (f (.int i t) (.int j u)) Q E s) :
    OpR X f (rI0 fun i j => .bl (g i j)) := by
  intro pins s σ H x y v u Q I rx ry h
  obtain ⟨i, j, rfl, rfl, q⟩ := h
  obtain ⟨t, rfl⟩ := rx
  obtain ⟨t', rfl⟩ := ry
  exact rule i j t t' s _ _ ⟨.bl (g i j), H, I, rfl, q⟩

def CDiv (i j : Int) : Prop := 0 < j ∧ j < 1073741824
def CPow (i j : Int) : Prop := 0 ≤ j ∧ j ≤ 1000000 ∧ i.natAbs < 2 ^ 64
def CMul (i j : Int) : Prop := (-(2 ^ 64) < i ∧ i < 2 ^ 64) ∨ (-(2 ^ 64) < j ∧ j < 2 ^ 64)
theorem CMul.ok {i j : Int} (h : CMul i j) : IntMulOk i j := by
  rcases h with ⟨h1, h2⟩ | ⟨h1, h2⟩
  · exact .of_left (intBits_le_64 h1 h2)
  · exact .of_right (intBits_le_64 h1 h2)

theorem op_add : OpR X (binaryOp .Add) (rI0 fun i j => .int (i + j)) := opI0 fun _ _ _ _ _ _ _ q => add_int q
theorem op_sub : OpR X (binaryOp .Sub) (rI0 fun i j => .int (i - j)) := opI0 fun _ _ _ _ _ _ _ q => sub_int q
theorem op_mul : OpR X (binaryOp .Mult) (rI CMul fun i j => .int (i * j)) := opI fun _ _ _ _ _ _ _ hc q => mul_int q hc.ok
/-- // by a positive divisor -/
theorem op_fdiv : OpR X (binaryOp .FloorDiv) (rI CDiv fun i j => .int (i / j)) := opI fun i j _ _ _ _ _ hc q => by
  have h1 : (0 : Int) < j := hc.1
  have h2 : j < 1073741824 := hc.2
  exact floordiv_int (by omega) (by rw [Int.fdiv_eq_ediv_of_nonneg i (by omega)]; exact q) (.inl (PyProof.noPylong_small (by omega)))
/-- % by a positive divisor of any size -/
theorem op_mod : OpR X (binaryOp .Mod) (rI (fun _ j => 0 < j) fun i j => .int (i % j)) := opI fun i j _ _ _ _ _ hc q => by
  have h1 : (0 : Int) < j := hc
  exact mod_int' (by omega) (by rw [Int.fmod_eq_emod_of_nonneg i (by omega)]; exact q)
theorem op_pow : OpR X (binaryOp .Pow) (rI CPow fun i j => .int (i ^ j.toNat)) := opI fun _ _ _ _ _ _ _ hc q => pow_int_small hc.1 hc.2.1 hc.2.2 q


theorem unI {f : Value → Sem Value} {g : Int → Int}
    (rule : ∀ (i : Int) (t : Tok) (s : Shared) (Q : Value → Shared → Prop) (E : Value → Shared → Prop), Q (.int (g i) s.toks) { s with toks := s.toks + 1 } → wpAny (model X.prog X.w) X.A (f (.int i t)) Q E s) :
    UnR X f (rU fun i => .int (g i)) := by
  intro pins s σ H x v Q I rx h
  obtain ⟨i, rfl, q⟩ := h
  obtain ⟨t, rfl⟩ := rx
  exact rule i t s _ _ ⟨.int (g i), H, I.tok _, ⟨_, rfl⟩, q⟩
theorem un_neg : UnR X (unaryOp .USub) (rU fun i => .int (-i)) := unI fun _ _ _ _ _ q => neg_int q

/-! ### bools among ints: n += (a < b) -/
end

/-! ### comparisons -/
/-- the scalars that == tells apart as data does -/
def scal : V → V → Bool
  | .non, .non => true | .non, .int _ => true | .int _, .non => true | .non, .bl _ => true | .bl _, .non => true | .non, .str _ => true | .str _, .non => true
  | .int _, .int _ => true | .bl _, .bl _ => true | .str _, .str _ => true | .byt _, .byt _ => true
  | .int _, .str _ => true | .str _, .int _ => true | .bl _, .str _ => true | .str _, .bl _ => true
  | _, _ => false
def rEq : R2 := fun x y H Q => scal x y = true ∧ Q (.bl (decide (x = y))) H

theorem dec_int {i j : Int} : decide (V.int i = V.int j) = (i == j) := by
  rw [Bool.eq_iff_iff]
  simp
theorem dec_bl {i j : Bool} : decide (V.bl i = V.bl j) = (i == j) := by
  rw [Bool.eq_iff_iff]
  simp
theorem dec_str {i j : Str} : decide (V.str i = V.str j) = (i == j) := by
  rw [Bool.eq_iff_iff]
  simp
theorem dec_byt {i j : Array UInt8} : decide (V.byt i = V.byt j) = (i.toList == j.toList) := by
  rw [Bool.eq_iff_iff]
  cases i
  cases j
  simp

section
variable {X : Cx} {a b c : Expr} {ta tb tc : TE} {pos : Pos}
theorem fin_bl {pins : List (Addr × Obj)} {σ : St} {H : Hp} {s : Shared} {Q : VK} {k k' : Bool} (I : Inv X pins σ H s) (q : Q (.bl k) H) (e : k = k') : EP X pins σ Q (.bool k') s := by
  subst e
  exact ⟨.bl k, H, I, rfl, q⟩
theorem op_eq : OpR X (compareOp .Eq) rEq := by
  intro pins s σ H x y v u Q I rx ry h
  obtain ⟨hs, q⟩ := h
  cases x with
  | non =>
    cases rx
    cases y with
    | non => cases ry; exact PySem.EqNone.eq_none_none (fin_bl I q (by simp))
    | bl j => cases ry; exact PySem.EqNone.eq_none_bool (fin_bl I q (by simp))
    | int j => obtain ⟨t', rfl⟩ := ry; exact PySem.EqNone.eq_none_int (fin_bl I q (by simp))
    | str j => obtain ⟨t', rfl⟩ := ry; exact PySem.EqNone.eq_none_str (fin_bl I q (by simp))
    | _ => exact absurd (show false = true from hs) Bool.false_ne_true
  | bl i =>
    cases rx
    cases y with
    | non => cases ry; exact PySem.EqNone.eq_bool_none (fin_bl I q (by simp))
    | bl j => cases ry; exact eq_bool (fin_bl I q dec_bl)
    | str j => obtain ⟨t', rfl⟩ := ry; exact PySem.EqMixed.eq_bool_str (fin_bl I q (by simp))
    | _ => exact absurd (show false = true from hs) Bool.false_ne_true
  | int i =>
    obtain ⟨t, rfl⟩ := rx
    cases y with
    | non => cases ry; exact PySem.EqNone.eq_int_none (fin_bl I q (by simp))
    | int j => obtain ⟨t', rfl⟩ := ry; exact eq_int (fin_bl I q dec_int)
    | str j => obtain ⟨t', rfl⟩ := ry; exact PySem.EqMixed.eq_int_str (fin_bl I q (by simp))
    | _ => exact absurd (show false = true from hs) Bool.false_ne_true
  | str i =>
    obtain ⟨t, rfl⟩ := rx
    cases y with
    | non => cases ry; exact PySem.EqNone.eq_str_none (fin_bl I q (by simp))
    | bl j => cases ry; exact PySem.EqMixed.eq_str_bool (fin_bl I q (by simp))
    | int j => obtain ⟨t', rfl⟩ := ry; exact PySem.EqMixed.eq_str_int (fin_bl I q (by simp))
    | str j => obtain ⟨t', rfl⟩ := ry; exact eq_str (fin_bl I q dec_str)
    | _ => exact absurd (show false = true from hs) Bool.false_ne_true
  | byt i =>
    obtain ⟨t, rfl⟩ := rx
    cases y with
    | byt j => obtain ⟨t', rfl⟩ := ry; exact PySem.W.eq_bytes (fin_bl I q dec_byt)
    | _ => exact absurd (show false = true from hs) Bool.false_ne_true
  | _ => cases y <;> exact absurd (show false = true from hs) Bool.false_ne_true

theorem op_lt : OpR X (compareOp .Lt) (rI0 fun i j => .bl (decide (i < j))) := opB0 fun _ _ _ _ _ _ _ q => lt_int q
theorem op_le : OpR X (compareOp .LtE) (rI0 fun i j => .bl (decide (i ≤ j))) := opB0 fun _ _ _ _ _ _ _ q => le_int q
theorem op_ge : OpR X (compareOp .GtE) (rI0 fun i j => .bl (decide (j ≤ i))) := opB0 fun _ _ _ _ _ _ _ q => ge_int q

/-- is None, is not None: the right side a value none -/
theorem op_isN : OpR X (compareOp .Is) (fun x y H Q => y = .non ∧ Q (.bl (decide (x = .non))) H) := by
  intro pins s σ H x y v u Q I rx ry h
  obtain ⟨rfl, q⟩ := h
  cases ry
  refine is_none_gen (fin_bl I q ?_)
  cases x <;> first
    | (cases rx; rfl)
    | (obtain ⟨t, rfl⟩ := rx; rfl)



theorem nomark (b : Expr) {op : CmpOp} (h : op ≠ .In := by decide) (h2 : op ≠ .NotIn := by decide) : behindInMarks op b = false := by
  have e1 : (op == CmpOp.In) = false := by cases op <;> first | rfl | exact absurd rfl h
  have e2 : (op == CmpOp.NotIn) = false := by cases op <;> first | rfl | exact absurd rfl h2
  cases b <;> simp [behindInMarks, e1, e2]
/-- a comparison as a value; hm: nomark b, or (for in, not in) by with_unfolding_all rfl -/
theorem pe_cmpR {op : CmpOp} {r : R2} (ho : OpR X (compareOp op) r) (ha : PE X a ta) (hb : PE X b tb) (hm : behindInMarks op b = false) : PE X (.Compare a [op] [b] pos) (tOp r ta tb) := by
  intro pins s σ H Q I h
  exact wpAny_Compare1 (binT ha hb I h fun v u s2 x y H2 I2 rx ry q => ho pins s2 σ H2 x y v u Q I2 rx ry q) hm
/-- a reading of a value as a test -/
def tTest (t : TE) : TT := fun σ H Q => t σ H fun x H' => ∃ k, x = .bl k ∧ Q k H'
theorem pt_cmpR {op : CmpOp} {r : R2} (ho : OpR X (compareOp op) r) (ha : PE X a ta) (hb : PE X b tb) (hm : behindInMarks op b = false) : PT X (.Compare a [op] [b] pos) (tTest (tOp r ta tb)) := by
  intro pins s σ H Q I h
  refine wpAny_isTrue_Compare1 (thn (ha pins s σ H _ I h) fun v s1 ⟨x, H1, I1, r1, q1⟩ => thn (hb pins s1 σ H1 _ I1 q1) fun u s2 ⟨y, H2, I2, r2, q2⟩ =>
    thn (ho pins s2 σ H2 x y v u _ I2 r1 r2 q2) fun c s3 ⟨z, H3, I3, r3, k, e, q3⟩ => ?_) hm
  subst e
  cases r3
  exact wpAny_truthy_bool ⟨H3, I3, q3⟩
/-- a op1 b op2 c -/
def tChain (r r' : R2) (ta tb tc : TE) : TE := fun σ H Q => ta σ H fun x H1 => tb σ H1 fun y H2 => r x y H2 fun z H3 => ∃ k, z = .bl k ∧
  (if k = true then tc σ H3 fun w' H4 => r' y w' H4 Q else Q (.bl false) H3)
theorem pt_chain {op op' : CmpOp} {r r' : R2} (ho : OpR X (compareOp op) r) (ho' : OpR X (compareOp op') r') (ha : PE X a ta) (hb : PE X b tb) (hc : PE X c tc)
    (hm : lastMarks [op, op'] [b, c] = false := by with_unfolding_all rfl) : PT X (.Compare a [op, op'] [b, c] pos) (tTest (tChain r r' ta tb tc)) := by
  intro pins s σ H Q I h
  refine isTrue_chain (thn (ha pins s σ H _ I h) fun v s1 ⟨x, H1, I1, r1, q1⟩ => test_link (thn (hb pins s1 σ H1 _ I1 q1) fun u s2 ⟨y, H2, I2, r2, q2⟩ =>
    thn (ho pins s2 σ H2 x y v u _ I2 r1 r2 q2) fun d s3 ⟨z, H3, I3, r3, k, e, q3⟩ => ?_)) hm
  subst e
  cases r3
  refine wpAny_truthy_bool ?_
  cases k with
  | false =>
    obtain ⟨k', e', q'⟩ := q3
    cases e'
    exact ite_ff ⟨H3, I3, q'⟩
  | true =>
    refine ite_tt (test_last (thn (hc pins s3 σ H3 _ I3 q3) fun w' s4 ⟨z', H4, I4, r4, q4⟩ => thn (ho' pins s4 σ H4 y z' u w' _ I4 r2 r4 q4) fun d' s5 ⟨z2, H5, I5, r5, k2, e2, q5⟩ => ?_))
    subst e2
    cases r5
    exact wpAny_truthy_bool ⟨H5, I5, q5⟩

/-! ### truth -/
theorem line63 : (sizeLine : Nat) < 2 ^ 63 := by rw [sizeLine_eq]; decide

/-! ### strs and bytes -/


/-! ### scalar builtins, by CallR -/
theorem vals1 {x : V} {us : List Value} (r : Vals [x] us) : ∃ u, us = [u] ∧ RelV x u := by
  cases r with
  | cons r1 r2 => cases r2; exact ⟨_, rfl, r1⟩
end
end L2

namespace L2
open PySem PySem.Spec PyProof.Rows

/-! ### an instance, its attributes a map -/
structure ObjM (h : Heap) (x dx C : Addr) (mA : Str → Option Value) : Prop where
  obj : h.get? x = some (PySem.W.instObj C dx)
  ns : h.Ns1 dx mA
  ne : dx ≠ x

theorem lookIn_ns {h : Heap} {dx : Addr} {mA : Str → Option Value} (n : h.Ns1 dx mA) : ∃ od, h.get? dx = some od ∧ ∀ name, PySem.W.lookIn name od = some (mA name) := by
  obtain ⟨o, es, ep, ho, hd, hk, _, hm⟩ := n
  refine ⟨o, ho, fun name => ?_⟩
  have e := hm name
  unfold nsFind findBy at e
  rw [← Array.find?_toList] at e
  unfold PySem.W.lookIn
  rw [hd]
  dsimp only
  split
  · rename_i y q
    rw [q] at e
    exact congrArg some e
  · rename_i q
    rw [q] at e
    have a : es.toList.any (·.refKey) = false := by
      rw [List.any_eq_false]
      intro y hy
      obtain ⟨z, t, hkey⟩ := hk y (Array.mem_toList_iff.mp hy)
      simp [DictEntry.refKey, hkey]
    have a' : ¬ es.toList.any (·.refKey) = true := by rw [a]; exact Bool.false_ne_true
    rw [if_neg a']
    exact congrArg some e

theorem ObjM.look {h : Heap} {x dx C : Addr} {mA : Str → Option Value} (I : ObjM h x dx C mA) : ∃ od, PySem.W.InstAt h x (PySem.W.instObj C dx) C (some od) ∧ ∀ name, PySem.W.lookIn name od = some (mA name) :=
  let ⟨od, ho, hl⟩ := lookIn_ns I.ns
  ⟨od, ⟨I.obj, rfl, rfl, ho⟩, hl⟩

section
variable {prog : Program} {w : World} {A : Around} {E : Value → Shared → Prop} {s : Shared} {K : PySem.W.Frag} {x dx C f : Addr} {mA : Str → Option Value} {name : Str} {v : Value}

theorem get_map {expr : Bool} {Q : Value → Shared → Prop} (X : K.In s.heap) (I : ObjM s.heap x dx C mA) (hg : PySem.W.plainGet K C name = true) (hh : PySem.W.hasDictIn K C = true)
    (ha : PySem.W.findIn K (.ref C) name = some none) (hv : mA name = some v) (hv' : PySem.W.handedIn v = true) (h : Q v { s with toks := s.toks + 1 }) :
    wpAny (model prog w) A (getAttr (.ref x) name expr) Q E s := by
  obtain ⟨od, J, hl⟩ := I.look
  exact PySem.W.get_value X J (PySem.W.plainGet_of hg).1 (PySem.W.findObj_own hh ha rfl (by rw [hl, hv])) hv' h


theorem get_meth {pl : Sem Bool} {Q : Value × List Value → Shared → Prop} (X : K.In s.heap) (I : ObjM s.heap x dx C mA) (hg : PySem.W.plainGet K C name = true)
    (hf : PySem.W.findIn K (.ref C) name = some (some (.ref f))) (ht : PySem.W.isFn K (.ref f) = true) (hv : mA name = none) (h : Q (.ref f, [.ref x]) s) :
    wpAny (model prog w) A (getMethod (.ref x) name pl) Q E s := by
  obtain ⟨od, J, hl⟩ := I.look
  exact PySem.W.method_fn X J (PySem.W.plainGet_of hg).1 (PySem.W.plainGet_of hg).2 hf (beq_iff_eq.mp ht) (by show (PySem.W.lookIn name od).map (·.isSome) = some false; rw [hl, hv]; rfl) h

theorem set_map {ns : List Str} {Q : Unit → Shared → Prop} (X : K.In s.heap) (I : ObjM s.heap x dx C mA)
    (hs : PySem.W.findIn K (.ref C) "__setattr__" = some (some (.builtin "object.__setattr__"))) (hp : PySem.W.plainOver K C = true) (ht : PySem.W.takerIn K C name = some none) (hh : PySem.W.hasDictIn K C = true)
    (hw : PySem.Within mA ns) (hsz : ns.length ≤ sizeLine)
    (h : ∀ h', ObjM h' x dx C (fun y => if y = name then some v else mA y) → Heap.SameBut dx s.heap h' → Q () { s with heap := h', toks := s.toks + 2 }) :
    wpAny (model prog w) A (setAttr (.ref x) name v) Q E s := by
  obtain ⟨od, J, hl⟩ := I.look
  refine PySem.W.set_plain X J hs (PySem.W.osa_open (s := { s with toks := s.toks + 1 }) (r := none) X J hp ht fun b => ?_)
  obtain ⟨cd, hc, hd'⟩ := PySem.W.any_some hh
  have hx : s.heap.get? x = some ⟨.ref C, some dx, .plain, #[]⟩ := I.obj
  refine wpAny_bind (wpAny_pure (wpAny_bind (wpAny_bind (wpAny_loadPart hx (wpAny_bind (PySem.W.Looks.here (s := { s with toks := s.toks + 1 }) (PySem.W.looks_clsIn X hc) ?_))))))
  rw [hd']
  refine wpAny_pure (a := some dx) (wpAny_bind (wpAny_pure (wpAny_bind ?_)))
  refine wpAny_nsSet1 (s := { s with toks := s.toks + 1 }) I.ns fun h' hn2 hs2 => ?_
  obtain ⟨oD, esD, epD, hoD, hdD, hcD⟩ := hn2.count (PySem.Within.cons name v hw)
  refine wpAny_bind (wpAny_lookBehind hoD (by rw [hdD]; exact pastItsLine_dict (Nat.le_trans hcD (by rw [List.length_cons]; omega))) ?_)
  exact wpAny_pure (h _ ⟨(hs2.2 _ (Ne.symm I.ne)).trans I.obj, hn2, I.ne⟩ hs2)

/-- C(..): the dict at the heap's end, the instance behind it; then its __init__ -/
theorem make_map {R : Result → Shared → Prop} {vs : List Value} {kw : List (Str × Value)} (X : K.In s.heap) (hm : PySem.W.makesIn K C = true)
    (hi : PySem.W.findIn K (.ref C) "__init__" = some (some (.ref f))) (hf : PySem.W.typeIn K (.ref f) = some (.type "function"))
    (h : codeAny (model prog w) (A.under (.builtin "type.__call__" ⟨.ref C :: vs, kw⟩)) (.call (.ref f) ⟨.ref (s.heap.objs.size + 1) :: vs, kw⟩) (PySem.W.InitBack (s.heap.objs.size + 1) R)
      { s with heap := (s.heap.push PySem.W.emptyDict).push (PySem.W.instObj C s.heap.objs.size) }) :
    codeAny (model prog w) A (.call (.ref C) ⟨vs, kw⟩) R s := by
  obtain ⟨hh, g, d, t, os⟩ := s
  exact PySem.W.make_core (PySem.W.makes_of X hm) (PySem.W.looks_findIn X hi) (fun self => PySem.W.bind_fn X self hf) (.inl rfl) h
end

/-! ### the attributes as a list of pairs -/
def putF (f : Str) (v : V) : List (Str × V) → List (Str × V)
  | [] => [(f, v)]
  | (g, x) :: r => if g = f then (g, v) :: r else (g, x) :: putF f v r
theorem lookup_putF (f g : Str) (v : V) : ∀ fs : List (Str × V), (putF f v fs).lookup g = if g = f then some v else fs.lookup g
  | [] => by
    show List.lookup g [(f, v)] = _
    by_cases h : g = f
    · have hb : (g == f) = true := beq_iff_eq.mpr h
      simp only [List.lookup, hb, if_pos h]
    · have hb : (g == f) = false := beq_eq_false_iff_ne.mpr h
      simp only [List.lookup, hb, if_neg h]
  | (k, x) :: r => by
    have ih := lookup_putF f g v r
    rw [show putF f v ((k, x) :: r) = (if k = f then (k, v) :: r else (k, x) :: putF f v r) from rfl]
    by_cases hk : k = f
    · rw [if_pos hk]
      by_cases h : g = k
      · have hb : (g == k) = true := beq_iff_eq.mpr h
        simp only [List.lookup, hb, if_pos (h.trans hk)]
      · have hb : (g == k) = false := beq_eq_false_iff_ne.mpr h
        simp only [List.lookup, hb, if_neg (fun e : g = f => h (e.trans hk.symm))]
    · rw [if_neg hk]
      by_cases h : g = k
      · have hb : (g == k) = true := beq_iff_eq.mpr h
        simp only [List.lookup, hb, if_neg (fun e : g = f => hk (h.symm.trans e))]
      · have hb : (g == k) = false := beq_eq_false_iff_ne.mpr h
        simp only [List.lookup, hb]
        exact ih
theorem keys_putF (f : Str) (v : V) : ∀ fs : List (Str × V), f ∈ (putF f v fs).map (·.1) ∧ ∀ g, g ∈ fs.map (·.1) → g ∈ (putF f v fs).map (·.1)
  | [] => ⟨by simp [putF], fun g h => by simp at h⟩
  | (k, x) :: r => by
    obtain ⟨i1, i2⟩ := keys_putF f v r
    rw [show putF f v ((k, x) :: r) = (if k = f then (k, v) :: r else (k, x) :: putF f v r) from rfl]
    by_cases hk : k = f
    · rw [if_pos hk]
      subst hk
      exact ⟨by simp, fun g h => by simpa using h⟩
    · rw [if_neg hk]
      refine ⟨?_, fun g h => ?_⟩
      · rw [List.map_cons]
        exact List.mem_cons_of_mem _ i1
      · rw [List.map_cons] at h ⊢
        rcases List.mem_cons.mp h with e | e
        · exact List.mem_cons.mpr (.inl e)
        · exact List.mem_cons_of_mem _ (i2 g e)
theorem length_putF (f : Str) (v : V) : ∀ fs : List (Str × V), (putF f v fs).length ≤ fs.length + 1
  | [] => by simp [putF]
  | (k, x) :: r => by
    have ih := length_putF f v r
    rw [show putF f v ((k, x) :: r) = (if k = f then (k, v) :: r else (k, x) :: putF f v r) from rfl]
    by_cases hk : k = f
    · rw [if_pos hk, List.length_cons, List.length_cons]; omega
    · rw [if_neg hk, List.length_cons, List.length_cons]; omega

theorem RelO.some_of {v : V} {o : Option Value} (r : RelO (some v) o) : ∃ u, o = some u ∧ RelV v u := by
  cases o with
  | none => exact (show False from r).elim
  | some u => exact ⟨u, rfl, r⟩
theorem RelO.none_of {o : Option Value} (r : RelO none o) : o = none := by
  cases o with
  | none => rfl
  | some u => exact (show False from r).elim
theorem handed_of {v : V} {u : Value} (r : RelV v u) : PySem.W.handedIn u = true := by
  cases v with
  | non => cases (show u = Value.none from r); rfl
  | bl b => cases (show u = Value.bool b from r); rfl
  | int i => obtain ⟨t, e⟩ := (show ∃ t, u = Value.int i t from r); cases e; rfl
  | str x => obtain ⟨t, e⟩ := (show ∃ t, u = Value.str x t from r); cases e; rfl
  | byt b => obtain ⟨t, e⟩ := (show ∃ t, u = Value.bytes b t from r); cases e; rfl
  | flt b => obtain ⟨t, e⟩ := (show ∃ t, u = Value.float b t from r); cases e; rfl
  | ref a => cases (show u = Value.ref a from r); rfl
  | ty n => cases (show u = Value.type n from r); rfl

section
variable {P : Program} {w : World} {H H' : Hp} {h h' : Heap} {a C dx : Addr} {fs fs' : List (Str × V)}
theorem ins_get (hok : HOk P w H h) (e : H a = some (.ins C dx fs)) : ∃ mA, ObjM h a dx C mA ∧ (∀ f, RelO (fs.lookup f) (mA f)) ∧ PySem.Within mA (fs.map (·.1)) ∧ fs.length ≤ 1000 ∧ H dx = some (.own a) := by
  obtain ⟨d, z, ne, ob, mA, n, r, q⟩ := (show ObjOk P w H h a (.ins C dx fs) from hok a _ e)
  exact ⟨mA, ⟨ob, n, ne⟩, r, q, z, d⟩
end

/-! ### what of the text a class must have -/
structure Cls (K : PySem.W.Frag) (C : Addr) : Prop where
  pg : PySem.W.plainGet K C Str.empty = true
  hd : PySem.W.hasDictIn K C = true
  po : PySem.W.plainOver K C = true
  sa : PySem.W.findIn K (.ref C) "__setattr__" = some (some (.builtin "object.__setattr__"))
theorem Cls.get {K : PySem.W.Frag} {C : Addr} (c : Cls K C) (f : Str) : PySem.W.plainGet K C f = true := c.pg
/-- no class of it has the name -/
def NoAttr (K : PySem.W.Frag) (C : Addr) (f : Str) : Prop := PySem.W.findIn K (.ref C) f = some none
theorem NoAttr.taker {K : PySem.W.Frag} {C : Addr} {f : Str} (n : NoAttr K C f) : PySem.W.takerIn K C f = some none := by
  unfold PySem.W.takerIn
  rw [show PySem.W.findIn K (.ref C) f = some none from n]
  rfl
/-- a method: a plain def of the class or of one above it -/
structure Meth (K : PySem.W.Frag) (C : Addr) (m : Str) (f : Addr) : Prop where
  at_ : PySem.W.findIn K (.ref C) m = some (some (.ref f))
  fn : PySem.W.isFn K (.ref f) = true
  kp : PySem.W.keepIn K (.ref f) = true

section
variable {X : Cx} {pins : List (Addr × Obj)} {σ : St} {H : Hp} {s : Shared} {a C dx : Addr} {fs : List (Str × V)} {f : Str} {v : V} {A : Around} {E : Value → Shared → Prop}

theorem getattr_ok {b : Bool} {Q : Value → Shared → Prop} (I : Inv X pins σ H s) (e : H a = some (.ins C dx fs)) (c : Cls X.K C) (n : NoAttr X.K C f) (l : fs.lookup f = some v)
    (h : ∀ u s', Inv X pins σ H s' → RelV v u → Q u s') : wpAny (model X.prog X.w) A (getAttr (.ref a) f b) Q E s := by
  obtain ⟨mA, O, r, _, _, _⟩ := ins_get I.hok e
  obtain ⟨u, hu, ru⟩ := RelO.some_of (v := v) (o := mA f) (by rw [← l]; exact r f)
  exact get_map I.kIn O (c.get f) c.hd n hu (handed_of ru) (h u _ (I.tok _) ru)


theorem getmeth_ok {m : Str} {g : Addr} {pl : Sem Bool} {Q : Value × List Value → Shared → Prop} (I : Inv X pins σ H s) (e : H a = some (.ins C dx fs)) (c : Cls X.K C) (k : Meth X.K C m g) (l : fs.lookup m = none)
    (h : Q (.ref g, [.ref a]) s) : wpAny (model X.prog X.w) A (getMethod (.ref a) m pl) Q E s := by
  obtain ⟨mA, O, r, _, _, _⟩ := ins_get I.hok e
  have hn : mA m = none := RelO.none_of (by rw [← l]; exact r m)
  exact get_meth I.kIn O (c.get m) k.at_ k.fn hn h

theorem setattr_ok {y : V} {u : Value} {Q : Unit → Shared → Prop} (I : Inv X pins σ H s) (e : H a = some (.ins C dx fs)) (c : Cls X.K C) (n : NoAttr X.K C f) (hl : fs.length < 1000) (ry : RelV y u)
    (h : ∀ s', Inv X pins σ (upd H a (.ins C dx (putF f y fs))) s' → Q () s') : wpAny (model X.prog X.w) A (setAttr (.ref a) f u) Q E s := by
  obtain ⟨mA, O, r, wi, _, ho⟩ := ins_get I.hok e
  have hz : (fs.map (·.1)).length ≤ sizeLine := by rw [List.length_map, sizeLine_eq]; omega
  refine set_map I.kIn O c.sa c.po n.taker c.hd wi hz fun h' O' sb => h _ ?_
  have hd : ∃ o, h'.get? dx = some o := let ⟨o, _, _, e', _⟩ := O'.ns; ⟨o, e'⟩
  refine I.write (x := a) (e := dx) (by rw [e]; exact True.intro) (.inr ho) (fun b q hb z => (sb.2 b hb).trans z) hd ?_
  refine ⟨by rw [upd_ne O.ne]; exact ho, ?_, O.ne, O'.obj, _, O'.ns, fun g => ?_, fun g hg => ?_⟩
  · have := length_putF f y fs; omega
  · show RelO ((putF f y fs).lookup g) (if g = f then some u else mA g)
    rw [lookup_putF]
    by_cases q : g = f
    · rw [if_pos q, if_pos q]; exact ry
    · rw [if_neg q, if_neg q]; exact r g
  · by_cases q : g = f
    · rw [q]; exact (keys_putF f y fs).1
    · refine (keys_putF f y fs).2 g (wi g fun z => hg ?_)
      show (if g = f then some u else mA g) = none
      rw [if_neg q]; exact z

/-- a new instance, tracked, without attributes -/
theorem Inv.made (I : Inv X pins σ H s) : Inv X pins σ (upd (upd H s.heap.objs.size (.own (s.heap.objs.size + 1))) (s.heap.objs.size + 1) (.ins C s.heap.objs.size []))
    { s with heap := (s.heap.push PySem.W.emptyDict).push (PySem.W.instObj C s.heap.objs.size) } := by
  have e1 : (s.heap.push PySem.W.emptyDict).get? s.heap.objs.size = some PySem.W.emptyDict := Heap.get?_push_size s.heap rfl
  have e2 : ((s.heap.push PySem.W.emptyDict).push (PySem.W.instObj C s.heap.objs.size)).get? (s.heap.objs.size + 1) = some (PySem.W.instObj C s.heap.objs.size) := by
    have := Heap.get?_push_size (s.heap.push PySem.W.emptyDict) (o := PySem.W.instObj C s.heap.objs.size) rfl
    rwa [Heap.size_push] at this
  have e3 : (s.heap.push PySem.W.emptyDict).Ns s.heap.objs.size (fun _ => none) := ⟨PySem.W.emptyDict, #[], _, e1, rfl, (fun e he => absurd he (by simp)), fun _ => rfl⟩
  have I1 := I.laid (a := s.heap.objs.size) (o := .own (s.heap.objs.size + 1)) (h' := s.heap.push PySem.W.emptyDict) (t' := s.toks) (fun b u q => Heap.get?_push_of_some _ q) (Nat.le_refl _) ⟨_, e1⟩
  refine I1.laid (a := s.heap.objs.size + 1) (o := .ins C s.heap.objs.size []) (t' := s.toks) (fun b u q => Heap.get?_push_of_some _ q) (Nat.le_of_eq (Heap.size_push _ _)) ?_
  have ne : s.heap.objs.size ≠ s.heap.objs.size + 1 := Nat.ne_of_lt (Nat.lt_succ_self _)
  refine ⟨by rw [upd_ne ne, upd_same], Nat.zero_le _, ne, e2, fun _ => none, (Heap.Ns1.of_empty e3).at fun o q => Heap.get?_push_of_some _ q, fun _ => True.intro, fun y hy => absurd rfl hy⟩

/-- e.f where nothing but the object is asked: through attributeBase (super) and the last hold -/
theorem attr_of {prog : Program} {w : World} {env : Env} {e : Expr} {f : Str} {pos : Pos} {s : Shared} {Q : Value → Shared → Prop} (hb : attributeBase e f env (eval e env) = eval e env)
    (h : wpAny (model prog w) A (eval e env) (fun o s₁ => wpAny (model prog w) A (getAttr o f true) Q E s₁) E s) : wpAny (model prog w) A (eval (.Attribute e f pos) env) Q E s :=
  Attribute_any_ h (by rw [arm_eval_Attribute, hb])
end

/-! ### readings and rules -/
/-- e.f, an attribute of the instance -/
def tFld (K : PySem.W.Frag) (ta : TE) (f : Str) : TE := fun σ H Q => ta σ H fun x H1 => ∃ a C dx fs v, x = .ref a ∧ H1 a = some (.ins C dx fs) ∧ Cls K C ∧ NoAttr K C f ∧ fs.lookup f = some v ∧ Q v H1
/-- e.f = value -/
def sFld (K : PySem.W.Frag) (ta tv : TE) (f : Str) : TS := fun D σ H => tv σ H fun y H1 => ta σ H1 fun x H2 => ∃ a C dx fs, x = .ref a ∧ H2 a = some (.ins C dx fs) ∧ Cls K C ∧ NoAttr K C f ∧ fs.length < 1000 ∧
  D.nx σ (upd H2 a (.ins C dx (putF f y fs)))

section
variable {X : Cx} {o e value : Expr} {f : Str} {pos pos' tpos : Pos} {ta tv : TE}
theorem pe_fld (he : PE X e ta) (hb : attributeBase e f X.env (eval e X.env) = eval e X.env) : PE X (.Attribute e f pos) (tFld X.K ta f) := by
  intro pins s σ H Q I h
  refine attr_of hb (thn (he pins s σ H _ I h) fun u s1 ⟨x, H1, I1, rx, a, C, dx, fs, v, ex, ea, c, n, l, q⟩ => ?_)
  subst ex
  obtain rfl : u = Value.ref a := rx
  exact getattr_ok I1 ea c n l fun u' s2 I2 ru => ⟨v, H1, I2, ru, q⟩
theorem ps_fld (ha : PE X o ta) (hv : PE X value tv) (hs : swapsWith value (some (.Attribute o f pos')) pos.line X.env = pure false) : PS X (.Assign [.Attribute o f pos'] value pos) (sFld X.K ta tv f) := by
  intro pins s σ H D I h
  refine plainObj_wpAny_Assign_Attribute (thn (hv pins s σ H _ I h) fun u s1 ⟨y, H1, I1, ry, q⟩ => thn (ha pins s1 σ H1 _ I1 q) fun ov s2 ⟨x, H2, I2, rx, a, C, dx, fs, ex, ea, c, n, l, q2⟩ => ?_) hs
  subst ex
  obtain rfl : ov = Value.ref a := rx
  exact setattr_ok I2 ea c n l ry fun s3 I3 => ⟨σ, _, I3, q2⟩

end

/-! ### isinstance -/
section
variable {X : Cx} {pins : List (Addr × Obj)} {σ : St} {H : Hp} {s : Shared} {A : Around} {E : Value → Shared → Prop} {Q : Value → Shared → Prop} {c : Value} {b : Bool}
end
end L2

namespace L2
open PySem PySem.Spec PyProof.Rows

/-! ### room -/
structure Room (k : Nat) (A : Around) : Prop where
  hd : A.handled = none
  dp : A.depth + 3 * k + 5 < recursionLimit
  un : A.units + 16 * k + 200 < cLine
theorem Room.mono {j k : Nat} {A : Around} (r : Room k A) (h : j ≤ k) : Room j A := ⟨r.hd, by have := r.dp; omega, by have := r.un; omega⟩
theorem Room.deeper {k : Nat} {A : Around} (r : Room (k + 1) A) (env : Env) : Room k (A.deeper env) :=
  ⟨r.hd, by have := r.dp; show A.depth + 1 + 3 * k + 5 < _; omega, by have := r.un; show A.units + 3 + 16 * k + 200 < _; omega⟩
theorem make_depth {A : Around} {C : Addr} {us : List Value} {kw : List (Str × Value)} : (A.under (.builtin "type.__call__" ⟨.ref C :: us, kw⟩)).depth = A.depth + 1 := by
  first | rfl | simp [Around.under, Code.weight, Code.isCreation, Code.isGuard, Code.isCaller, Code.frames, Code.isFrame, guardIds]
theorem make_units {A : Around} {C : Addr} {us : List Value} {kw : List (Str × Value)} : (A.under (.builtin "type.__call__" ⟨.ref C :: us, kw⟩)).units = A.units + 1 := by
  first | rfl | simp [Around.under, Code.cUnits, Code.frames, Code.isFrame]
theorem Room.make {k : Nat} {A : Around} (r : Room (k + 1) A) (C : Addr) (us : List Value) (kw : List (Str × Value)) : Room k (A.under (.builtin "type.__call__" ⟨.ref C :: us, kw⟩)) :=
  ⟨r.hd, by have := r.dp; rw [make_depth]; omega, by have := r.un; rw [make_units]; omega⟩
theorem Room.depth {k : Nat} {A : Around} (r : Room k A) : A.depth < recursionLimit := by have := r.dp; omega
theorem Room.units {k : Nat} {A : Around} (r : Room k A) : A.units + 64 < cLine := by have := r.un; omega
theorem Room.units0 {k : Nat} {A : Around} (r : Room k A) : A.units < cLine := by have := r.un; omega

/-! ### argument lists and displays -/
def tNil : TA := fun _ H Q => Q [] H
def tCons (ta : TE) (tr : TA) : TA := fun σ H Q => ta σ H fun x H1 => tr σ H1 fun xs H2 => Q (x :: xs) H2
section
variable {X : Cx} {e : Expr} {es : List Expr} {te : TE} {t : TA} {pos : Pos}
theorem pa_nil : PA X [] tNil := fun _ _ _ _ H Q I h => Calls.spliced_nil ⟨[], H, I, .nil, h⟩
theorem pa_cons (ha : PE X e te) (hr : PA X es t) (hs : starEach (e :: es) X.env = (false, eval e X.env) :: starEach es X.env := by rfl) : PA X (e :: es) (tCons te t) := by
  intro pos pins s σ H Q I h
  rw [hs]
  show wpAny _ _ (spliced ((false, eval e X.env) :: backTo pos (starEach es X.env))) _ _ s
  refine Calls.spliced_cons (thn (ha pins s σ H _ I h) fun u s1 ⟨x, H1, I1, r1, q1⟩ => ?_)
  exact thn (hr pos pins s1 σ H1 _ I1 q1) fun us s2 ⟨xs, H2, I2, r2, q2⟩ => ⟨x :: xs, H2, I2, .cons r1 r2, q2⟩

/-- a tuple, a list of written items -/
def tTup (t : TA) : TE := fun σ H Q => t σ H fun xs H1 => xs.length ≤ sizeLine ∧ ∀ p, H1 p = none → Q (.ref p) (upd H1 p (.tup xs))
def tLst (t : TA) : TE := fun σ H Q => t σ H fun xs H1 => xs.length ≤ sizeLine ∧ ∀ p, H1 p = none → Q (.ref p) (upd H1 p (.lst xs))
theorem pe_tup {x1} (h : PA X es t) : PE X (.Tuple es x1 pos) (tTup t) := by
  intro pins s σ H Q I hq
  refine wpAny_Tuple_spliced (thn (h pos pins s σ H _ I hq) fun us s1 ⟨xs, H1, I1, r, z, q⟩ => ⟨by rw [← r.length]; exact z, ?_⟩)
  have hf : H1 s1.heap.objs.size = none := I1.hok.fresh (Nat.le_refl _)
  refine ⟨.ref s1.heap.objs.size, upd H1 s1.heap.objs.size (.tup xs), I1.laid (t' := s1.toks) (fun b u e => Heap.get?_push_of_some _ e) (Nat.le_refl _) ?_, rfl, q _ hf⟩
  exact ⟨z, us, r, ⟨_, Heap.get?_push_size _ rfl, rfl, _, rfl⟩⟩
theorem pe_lst (h : PA X es t) : PE X (.List es pos) (tLst t) := by
  intro pins s σ H Q I hq
  refine wpAny_List_spliced (thn (h pos pins s σ H _ I hq) fun us s1 ⟨xs, H1, I1, r, z, q⟩ => ⟨by rw [← r.length]; exact z, ?_⟩)
  have hf : H1 s1.heap.objs.size = none := I1.hok.fresh (Nat.le_refl _)
  refine ⟨.ref s1.heap.objs.size, upd H1 s1.heap.objs.size (.lst xs), I1.laid (t' := s1.toks) (fun b u e => Heap.get?_push_of_some _ e) (Nat.le_refl _) ?_, rfl, q _ hf⟩
  exact ⟨z, us, 0, r, Heap.get?_push_size _ rfl⟩
end

/-! ### what a def promises -/
/-- a def's promise: the bound arguments in the parameters' order, the heap, the wanted end, the wanted exception -/
abbrev Sp := List V → Hp → VK → XK → Prop
/-- how an exception lies behind a call (file 08 gives it): the callers' frames, abstract heap and state ahead of the call, the wish, the exception, the state -/
abbrev CXT := List Env → Hp → Shared → XK → Value → Shared → Prop

/-- the state at a call -/
structure Env0 (P : Program) (w : World) (K : PySem.W.Frag) (mg : Str → Option Value) (base : Heap) (A : Around) (outer : List Env) (s : Shared) (H : Hp) : Prop where
  frames : A.frames = some outer
  mod : Mod K mg base
  bs : ∀ b o, base.get? b = some o → s.heap.get? b = some o ∧ H b = none
  bsz : base.objs.size ≤ s.heap.objs.size
  funs : s.heap.FunFrames base outer
  frf : ∀ b ∈ frs outer, H b = none
  hok : HOk P w H s.heap
  bare : AllBare s.gens
/-- a call's end -/
def CE (outer : List Env) (P : Program) (w : World) (H : Hp) (s : Shared) (Q : VK) (u : Value) (s' : Shared) : Prop :=
  ∃ v H', s'.os = s.os ∧ AllBare s'.gens ∧ Un (frs outer) [] H H' s.heap s'.heap ∧ HOk P w H' s'.heap ∧ RelV v u ∧ Q v H'
def CR (CX : CXT) (outer : List Env) (P : Program) (w : World) (H : Hp) (s : Shared) (Q : VK) (E : XK) (r : Result) (s' : Shared) : Prop :=
  match r with
  | .ok (.ret u) => CE outer P w H s Q u s'
  | .ok _ => False
  | .error e => CX outer H s E e s'
structure FnOk (P : Program) (w : World) (K : PySem.W.Frag) (mg : Str → Option Value) (base : Heap) (CX : CXT) (k : Nat) (f : Addr) (fd : FuncData) (ps : List Str) (sp : Sp) : Prop where
  len : ∀ vs H Q E, sp vs H Q E → vs.length = ps.length
  run : ∀ (A : Around) (outer : List Env) (s : Shared) (H : Hp) (args : Args) (us : List Value) (vs : List V) (Q : VK) (E : XK), Room k A → Env0 P w K mg base A outer s H → BindsTo s fd args (ps.zip us) → Vals vs us → sp vs H Q E →
    codeAny (model P w) A (.call (.ref f) args) (CR CX outer P w H s Q E) s
theorem FnOk.mono {P : Program} {w : World} {K : PySem.W.Frag} {mg : Str → Option Value} {base : Heap} {CX : CXT} {j k : Nat} {f : Addr} {fd : FuncData} {ps : List Str} {sp : Sp} (F : FnOk P w K mg base CX j f fd ps sp) (h : j ≤ k) :
    FnOk P w K mg base CX k f fd ps sp := ⟨F.len, fun A outer s H args us vs Q E hr => F.run A outer s H args us vs Q E (hr.mono h)⟩

theorem Env0.make {P : Program} {w : World} {K : PySem.W.Frag} {mg : Str → Option Value} {base : Heap} {A : Around} {outer : List Env} {s : Shared} {H : Hp} (e : Env0 P w K mg base A outer s H) (C : Addr) (us : List Value) (kw : List (Str × Value)) :
    Env0 P w K mg base (A.under (.builtin "type.__call__" ⟨.ref C :: us, kw⟩)) outer s H := ⟨by first | exact e.frames | (simpa [Around.under, Code.envs, Code.isFrame, pushEnvs] using e.frames), e.mod, e.bs, e.bsz, e.funs, e.frf, e.hok, e.bare⟩

section
variable {X : Cx} {pins : List (Addr × Obj)} {σ : St} {H : Hp} {s s' : Shared}
/-- from a body: what a callee wants -/
theorem Inv.env0 (I : Inv X pins σ H s) : Env0 X.prog X.w X.K X.mg X.base X.A X.stack s H :=
  ⟨I.ok.frames, I.ok.mod, I.bs, Nat.le_trans I.ok.bsz I.sz, I.stack, I.stkFree, I.hok, I.bare⟩
/-- behind a call -/
theorem Inv.after {Q : VK} {u : Value} (I : Inv X pins σ H s) (h : CE X.stack X.prog X.w H s Q u s') : EP X pins σ Q u s' := by
  obtain ⟨v, H', os, bare, un, hok, r, q⟩ := h
  obtain ⟨hh, g, d, t, os'⟩ := s'
  obtain rfl : os' = s.os := os
  exact ⟨v, H', I.call (h' := hh) (g' := g) (d' := d) (t' := t) (ch := []) un hok bare (fun b z => absurd z (by simp)), r, q⟩
end

/-! ### calls -/
/-- f(..): the written arguments, then the defaults dvs; E: what is wanted of an exception -/
def tCall (sp : Sp) (dvs : List V) (E : XK) (t : TA) : TE := fun σ H Q => t σ H fun vs H1 => sp (vs ++ dvs) H1 Q E
/-- o.m(..) of an instance of the class at C -/
def tMeth (C : Addr) (m : Str) (sp : Sp) (dvs : List V) (E : XK) (ta : TE) (t : TA) : TE := fun σ H Q => ta σ H fun x H1 => ∃ a dx fs, x = .ref a ∧ H1 a = some (.ins C dx fs) ∧ fs.lookup m = none ∧
  t σ H1 fun vs H2 => sp (x :: (vs ++ dvs)) H2 Q E
/-- C(..): a new instance and its dict, then __init__ -/
def tMake (C : Addr) (sp : Sp) (dvs : List V) (E : XK) (t : TA) : TE := fun σ H Q => t σ H fun vs H1 => ∀ x dx, H1 x = none → H1 dx = none → dx ≠ x →
  sp (.ref x :: (vs ++ dvs)) (upd (upd H1 dx (.own x)) x (.ins C dx [])) (fun v H2 => v = .non ∧ Q (.ref x) H2) E

/-- how the parameters are bound: us the positional arguments, kw the keywords' values by name, ds the defaults that fill up -/
def Binds (K : PySem.W.Frag) (fd : FuncData) (ps : List Str) (ds : List Value) : Prop :=
  ∀ (s : Shared) (us : List Value), K.In s.heap → (us ++ ds).length = ps.length → BindsTo s fd ⟨us, []⟩ (ps.zip (us ++ ds))
/-- every parameter is given -/
theorem Binds.all {K : PySem.W.Frag} {fd : FuncData} {ps : List Str} (h : ∀ us : List Value, us.length = ps.length → bindArgs fd ⟨us, []⟩ = pure (ps.zip us)) : Binds K fd ps [] := fun s us _ hl => by
  rw [List.append_nil] at hl ⊢
  exact .of_eq (h us hl)

/-- an exception of a callee reaches what this body wants of exceptions -/
def Passes (CX : CXT) (X : Cx) (E : XK) : Prop := ∀ (pins : List (Addr × Obj)) (σ : St) (H : Hp) (s : Shared) (e : Value) (s' : Shared), Inv X pins σ H s → CX X.stack H s E e s' → X.xe e s'

section
variable {X : Cx} {CX : CXT} {k : Nat} {f C : Addr} {fd : FuncData} {ps : List Str} {sp : Sp} {dvs : List V} {ds : List Value} {E : XK} {x m : Str} {p pos apos : Pos} {e o : Expr} {es : List Expr} {ta : TE} {t : TA}

/-- the callee runs -/
theorem run_fn {pins : List (Addr × Obj)} {σ : St} {H : Hp} {s : Shared} {Q : VK} {us : List Value} {vs : List V} (F : FnOk X.prog X.w X.K X.mg X.base CX k f fd ps sp) (hr : Room k X.A) (hb : Binds X.K fd ps ds) (hd : Vals dvs ds) (hx : Passes CX X E)
    (I : Inv X pins σ H s) (r : Vals vs us) (h : sp (vs ++ dvs) H Q E) : wpAny (model X.prog X.w) X.A (call (.ref f) us) (EP X pins σ Q) X.xe s := by
  have r2 : Vals (vs ++ dvs) (us ++ ds) := r.append hd
  have hl : (us ++ ds).length = ps.length := by rw [← r2.length]; exact F.len _ _ _ _ h
  refine wpAny_call (codeAny_mono (F.run X.A X.stack s H ⟨us, []⟩ (us ++ ds) (vs ++ dvs) Q E hr I.env0 (hb s us I.kIn hl) r2 h) fun r s' hq => ?_)
  cases r with
  | error e => exact hx pins σ H s e s' I hq
  | ok fl =>
    cases fl with
    | ret u => exact I.after hq
    | next => exact False.elim hq
    | brk => exact False.elim hq
    | cont => exact False.elim hq

theorem pe_call (F : FnOk X.prog X.w X.K X.mg X.base CX k f fd ps sp) (hr : Room k X.A) (hg : Gl X x) (hm : X.mg x = some (.ref f)) (hk : PySem.W.keepIn X.K (.ref f) = true) (hb : Binds X.K fd ps ds) (hd : Vals dvs ds) (hx : Passes CX X E)
    (ha : PA X (e :: es) t) (hdb : (x == ("__debug__" : Str)) = false := by decide) (he : starEach (e :: es) X.env = (false, eval e X.env) :: starEach es X.env := by rfl) (hpl : (backTo pos (starEach es X.env)).any (·.1) = false := by rfl) :
    PE X (.Call (.Name x p) (e :: es) [] pos) (tCall sp dvs E t) := by
  intro pins s σ H Q I h
  refine wpAny_Call_Name_kw (ld_glob I hg hm ?_ hdb)
  refine PySem.W.callWith_K (h₀ := X.base) I.ok.mod.kin hk (thn (ha pos pins s σ H _ I h) fun us s1 ⟨vs, H1, I1, r, q⟩ => ⟨I1.kIn, ?_⟩) he hpl
  exact run_fn F hr hb hd hx I1 r q

/-- o.m() -/
theorem pe_meth0 {pl : Sem Bool} (he : PE X o ta) (c : Cls X.K C) (hm : Meth X.K C m f) (F : FnOk X.prog X.w X.K X.mg X.base CX k f fd ps sp) (hr : Room k X.A) (hb : Binds X.K fd ps ds) (hd : Vals dvs ds) (hx : Passes CX X E)
    (ht : eval (.Call (.Attribute o m apos) [] [] pos) X.env = (do
      let ov ← eval o X.env
      standAt apos.atName
      let (f, first) ← holding [ov] (getMethod ov m pl)
      callWith pos f first (backTo pos (starEach [] X.env)) (backToKw pos (keywordEach [] X.env))) := by rfl) :
    PE X (.Call (.Attribute o m apos) [] [] pos) (tMeth C m sp dvs E ta tNil) := by
  intro pins s σ H Q I h
  refine PySem.W.methodCall_KW (pl := pl) (thn (he pins s σ H _ I h) fun u s1 ⟨x, H1, I1, rx, a, dx, fs, ex, ea, l, q⟩ => ?_) ht
  subst ex
  obtain rfl : u = Value.ref a := rx
  refine getmeth_ok I1 ea c hm l ?_
  exact PySem.W.callWith_K0 (first := [.ref a]) I1.kIn hm.kp (run_fn (us := [.ref a]) (vs := [.ref a]) F hr hb hd hx I1 (.cons rfl .nil) q)

/-- what a class must have to be made -/
structure Mk (K : PySem.W.Frag) (C f : Addr) : Prop where
  makes : PySem.W.makesIn K C = true
  init : PySem.W.findIn K (.ref C) "__init__" = some (some (.ref f))
  fn : PySem.W.isFn K (.ref f) = true
  kp : PySem.W.keepIn K (.ref C) = true

theorem run_make {pins : List (Addr × Obj)} {σ : St} {H : Hp} {s : Shared} {Q : VK} {us : List Value} {vs : List V} (M : Mk X.K C f) (F : FnOk X.prog X.w X.K X.mg X.base CX k f fd ps sp) (hr : Room (k + 1) X.A) (hb : Binds X.K fd ps ds) (hd : Vals dvs ds)
    (hx : Passes CX X E) (I : Inv X pins σ H s) (r : Vals vs us)
    (h : ∀ x dx, H x = none → H dx = none → dx ≠ x → sp (.ref x :: (vs ++ dvs)) (upd (upd H dx (.own x)) x (.ins C dx [])) (fun v H2 => v = .non ∧ Q (.ref x) H2) E) :
    wpAny (model X.prog X.w) X.A (call (.ref C) us) (EP X pins σ Q) X.xe s := by
  have hq := h (s.heap.objs.size + 1) s.heap.objs.size (I.hok.fresh (Nat.le_succ _)) (I.hok.fresh (Nat.le_refl _)) (Nat.ne_of_lt (Nat.lt_succ_self _))
  have I2 := Inv.made (C := C) I
  have r2 : Vals (V.ref (s.heap.objs.size + 1) :: (vs ++ dvs)) (Value.ref (s.heap.objs.size + 1) :: (us ++ ds)) := .cons rfl (r.append hd)
  have hl : (Value.ref (s.heap.objs.size + 1) :: us ++ ds).length = ps.length := by
    have e := r2.length
    rw [F.len _ _ _ _ hq] at e
    exact e.symm
  refine wpAny_call (make_map (f := f) I.kIn M.makes M.init (beq_iff_eq.mp M.fn) (codeAny_mono (F.run _ X.stack _ _ ⟨Value.ref (s.heap.objs.size + 1) :: us, []⟩ (Value.ref (s.heap.objs.size + 1) :: (us ++ ds)) _ _ E (hr.make C us [])
    (I2.env0.make C us []) (hb _ (Value.ref (s.heap.objs.size + 1) :: us) I2.kIn hl) r2 hq) fun r s' hq' => ?_))
  cases r with
  | error e => exact hx pins σ _ _ e s' I2 hq'
  | ok fl =>
    cases fl with
    | ret u =>
      obtain ⟨v, H', I3, rv, ev, q3⟩ := I2.after hq'
      subst ev
      exact ⟨rv, ⟨V.ref (s.heap.objs.size + 1), H', I3, rfl, q3⟩⟩
    | next => exact False.elim hq'
    | brk => exact False.elim hq'
    | cont => exact False.elim hq'
theorem pe_make (M : Mk X.K C f) (F : FnOk X.prog X.w X.K X.mg X.base CX k f fd ps sp) (hr : Room (k + 1) X.A) (hg : Gl X x) (hm : X.mg x = some (.ref C)) (hb : Binds X.K fd ps ds) (hd : Vals dvs ds) (hx : Passes CX X E)
    (ha : PA X (e :: es) t) (hdb : (x == ("__debug__" : Str)) = false := by decide) (he : starEach (e :: es) X.env = (false, eval e X.env) :: starEach es X.env := by rfl) (hpl : (backTo pos (starEach es X.env)).any (·.1) = false := by rfl) :
    PE X (.Call (.Name x p) (e :: es) [] pos) (tMake C sp dvs E t) := by
  intro pins s σ H Q I h
  refine wpAny_Call_Name_kw (ld_glob I hg hm ?_ hdb)
  refine PySem.W.callWith_K (h₀ := X.base) I.ok.mod.kin M.kp (thn (ha pos pins s σ H _ I h) fun us s1 ⟨vs, H1, I1, r, q⟩ => ⟨I1.kIn, ?_⟩) he hpl
  exact run_make M F hr hb hd hx I1 r q
end

/-! ### keywords -/
section
variable {X : Cx} {CX : CXT} {k : Nat} {f C : Addr} {fd : FuncData} {ps ks : List Str} {sp : Sp} {E : XK} {x m : Str} {p pos apos kpos : Pos} {e o : Expr} {es : List Expr} {kws : List Keyword} {te ta : TE} {t tk : TA} {nm : Option Str}

variable {g : List Value → List Value → List Value} {gV : List V → List V → List V}
end

/-! ### a def's body keeps its promise -/
/-- names: the parameters first -/
structure FnScope (N P : List Str) (sc : Scope) : Prop where
  kind : sc.kind = .function
  co : sc.isCoroutine = false
  gen : sc.isGenerator = false
  nd : N.Nodup
  pre : N.take P.length = P
  par : ∀ x ∈ P, sc.names.lookup x = some .local ∨ sc.names.lookup x = some .cell
  nofree : ∀ y ∈ sc.names, y.2 ≠ .free

theorem bindL_out {kindOf : Str → Option NameKind} {x : Str} : ∀ {binds : List (Str × Value)} {m : Str → Option Value}, (∀ v, (x, v) ∉ binds) → bindL kindOf binds m x = m x
  | [], _, _ => rfl
  | (n, v) :: r, m, h => by
    unfold bindL
    rw [bindL_out fun w hw => h w (List.mem_cons_of_mem _ hw)]
    split
    · have : x ≠ n := by rintro rfl; exact h v List.mem_cons_self
      simp [this]
    · rfl
theorem bindC_out {kindOf : Str → Option NameKind} {x : Str} : ∀ {binds : List (Str × Value)} {m : Str → Option Value}, (∀ v, (x, v) ∉ binds) → bindC kindOf binds m x = m x
  | [], _, _ => rfl
  | (n, v) :: r, m, h => by
    unfold bindC
    rw [bindC_out fun w hw => h w (List.mem_cons_of_mem _ hw)]
    split
    · rfl
    · have : x ≠ n := by rintro rfl; exact h v List.mem_cons_self
      simp [this]
theorem bindL_get {kindOf : Str → Option NameKind} {x : Str} {v : Value} : ∀ {P : List Str} {vs : List Value} {i : Nat} {m : Str → Option Value}, P.Nodup → P[i]? = some x → vs[i]? = some v → kindOf x = some .local →
    bindL kindOf (P.zip vs) m x = some v
  | [], _, _, _, _, h, _, _ => by simp at h
  | _ :: _, [], _, _, _, _, h, _ => by simp at h
  | p :: P, w :: vs, 0, m, nd, h1, h2, hk => by
    simp at h1 h2; subst h1; subst h2
    show bindL kindOf ((p, w) :: P.zip vs) m p = _
    unfold bindL
    rw [bindL_out fun v hv => (List.nodup_cons.mp nd).1 (List.of_mem_zip hv).1, if_pos hk]
    simp
  | p :: P, w :: vs, i + 1, m, nd, h1, h2, hk => by
    show bindL kindOf ((p, w) :: P.zip vs) m x = _
    unfold bindL
    exact bindL_get (i := i) (List.nodup_cons.mp nd).2 (by simpa using h1) (by simpa using h2) hk
theorem bindC_get {kindOf : Str → Option NameKind} {x : Str} {v : Value} : ∀ {P : List Str} {vs : List Value} {i : Nat} {m : Str → Option Value}, P.Nodup → P[i]? = some x → vs[i]? = some v → kindOf x ≠ some .local →
    bindC kindOf (P.zip vs) m x = some v
  | [], _, _, _, _, h, _, _ => by simp at h
  | _ :: _, [], _, _, _, _, h, _ => by simp at h
  | p :: P, w :: vs, 0, m, nd, h1, h2, hk => by
    simp at h1 h2; subst h1; subst h2
    show bindC kindOf ((p, w) :: P.zip vs) m p = _
    unfold bindC
    rw [bindC_out fun v hv => (List.nodup_cons.mp nd).1 (List.of_mem_zip hv).1, if_neg hk]
    simp
  | p :: P, w :: vs, i + 1, m, nd, h1, h2, hk => by
    show bindC kindOf ((p, w) :: P.zip vs) m x = _
    unfold bindC
    exact bindC_get (i := i) (List.nodup_cons.mp nd).2 (by simpa using h1) (by simpa using h2) hk

/-- the names' values at the entry -/
def start (N : List Str) (vs : List V) : St := vs.map some ++ List.replicate (N.length - vs.length) none

/-- the context of a def's body, at its entry; an exception leaves the frame, then lies as CX says -/
def cxOf (CX : CXT) (P : Program) (w : World) (K : PySem.W.Frag) (mg : Str → Option Value) (base : Heap) (N : List Str) (qual : Str) (scope : Scope) (f : Addr) (cd : Value) (A : Around) (outer : List Env) (s : Shared) (H : Hp) (E : XK) : Cx where
  prog := P
  w := w
  K := K
  mg := mg
  base := base
  A := A.deeper (envOfC qual scope s.heap.objs.size f cd)
  N := N
  s₀ := s
  H₀ := H
  env := envOfC qual scope s.heap.objs.size f cd
  outer := outer
  stack := envOfC qual scope s.heap.objs.size f cd :: outer
  ex := []
  calm := true
  fn := fun _ => true
  pn := []
  xe := fun e s' => wpAny (model P w) (A.deeper (envOfC qual scope s.heap.objs.size f cd)) (leaving (envOfC qual scope s.heap.objs.size f cd) e) (fun _ s'' => CX outer H s E e s'') (fun e' s'' => CX outer H s E e' s'') s'

theorem cell_has {sc : Scope} {n : Nat} {x : Str} (h : sc.names.lookup x = some .cell) : ∃ c, (cellsFrom n sc.names []).lookup x = some c := by
  have q := PySem.W.cellsFrom_some sc.names n [] (.inl h)
  exact Option.isSome_iff_exists.mp q

theorem inv_start {CX : CXT} {P : Program} {w : World} {K : PySem.W.Frag} {mg : Str → Option Value} {base : Heap} {N ps : List Str} {qual : Str} {scope : Scope} {f : Addr} {cd : Value} {A : Around} {outer : List Env} {s s1 : Shared} {H : Hp} {E : XK} {us : List Value} {vs : List V}
    (S : FnScope N ps scope) (hd : A.handled = none) (e0 : Env0 P w K mg base A outer s H) (hl : vs.length = ps.length) (r : Vals vs us)
    (x : InCallC s s.heap.objs.size (bindL (envOfC qual scope s.heap.objs.size f cd).kindOf (ps.zip us) fun _ => none) (cellsFrom (s.heap.objs.size + 1) scope.names []) (bindC (envOfC qual scope s.heap.objs.size f cd).kindOf (ps.zip us) fun _ => none) s1) :
    Inv (cxOf CX P w K mg base N qual scope f cd A outer s H E) [] (start N vs) H s1 := by
  have hpl : ps.length ≤ N.length := by have := congrArg List.length S.pre; rw [List.length_take] at this; omega
  obtain ⟨h1, tk, rfl, hk⟩ := x.done
  have noA : ∀ b : Addr, b ∉ (cxOf CX P w K mg base N qual scope f cd A outer s H E).ex := fun b z => absurd (show b ∈ ([] : List Addr) from z) (by simp)
  refine ⟨⟨e0.mod, S.kind, rfl, rfl, Nat.le_refl _, fun y z c h1 h2 => ?_, fun y hy => ?_, fun y c _ h => ?_, fun _ => hd, Around.frames_deeper e0.frames, .inr ⟨rfl, rfl⟩, fun b z => absurd z (noA b), e0.bs, e0.bsz, fun b _ _ => noA b, fun b z => absurd z (noA b), e0.funs, e0.frf⟩,
    rfl, e0.bare, Un.kept hk, ⟨_, x.toInCall.ns, fun i y v h1 h2 h3 => ?_⟩, fun y c h => ⟨_, x.cell y c h⟩, e0.hok.fresh (Nat.le_refl _), fun y c h => ?_, fun p hp => absurd (show p ∈ ([] : List (Addr × Obj)) from hp) (by simp), e0.hok.kept hk, ?_⟩
  · exact name_of_addr x.apart (PySem.mem_of_lookup h1) (PySem.mem_of_lookup h2)
  · have hy : scope.names.lookup y = some .cell ∨ scope.names.lookup y = some .free := hy
    rcases hy with hy | hy
    · exact cell_has hy
    · exact absurd rfl (S.nofree _ (PySem.mem_of_lookup hy))
  · exact Nat.le_of_lt (x.above y c (PySem.mem_of_lookup h))
  · have hi : i < vs.length := by
      unfold start at h2
      by_cases hi : i < vs.length
      · exact hi
      · rw [List.getElem?_append_right (by simpa using hi)] at h2
        rw [List.getElem?_replicate] at h2
        split at h2 <;> cases h2
    have ha : vs[i]? = some v := by
      unfold start at h2
      rw [List.getElem?_append_left (by simpa using hi), List.getElem?_map] at h2
      cases e : vs[i]? with
      | none => rw [e] at h2; cases h2
      | some a => rw [e] at h2; cases h2; rfl
    obtain ⟨u, hu, rv⟩ := r.get ha
    have hp : ps[i]? = some y := by
      rw [← S.pre, List.getElem?_take_of_lt (by omega)]; exact h1
    have ndP : ps.Nodup := by rw [← S.pre]; exact S.nd.sublist (List.take_sublist _ _)
    refine ⟨u, rv, ?_⟩
    rcases S.par y (List.mem_of_getElem? hp) with k | k
    · exact .inl ⟨k, bindL_get ndP hp hu k⟩
    · obtain ⟨c, e⟩ := cell_has (n := s.heap.objs.size + 1) k
      refine .inr ⟨.inl k, c, e, ?_⟩
      have q := x.cell y c e
      rw [bindC_get ndP hp hu (by show scope.names.lookup y ≠ _; rw [k]; decide)] at q
      exact q
  · exact e0.hok.fresh (Nat.le_of_lt (x.above y c (PySem.mem_of_lookup h)))
  · unfold start
    show _ = N.length
    rw [List.length_append, List.length_map, List.length_replicate]
    omega

/-- THE RULE: a def (or a method) of the text, by its body. The body's reading t is chosen for each entry; it is run at the parameters' values -/
theorem fn_of {CX : CXT} {P : Program} {w : World} {K : PySem.W.Frag} {mg : Str → Option Value} {base : Heap} {k : Nat} {f : Addr} {name qual : Str} {params : Arguments} {body : List Stmt} {scope : Scope} {dV kV doc pm cdv ct oc : Value} {an od : Option Addr}
    {osl : Array (Option Value)} {N ps : List Str} {sp : Sp} (lk : K.lookup f = some ⟨oc, od, .func (PySem.W.fnOf name qual params body scope dV kV doc pm an cdv ct), osl⟩) (hcd : PySem.W.codeIn K cdv qual = true) (S : FnScope N ps scope)
    (len : ∀ vs H Q E, sp vs H Q E → vs.length = ps.length)
    (hbody : ∀ (A : Around) (outer : List Env) (s : Shared) (H : Hp) (vs : List V) (Q : VK) (E : XK), Room k (A.deeper (envOfC qual scope s.heap.objs.size f cdv)) → sp vs H Q E →
      ∃ t, PSs (cxOf CX P w K mg base N qual scope f cdv A outer s H E) body t ∧ t { nx := fun _ H' => Q .non H', rt := Q } (start N vs) H) :
    FnOk P w K mg base CX (k + 1) f (PySem.W.fnOf name qual params body scope dV kV doc pm an cdv ct) ps sp := by
  refine ⟨len, fun A outer s H args us vs Q E hr e0 hb r hsp => ?_⟩
  have hl := len _ _ _ _ hsp
  have KX : K.In s.heap := e0.mod.kin.keeps fun b o e => (e0.bs b o e).1
  have lim : s.heap.NoLimit := e0.mod.nolimit.keeps fun b o e => (e0.bs b o e).1
  have hkind : ∀ y ∈ ps.zip us, scope.names.lookup y.1 = some .local ∨ (scope.names.lookup y.1 = some .cell ∧ ((cellsFrom (s.heap.objs.size + 1) scope.names []).lookup y.1).isSome = true) := fun ⟨n, v⟩ hy => by
    rcases S.par n (List.of_mem_zip hy).1 with q | q
    · exact .inl q
    · exact .inr ⟨q, PySem.W.cellsFrom_some _ _ _ (.inl q)⟩
  refine codeAny_call_function hr.depth (KX _ _ lk) rfl S.co S.gen rfl (PySem.W.codeRec_of KX hcd) (hb _ _ _ _ ?_)
  refine wpAny_newFunctionEnv_cells S.kind hkind fun env he s1 x => ?_
  subst he
  refine ⟨lim.keeps x.toInCall.keep, codeAny_func ?_⟩
  obtain ⟨t, ht, hq⟩ := hbody A outer s H vs Q E (hr.deeper _) hsp
  have I : Inv (cxOf CX P w K mg base N qual scope f cdv A outer s H E) [] (start N vs) H s1 := inv_start S hr.hd e0 hl r x
  refine wpAny_mono (ht [] s1 (start N vs) H _ I hq) (fun fl s' hs => ?_) fun e s' hs => hs
  have fin : ∀ {σ' : St} {H' : Hp} {v : V} {u : Value}, Inv (cxOf CX P w K mg base N qual scope f cdv A outer s H E) [] σ' H' s' → RelV v u → Q v H' → CE outer P w H s Q u s' :=
    fun {σ' H' v u} J rv q => ⟨v, H', J.os, J.bare, J.base, J.hok, rv, q⟩
  cases fl with
  | ret u =>
    obtain ⟨v, σ', H', J, rv, q⟩ := hs
    exact fin J rv q
  | next =>
    obtain ⟨σ', H', J, q⟩ := hs
    exact fin (v := V.non) (u := Value.none) J rfl q
  | brk =>
    obtain ⟨_, _, _, q⟩ := hs
    exact False.elim q
  | cont =>
    obtain ⟨_, _, _, q⟩ := hs
    exact False.elim q
end L2

namespace L2
open PySem PySem.Spec PyProof.Rows
section
variable {X : Cx} {x : Str} {p pos : Pos} {e : Expr} {es : List Expr} {t : TA} {id T : String} {r : List V → Hp → VK → Prop}

def tCB (r : List V → Hp → VK → Prop) (t : TA) : TE := fun σ H Q => t σ H fun vs H1 => r vs H1 Q
/-- f(e, ..), f a built-in function -/
theorem pe_callB (hc : CallR X (.builtin id) r) (hg : Gl X x) (hm : X.mg x = none) (hv : bootBuiltins x = some (.builtin id)) (ha : PA X (e :: es) t) (hn : x ≠ "__name__" := by decide) (hdb : (x == ("__debug__" : Str)) = false := by decide)
    (he : starEach (e :: es) X.env = (false, eval e X.env) :: starEach es X.env := by rfl) (hpl : (backTo pos (starEach es X.env)).any (·.1) = false := by rfl) : PE X (.Call (.Name x p) (e :: es) [] pos) (tCB r t) := by
  intro pins s σ H Q I h
  refine wpAny_Call_Name_kw (ld_blt I hg hm hv ?_ hn hdb)
  exact PyProof.Rows.callWith_builtin1 (thn (ha pos pins s σ H _ I h) fun us s1 ⟨vs, H1, I1, r1, q1⟩ => hc pins s1 σ H1 vs us Q I1 r1 q1) he hpl
/-- T(e, ..), T a built-in type -/
theorem pe_callTy (hc : CallR X (.type T) r) (hg : Gl X x) (hm : X.mg x = none) (hv : bootBuiltins x = some (.type T)) (ha : PA X (e :: es) t) (hn : x ≠ "__name__" := by decide) (hdb : (x == ("__debug__" : Str)) = false := by decide)
    (he : starEach (e :: es) X.env = (false, eval e X.env) :: starEach es X.env := by rfl) (hpl : (backTo pos (starEach es X.env)).any (·.1) = false := by rfl) : PE X (.Call (.Name x p) (e :: es) [] pos) (tCB r t) := by
  intro pins s σ H Q I h
  refine wpAny_Call_Name_kw (ld_blt I hg hm hv ?_ hn hdb)
  exact PyProof.Rows.callWith_type1 (thn (ha pos pins s σ H _ I h) fun us s1 ⟨vs, H1, I1, r1, q1⟩ => hc pins s1 σ H1 vs us Q I1 r1 q1) he hpl
end
end L2

namespace HT
open PySem PyProof.Rows



section
open PySem.SeqAt
open PySem.AutoSeq1 (wpAny_loadPart')
open PySem.MeetsSeq PySem.MeetsSeq2 PySem.MeetsSeq3

end

section
variable {prog : Program} {w : World} {A : Around} {E : Value → Shared → Prop} {s : Shared}


/-- t + u, t not empty -/
theorem cat_tup {t b : Addr} {vs ws : List Value} {Q : Value → Shared → Prop} (ht : IsTup s.heap t vs.toArray) (hb : IsTup s.heap b ws.toArray) (hv : vs ≠ [])
    (h1 : ws = [] → Q (.ref t) s) (h2 : ws ≠ [] → Q (.ref s.heap.objs.size) { s with heap := s.heap.push { cls := .type "tuple", data := .seq (vs ++ ws).toArray } })
    (hsz : vs.length + ws.length ≤ sizeLine) : wpAny (model prog w) A (binaryOp .Add (.ref t) (.ref b)) Q E s := by
  obtain ⟨⟨cls, dd, data, sl⟩, ho, hc, n, hd⟩ := id ht
  obtain ⟨⟨cls2, dd2, data2, sl2⟩, ho2, hc2, n2, hd2⟩ := id hb
  simp only at hc hd hc2 hd2
  subst hc hd hc2 hd2
  have e : vs.toArray ++ ws.toArray = (vs ++ ws).toArray := by simp
  by_cases hw : ws = []
  · exact concat_meets ⟨_, ho, rfl⟩ ⟨_, ho2, rfl⟩ noFill_tuple_add seq_tuple_add PySem.F.slot_tuple_add PySem.F.entry_tuple_add (PySem.F.args_tuple_add_2 _ _)
      (tuple_addW1 t b vs.toArray ws.toArray n n2 dd dd2 sl sl2 (by simpa using hv) (by simp [hw])) ⟨ho, ho2, h1 hw⟩
  · refine concat_meets ⟨_, ho, rfl⟩ ⟨_, ho2, rfl⟩ noFill_tuple_add seq_tuple_add PySem.F.slot_tuple_add PySem.F.entry_tuple_add (PySem.F.args_tuple_add_2 _ _)
      (tuple_addW2 t b vs.toArray ws.toArray n n2 dd dd2 sl sl2 (by simpa using hv) (by simpa using hw) (by rw [List.size_toArray, List.size_toArray]; exact hsz)) ⟨ho, ho2, ?_⟩
    rw [e]
    exact h2 hw

/-! ### t[a:b], not the whole -/
/-- a slice's bound as a place among n (d where it is left out) -/
def sIx (n d : Nat) : Option Int → Nat
  | none => d
  | some v => if v < 0 then (v + (n : Int)).toNat else min v.toNat n
theorem sIx_le (n d : Nat) (hd : d ≤ n) (o : Option Int) : sIx n d o ≤ n := by
  cases o with
  | none => exact hd
  | some v =>
    show (if v < 0 then (v + (n : Int)).toNat else min v.toNat n) ≤ n
    by_cases hv : v < 0
    · rw [if_pos hv]; omega
    · rw [if_neg hv]; exact Nat.min_le_right _ _
theorem clip_eq (v : Int) (n d : Nat) : (if v < 0 then max (v + (n : Int)) 0 else min v (n : Int)) = ((sIx n d (some v) : Nat) : Int) := by
  show (if v < 0 then max (v + (n : Int)) 0 else min v (n : Int)) = (((if v < 0 then (v + (n : Int)).toNat else min v.toNat n) : Nat) : Int)
  by_cases hv : v < 0
  · simp only [if_pos hv]; omega
  · simp only [if_neg hv]; omega
theorem adjust_gen (lo hi : Option Int) (n : Nat) : Builtin.Slice.sliceAdjust lo hi 1 (n : Int) = (((sIx n 0 lo : Nat) : Int), ((sIx n n hi : Nat) : Int)) := by
  have h1 : ¬ ((1 : Int) < 0) := by omega
  unfold Builtin.Slice.sliceAdjust
  simp only [h1, if_false]
  refine Prod.ext ?_ ?_
  · cases lo with
    | none => rfl
    | some v => exact clip_eq v n 0
  · cases hi with
    | none => rfl
    | some v => exact clip_eq v n n
theorem places_gen (i j : Nat) : Builtin.Slice.slicePlaces (i : Int) (j : Int) 1 = j - i := by
  unfold Builtin.Slice.slicePlaces
  have h1 : (1 : Int) > 0 := by omega
  simp only [h1, if_true, Int.ediv_one]
  split <;> omega
theorem slicePart_ {v : Value} {o : Option Int} {Q : Option Int → Shared → Prop} (p : IsPart v o) (h : Q o s) : wpAny (model prog w) A (Builtin.Slice.slicePartIndex v) Q E s := by
  cases p with
  | none => exact slicePart_none h
  | int i t => exact slicePart_int h
theorem sliceApplied_gen {sl : Addr} {vl vu : Value} {lo hi : Option Int} {n : Nat} {Q : Int × Int × Nat → Shared → Prop} (hs : s.heap.IsSliceOf sl vl vu .none) (pl : IsPart vl lo) (pu : IsPart vu hi)
    (h : Q (((sIx n 0 lo : Nat) : Int), 1, sIx n n hi - sIx n 0 lo) s) : wpAny (model prog w) A (Builtin.Slice.sliceApplied (.ref sl) (pure (n : Int))) Q E s := by
  obtain ⟨os, hos, hcs, hds⟩ := id hs
  unfold Builtin.Slice.sliceApplied Builtin.Slice.sliceFields
  refine wpAny_bind (wpAny_bind (wpAny_field hos hds (x := vl) rfl (wpAny_bind (wpAny_field hos hds (x := vu) rfl (wpAny_bind (wpAny_field hos hds (x := .none) rfl (wpAny_pure ?_)))))))
  refine wpAny_bind (slicePart_none ?_)
  show wpAny _ _ (if ((1 : Int) == 0) = true then _ else _) _ _ s
  rw [if_neg (by decide)]
  refine wpAny_bind (slicePart_ pl (wpAny_bind (slicePart_ pu (wpAny_bind (wpAny_pure ?_)))))
  show wpAny _ _ (match Builtin.Slice.sliceAdjust lo hi 1 (n : Int) with | (lo, hi) => pure (lo, (1 : Int), Builtin.Slice.slicePlaces lo hi 1)) _ _ s
  rw [adjust_gen lo hi n]
  show wpAny _ _ (pure (((sIx n 0 lo : Nat) : Int), (1 : Int), Builtin.Slice.slicePlaces ((sIx n 0 lo : Nat) : Int) ((sIx n n hi : Nat) : Int) 1)) _ _ s
  rw [places_gen]
  exact wpAny_pure h
theorem pick_gen (xs : Array Value) (i k : Nat) : ((List.range k).filterMap fun (m : Nat) => xs[((i : Int) + (m : Int) * 1).toNat]?).toArray = ((xs.toList.drop i).take k).toArray := by
  have e : (fun (m : Nat) => xs[((i : Int) + (m : Int) * 1).toNat]?) = fun m => xs[i + m]? := by
    funext m
    have : ((i : Int) + (m : Int) * 1).toNat = i + m := by omega
    rw [this]
  rw [e]
  have := pick_run xs i k
  rw [List.filterMap_map] at this
  have e2 : ((fun x => xs[x]?) ∘ fun x => i + x) = fun m => xs[i + m]? := rfl
  rw [e2] at this
  rw [this]

theorem getItem_tuple_cut {t sl : Addr} {items : Array Value} {vl vu : Value} {lo hi : Option Int} {Q : Value → Shared → Prop} (ht : IsTup s.heap t items) (hs : s.heap.IsSliceOf sl vl vu .none) (pl : IsPart vl lo) (pu : IsPart vu hi)
    (hw : ¬ (sIx items.size 0 lo = 0 ∧ sIx items.size items.size hi = items.size))
    (h : Q (.ref s.heap.objs.size) { s with heap := s.heap.push { cls := .type "tuple", data := .seq ((items.toList.drop (sIx items.size 0 lo)).take (sIx items.size items.size hi - sIx items.size 0 lo)).toArray } })
    (hsz : items.size ≤ sizeLine) : wpAny (model prog w) A (getItem (.ref t) (.ref sl)) Q E s := by
  have htake : sizeOk (.seq ((items.toList.drop (sIx items.size 0 lo)).take (sIx items.size items.size hi - sIx items.size 0 lo)).toArray) := by
    show ((items.toList.drop (sIx items.size 0 lo)).take (sIx items.size items.size hi - sIx items.size 0 lo)).toArray.size ≤ sizeLine
    rw [List.size_toArray, List.length_take, List.length_drop, Array.length_toList]
    omega
  have hj : sIx items.size items.size hi ≤ items.size := sIx_le _ _ (Nat.le_refl _) hi
  obtain ⟨os, hos, hcs, hds⟩ := id hs
  have hTs : s.TypeIs (.ref sl) "slice" := ⟨os, hos, hcs⟩
  unfold getItem
  try with_reducible refine wpAny_holding ?_
  first | refine wpAny_bind (wpAny_pure ?_) | skip
  refine wpAny_bind (wpAny_sequenceKey ht.typeIs (by decide) ?_)
  refine wpAny_bind (wpAny_callSpecial?_slot (name := Str.ofString "__getitem__") ht.typeIs PyProof.Rows.slot_tuple_getitem
    (wpAny_call_entry PyProof.Rows.slot_tuple_getitem ht.typeIs entry_tuple_getitem ?_ (args_tuple_getitem _ _)))
  show wpAny _ _ (Builtin.Tuple.tupleItemsOf (.ref t) >>= _) _ _ s
  refine wpAny_bind (tupleItemsOf_ ht ?_)
  refine wpAny_bind (wpAny_typeOf hTs ?_)
  rw [if_pos (by decide)]
  refine wpAny_bind (sliceApplied_gen hs pl pu ?_)
  have hno : ¬ ((((sIx items.size 0 lo : Nat) : Int) == 0 && (1 : Int) == 1 && (sIx items.size items.size hi - sIx items.size 0 lo) == items.size) = true) := by
    intro q
    rw [Bool.and_eq_true, Bool.and_eq_true] at q
    have q1 : ((sIx items.size 0 lo : Nat) : Int) = 0 := eq_of_beq q.1.1
    have q2 : sIx items.size items.size hi - sIx items.size 0 lo = items.size := eq_of_beq q.2
    exact hw ⟨by omega, by omega⟩
  show wpAny _ _ (if (((sIx items.size 0 lo : Nat) : Int) == 0 && (1 : Int) == 1 && (sIx items.size items.size hi - sIx items.size 0 lo) == items.size) = true then _ else _) _ _ s
  rw [if_neg hno, pick_gen]
  first
    | exact wpAny_bind (m := Builtin.Tuple.tupleExact _) (wpAny_newObj_type (wpAny_pure ⟨_, rfl, wpAny_pure h⟩) htake)
    | exact wpAny_bind (m := Builtin.Tuple.tupleExact _) (wpAny_newObj_type (wpAny_bind (wpAny_pure (wpAny_pure ⟨_, rfl, wpAny_pure h⟩))) htake)
    | exact wpAny_bind (wpAny_bind (m := Builtin.Tuple.tupleExact _) (wpAny_newObj_type (wpAny_pure (wpAny_pure ⟨_, rfl, wpAny_pure h⟩)) htake))
    | exact wpAny_bind (wpAny_bind (m := Builtin.Tuple.tupleExact _) (wpAny_newObj_type (wpAny_pure ⟨_, rfl, wpAny_pure h⟩) htake))
end
end HT

namespace L2
open PySem PySem.Spec PyProof.Rows

/-! ### the parts of a slice -/
abbrev TO := St → Hp → (Option Int → Hp → Prop) → Prop
/-- a slice's part (left out, or an int) -/
def PO (X : Cx) (e : Option Expr) (t : TO) : Prop :=
  ∀ (pins : List (Addr × Obj)) (s : Shared) (σ : St) (H : Hp) (Q : Option Int → Hp → Prop), Inv X pins σ H s → t σ H Q →
    wpAny (model X.prog X.w) X.A (evalPart e X.env) (fun u s' => ∃ o H', Inv X pins σ H' s' ∧ IsPart u o ∧ Q o H') X.xe s
def tNoPart : TO := fun _ H Q => Q none H
def tPart (t : TE) : TO := fun σ H Q => t σ H fun x H1 => ∃ i, x = .int i ∧ Q (some i) H1

theorem intsAre_of {ns : List Int} : ∀ {us : List Value}, Vals (ns.map V.int) us → IntsAre us ns := by
  induction ns with
  | nil => intro us r; rw [List.map_nil] at r; cases r; exact .nil
  | cons n ns ih =>
    intro us r
    rw [List.map_cons] at r
    cases r with
    | cons r1 r2 =>
      obtain ⟨t, e⟩ := r1
      subst e
      exact .cons n t (ih r2)

section
variable {X : Cx} {e : Expr} {te : TE} {lo hi : Option Expr} {tl th : TO} {pos p2 : Pos}

theorem po_none : PO X none tNoPart := by
  intro pins s σ H Q I h
  rw [evalPart_none]
  exact wpAny_pure ⟨none, H, I, .none, h⟩
theorem po_some (h : PE X e te) : PO X (some e) (tPart te) := by
  intro pins s σ H Q I hw
  rw [evalPart_some]
  refine thn (h pins s σ H _ I hw) fun u s1 ⟨x, H1, I1, r1, q1⟩ => ?_
  obtain ⟨i, rfl, q⟩ := q1
  obtain ⟨t, rfl⟩ := r1
  exact ⟨some i, H1, I1, .int i t, q⟩

/-- what a slice of a value is, by values: the slice object stands at sl -/
def SlR (X : Cx) (r : V → Option Int → Option Int → Hp → VK → Prop) : Prop :=
  ∀ (pins : List (Addr × Obj)) (s : Shared) (σ : St) (H : Hp) (x : V) (v vl vu : Value) (lo hi : Option Int) (sl : Addr) (Q : VK), Inv X pins σ H s → RelV x v → s.heap.IsSliceOf sl vl vu .none → IsPart vl lo → IsPart vu hi → r x lo hi H Q →
    ∃ T id, typeLookup (.type T) "__getitem__" = pure (some (.builtin id)) ∧ s.TypeIs v T ∧ wpAny (model X.prog X.w) X.A (getItem v (.ref sl)) (EP X pins σ Q) X.xe s
def tSl (r : V → Option Int → Option Int → Hp → VK → Prop) (te : TE) (tl th : TO) : TE := fun σ H Q => te σ H fun x H1 => tl σ H1 fun l H2 => th σ H2 fun u H3 => r x l u H3 Q
/-- a[lo:hi], any a -/
theorem pe_slice {r : V → Option Int → Option Int → Hp → VK → Prop} (hr : SlR X r) (he : PE X e te) (hl : PO X lo tl) (hu : PO X hi th) : PE X (.Subscript e (.Slice lo hi none p2) pos) (tSl r te tl th) := by
  intro pins s σ H Q I h
  refine Subscript_ (thn (he pins s σ H _ I h) fun v s1 ⟨x, H1, I1, r1, q1⟩ => ?_)
  refine wpAny_Slice (thn (hl pins s1 σ H1 _ I1 q1) fun vl s2 ⟨l, H2, I2, pl, q2⟩ => thn (hu pins s2 σ H2 _ I2 q2) fun vu s3 ⟨u, H3, I3, pu, q3⟩ => ?_)
  rw [evalPart_none]
  refine wpAny_pure ?_
  have I4 : Inv X pins σ H3 { s3 with heap := s3.heap.push { cls := .type "slice", data := .fields #[vl, vu, .none] } } := I3.kept (t' := s3.toks) fun b ob q => Heap.get?_push_of_some _ q
  obtain ⟨T, id, hT, ht, hg⟩ := hr pins { s3 with heap := s3.heap.push { cls := .type "slice", data := .fields #[vl, vu, .none] } } σ H3 x v vl vu l u s3.heap.objs.size Q I4 r1 (Heap.IsSliceOf.new ..) pl pu q3
  show wpAny (model X.prog X.w) X.A (subscriptTail e (.Slice lo hi none p2) v (.ref s3.heap.objs.size)) (EP X pins σ Q) X.xe { s3 with heap := s3.heap.push { cls := .type "slice", data := .fields #[vl, vu, .none] } }
  exact tail_any (ops := [.ref s3.heap.objs.size, v]) ht hT hg (by with_unfolding_all rfl)

/-- the items of xs[lo:hi] -/
def cutV (xs : List V) (lo hi : Option Int) : List V := (xs.drop (HT.sIx xs.length 0 lo)).take (HT.sIx xs.length xs.length hi - HT.sIx xs.length 0 lo)
theorem cutV_length (xs : List V) (lo hi : Option Int) : (cutV xs lo hi).length ≤ xs.length := by
  unfold cutV
  rw [List.length_take, List.length_drop]
  omega
/-- t[lo:hi], not the whole of it (the whole would be t itself) -/
def rSlT (K : PySem.W.Frag) : V → Option Int → Option Int → Hp → VK → Prop := fun x lo hi H Q => ∃ a xs, x = .ref a ∧ SqT K H a xs ∧
  ¬ (HT.sIx xs.length 0 lo = 0 ∧ HT.sIx xs.length xs.length hi = xs.length) ∧ ∀ p, H p = none → Q (.ref p) (upd H p (.tup (cutV xs lo hi)))
theorem sl_tup : SlR X (rSlT X.K) := by
  intro pins s σ H x v vl vu lo hi sl Q I rx hs pl pu h
  obtain ⟨a, xs, rfl, hx, hw, q⟩ := h
  cases rx
  obtain ⟨its, r, ht, hz⟩ := I.tuple hx
  have hlen : its.toArray.size = xs.length := by rw [List.size_toArray]; exact r.length.symm
  refine ⟨"tuple", _, PyProof.Rows.slot_tuple_getitem.lookup, ht.typeIs, ?_⟩
  refine HT.getItem_tuple_cut ht hs pl pu (by rw [hlen]; exact hw) ?_ (by rw [hlen]; exact hz)
  rw [hlen]
  refine ⟨.ref s.heap.objs.size, _, I.laid (t' := s.toks) (o := .tup (cutV xs lo hi)) (fun b ob q => Heap.get?_push_of_some _ q) (Nat.le_refl _) ?_, rfl, q _ (I.hok.fresh (Nat.le_refl _))⟩
  exact ⟨Nat.le_trans (cutV_length xs lo hi) hz, _, (r.drop (HT.sIx xs.length 0 lo)).take (HT.sIx xs.length xs.length hi - HT.sIx xs.length 0 lo), IsTup.new _ _⟩

/-! ### t < u, t + u -/
/-- t + u, t not empty: u empty gives t itself -/
def rCatT (K : PySem.W.Frag) : R2 := fun x y H Q => ∃ a b xs ys, x = .ref a ∧ y = .ref b ∧ SqT K H a xs ∧ SqT K H b ys ∧ xs ≠ [] ∧ xs.length + ys.length ≤ sizeLine ∧
  (ys = [] → Q (.ref a) H) ∧ (ys ≠ [] → ∀ p, H p = none → Q (.ref p) (upd H p (.tup (xs ++ ys))))
theorem Vals.nil_iff {xs : List V} {us : List Value} (r : Vals xs us) : us = [] ↔ xs = [] := by
  cases r with
  | nil => simp
  | cons _ _ => simp
theorem op_catT : OpR X (binaryOp .Add) (rCatT X.K) := by
  intro pins s σ H x y v u Q I rx ry h
  obtain ⟨a, b, xs, ys, rfl, rfl, ha, hb, hx, hz, q1, q2⟩ := h
  cases rx
  cases ry
  obtain ⟨its, r1, p1, _⟩ := I.tuple ha
  obtain ⟨its2, r2, p2, _⟩ := I.tuple hb
  refine HT.cat_tup p1 p2 (fun z => hx (r1.nil_iff.mp z)) (fun z => ⟨.ref a, H, I, rfl, q1 (r2.nil_iff.mp z)⟩) (fun z => ?_) (by rw [← r1.length, ← r2.length]; exact hz)
  refine ⟨.ref s.heap.objs.size, _, I.laid (t' := s.toks) (o := .tup (xs ++ ys)) (fun b ob q => Heap.get?_push_of_some _ q) (Nat.le_refl _) ?_, rfl, q2 (fun w => z (r2.nil_iff.mpr w)) _ (I.hok.fresh (Nat.le_refl _))⟩
  exact ⟨by rw [List.length_append]; exact hz, _, r1.append r2, IsTup.new _ _⟩
end
end L2

namespace L2
open PySem PySem.Spec PyProof.Rows

/-! ### places -/
/-- the place that an index of any sign means -/
def ixN (n : Nat) (i : Int) : Option Nat := if 0 ≤ i then (if i < n then some i.toNat else none) else if -(n : Int) ≤ i then some (i + n).toNat else none
def atI {α : Type} (xs : List α) (i : Int) : Option α := (ixN xs.length i).bind fun j => xs[j]?
theorem ixN_seq {n : Nat} {i : Int} {j : Nat} (h : ixN n i = some j) : seqIndex? i n = some j ∧ j < n ∧ -(n : Int) ≤ i ∧ i < n := by
  unfold ixN at h
  by_cases h0 : 0 ≤ i
  · rw [if_pos h0] at h
    by_cases h1 : i < n
    · rw [if_pos h1] at h
      have e : i.toNat = j := Option.some.inj h
      exact ⟨by rw [seqIndex_of h0 h1, e], by omega, by omega, h1⟩
    · rw [if_neg h1] at h; cases h
  · rw [if_neg h0] at h
    by_cases h1 : -(n : Int) ≤ i
    · rw [if_pos h1] at h
      have e : (i + n).toNat = j := Option.some.inj h
      exact ⟨by rw [seqIndex_neg (by omega) h1, e], by omega, h1, by omega⟩
    · rw [if_neg h1] at h; cases h
theorem atI_get {α : Type} {xs : List α} {i : Int} {v : α} (h : atI xs i = some v) : ∃ j, seqIndex? i xs.length = some j ∧ xs[j]? = some v ∧ j < xs.length ∧ -(xs.length : Int) ≤ i ∧ i < xs.length := by
  unfold atI at h
  cases e : ixN xs.length i with
  | none => rw [e] at h; cases h
  | some j =>
    rw [e] at h
    obtain ⟨h1, h2, h3, h4⟩ := ixN_seq e
    exact ⟨j, h1, h, h2, h3, h4⟩
theorem atI_nat {α : Type} {xs : List α} {j : Nat} {v : α} (h : xs[j]? = some v) : atI xs (j : Int) = some v := by
  have hj : j < xs.length := (List.getElem?_eq_some_iff.mp h).1
  have e : ixN xs.length (j : Int) = some j := by
    unfold ixN
    rw [if_pos (by omega), if_pos (by omega)]; simp
  unfold atI; rw [e]; exact h
theorem atI_last {α : Type} (xs : List α) (v : α) : atI (xs ++ [v]) (-1) = some v := by
  have hl : (xs ++ [v]).length = xs.length + 1 := by simp
  have e : ixN (xs ++ [v]).length (-1) = some xs.length := by
    unfold ixN
    rw [hl, if_neg (by decide), if_pos (by omega)]
    congr 1
    omega
  unfold atI
  rw [e]
  show (xs ++ [v])[xs.length]? = some v
  simp

/-! ### what may be subscripted -/
/-- what stands as an index of a plain subscript -/
def PlainIx (b : Expr) : Prop := ∀ o i, subscripted b false o i = operate [o, i] (getItem o i)
/-- a subscript by values -/
def IxR (X : Cx) (r : R2) : Prop :=
  ∀ (value slice : Expr) (pins : List (Addr × Obj)) (s : Shared) (σ : St) (H : Hp) (x y : V) (v u : Value) (Q : VK), Inv X pins σ H s → RelV x v → RelV y u → r x y H Q →
    subscripted slice false v u = operate [v, u] (getItem v u) → wpAny (model X.prog X.w) X.A (subscriptTail value slice v u) (EP X pins σ Q) X.xe s
/-- a call of a builtin's method by values: the receiver, the arguments -/
def MtR (X : Cx) (id : String) (r : V → List V → Hp → VK → Prop) : Prop :=
  ∀ (pins : List (Addr × Obj)) (s : Shared) (σ : St) (H : Hp) (x : V) (xs : List V) (v : Value) (us : List Value) (Q : VK), Inv X pins σ H s → RelV x v → Vals xs us → r x xs H Q →
    wpAny (model X.prog X.w) X.A (call (.builtin id) (v :: us)) (EP X pins σ Q) X.xe s
section
variable {X : Cx} {a b : Expr} {ta tb : TE} {pos : Pos}
/-- a[b] -/
theorem pe_ix {r : R2} (hr : IxR X r) (ha : PE X a ta) (hb : PE X b tb) (hs : PlainIx b) : PE X (.Subscript a b pos) (tOp r ta tb) := by
  intro pins s σ H Q I h
  exact Subscript_ (binT ha hb I h fun v u s2 x y H2 I2 rx ry q => hr a b pins s2 σ H2 x y v u Q I2 rx ry q (hs _ _))

def rIxL (K : PySem.W.Frag) : R2 := fun x y H Q => ∃ p xs i v, x = .ref p ∧ y = .int i ∧ SqL K H p xs ∧ atI xs i = some v ∧ Q v H
def rIxT (K : PySem.W.Frag) : R2 := fun x y H Q => ∃ p xs i v, x = .ref p ∧ y = .int i ∧ SqT K H p xs ∧ atI xs i = some v ∧ Q v H
theorem ix_list : IxR X (rIxL X.K) := by
  intro value slice pins s σ H x y v u Q I rx ry h hs
  obtain ⟨p, xs, i, z, rfl, rfl, hq, he, q⟩ := h
  cases rx
  obtain ⟨t, rfl⟩ := ry
  obtain ⟨its, r, pl, hz⟩ := I.list hq
  obtain ⟨j, h1, h2, h3, h4, h5⟩ := atI_get he
  obtain ⟨w, ew, rw'⟩ := r.get h2
  have hl := r.length
  have hn := line63
  have fin : EP X pins σ Q w s := ⟨z, H, I, rw', q⟩
  by_cases h0 : 0 ≤ i
  · have hj : i.toNat = j := by
      rw [seqIndex_of h0 h5] at h1
      exact Option.some.inj h1
    exact item_listR pl.isList h0 (by omega) (by rw [hj]; simpa using ew) fin hs
  · have hj : (i + (its.toArray.size : Int)).toNat = j := by
      rw [seqIndex_neg (by omega) h4] at h1
      rw [List.size_toArray, ← hl]
      exact Option.some.inj h1
    exact subscriptTail_builtinR (x := w) pl.isList.typeIs slot_list_getitem.lookup
      (wpAny_getItem_list_neg (Q := fun r s' => r = w ∧ EP X pins σ Q r s') pl.isList (by omega) (by rw [List.size_toArray] <;> omega) (by omega) (by rw [hj]; simpa using ew) ⟨rfl, fin⟩) hs
theorem ix_tup : IxR X (rIxT X.K) := by
  intro value slice pins s σ H x y v u Q I rx ry h hs
  obtain ⟨p, xs, i, z, rfl, rfl, hq, he, q⟩ := h
  cases rx
  obtain ⟨t, rfl⟩ := ry
  obtain ⟨its, r, pl, hz⟩ := I.tuple hq
  obtain ⟨j, h1, h2, h3, h4, h5⟩ := atI_get he
  obtain ⟨w, ew, rw'⟩ := r.get h2
  have hl := r.length
  have hn := line63
  have fin : EP X pins σ Q w s := ⟨z, H, I, rw', q⟩
  exact subscriptTail_builtinR (x := w) pl.typeIs slot_tuple_getitem.lookup
    (getItem_tuple (j := j) (Q := fun r s' => r = w ∧ EP X pins σ Q r s') pl (by omega) (by omega) (by rw [List.size_toArray, ← hl]; exact h1) (by simpa using ew) ⟨rfl, fin⟩) hs

/-! ### xs[i] = v, any sign -/
/-- the list's object behind a store -/
theorem mapSeq_set (its : List Value) (n j : Nat) (u : Value) : Obj.mapSeq (·.setIfInBounds j u) { cls := .type "list", data := .seq its.toArray n } = { cls := .type "list", data := .seq (its.set j u).toArray n } := by
  simp [Obj.mapSeq]
theorem Inv.lst {pins : List (Addr × Obj)} {σ : St} {H : Hp} {s : Shared} {p : Addr} {xs : List V} (I : Inv X pins σ H s) (h : H p = some (.lst xs)) :
    ∃ (its : List Value) (n : Nat), Vals xs its ∧ s.heap.get? p = some { cls := .type "list", data := .seq its.toArray n } ∧ xs.length ≤ sizeLine := by
  obtain ⟨z, its, n, r, e⟩ := I.hok p _ h
  exact ⟨its, n, r, e, z⟩
/-- the list at p is written by an update of its object -/
theorem Inv.lstUpd {pins : List (Addr × Obj)} {σ : St} {H : Hp} {s : Shared} {p : Addr} {xs ys : List V} {its its' : List Value} {n n' : Nat} {f : Obj → Obj} (I : Inv X pins σ H s) (h : H p = some (.lst xs))
    (ho : s.heap.get? p = some { cls := .type "list", data := .seq its.toArray n }) (hf : f { cls := .type "list", data := .seq its.toArray n } = { cls := .type "list", data := .seq its'.toArray n' }) (r : Vals ys its') (hz : ys.length ≤ sizeLine) (t : Nat) :
    Inv X pins σ (upd H p (.lst ys)) { s with heap := s.heap.update p f, toks := t } := by
  have e : (s.heap.update p f).get? p = some { cls := .type "list", data := .seq its'.toArray n' } := by
    rw [Heap.get?_update_self f ho (by rw [hf] <;> rfl), hf]
  refine I.write (x := p) (e := p) (by rw [h]; trivial) (.inl rfl) (fun b u hb q => (Heap.get?_update_other _ _ (Ne.symm hb)).trans q) ⟨_, e⟩ ?_
  exact ⟨hz, its', n', r, e⟩
def rSetL : V → V → V → Hp → (Hp → Prop) → Prop := fun o i v H Q => ∃ p xs k j, o = .ref p ∧ i = .int k ∧ H p = some (.lst xs) ∧ ixN xs.length k = some j ∧ Q (upd H p (.lst (xs.set j v)))
theorem set_list : PSet X rSetL := by
  intro pins s σ H o i v ov iv u Q I ro ri rv h
  obtain ⟨p, xs, k, j, rfl, rfl, hp, hj, q⟩ := h
  cases ro
  obtain ⟨t, rfl⟩ := ri
  obtain ⟨its, n, r, ho, hz⟩ := I.lst hp
  obtain ⟨h1, h2, h3, h4⟩ := ixN_seq hj
  have hl := r.length
  have hn := line63
  have I' : Inv X pins σ (upd H p (.lst (xs.set j v))) { s with heap := s.heap.update p (Obj.mapSeq (·.setIfInBounds j u)) } :=
    I.lstUpd hp ho (mapSeq_set its n j u) (r.set rv j) (by rw [List.length_set]; exact hz) s.toks
  by_cases h0 : 0 ≤ k
  · have hk : k.toNat = j := by
      rw [seqIndex_of h0 h4] at h1
      exact Option.some.inj h1
    exact PySem.W.ki_setAt ho h0 (by omega) (by rw [List.size_toArray, ← hl]; exact h4) (by rw [hk]; exact ⟨_, I', q⟩)
  · have hk : (k + (its.toArray.size : Int)).toNat = j := by
      rw [seqIndex_neg (by omega) h3] at h1
      rw [List.size_toArray, ← hl]
      exact Option.some.inj h1
    exact PySem.W.ki_setBack ho (by omega) (by rw [List.size_toArray, ← hl]; exact h3) (by omega) (by rw [hk]; exact ⟨_, I', q⟩)

/-! ### slices -/
theorem slice_bounds (lo hi : Option Int) (n : Nat) : (sliceBounds lo hi none n).1 = ((HT.sIx n 0 lo : Nat) : Int) ∧ (sliceBounds lo hi none n).2.1 = ((HT.sIx n n hi : Nat) : Int) ∧ (sliceBounds lo hi none n).2.2 = 1 := by
  refine ⟨?_, ?_, rfl⟩
  · cases lo with
    | none => simp [sliceBounds, HT.sIx]
    | some i =>
      simp only [sliceBounds, HT.sIx, Option.getD_none, show (1 : Int) > 0 by decide, if_true]
      by_cases h : i < 0
      · simp only [h, if_true] <;> omega
      · simp only [h, if_false] <;> omega
  · cases hi with
    | none => simp [sliceBounds, HT.sIx]
    | some i =>
      simp only [sliceBounds, HT.sIx, Option.getD_none, show (1 : Int) > 0 by decide, if_true]
      by_cases h : i < 0
      · simp only [h, if_true] <;> omega
      · simp only [h, if_false] <;> omega
theorem slicePick_cut (its : List Value) (lo hi : Option Int) : slicePick its.toArray lo hi none = ((its.drop (HT.sIx its.length 0 lo)).take (HT.sIx its.length its.length hi - HT.sIx its.length 0 lo)).toArray := by
  obtain ⟨h1, h2, h3⟩ := slice_bounds lo hi its.toArray.size
  unfold slicePick
  rw [h1, h2, h3]
  simp only [sliceRange_one, pick_run, List.size_toArray] <;> rfl
/-- xs[lo:hi] of a list: a new list -/
def rSlL (K : PySem.W.Frag) : V → Option Int → Option Int → Hp → VK → Prop := fun x lo hi H Q => ∃ a xs, x = .ref a ∧ SqL K H a xs ∧ ∀ p, H p = none → Q (.ref p) (upd H p (.lst (cutV xs lo hi)))
theorem sl_list : SlR X (rSlL X.K) := by
  intro pins s σ H x v vl vu lo hi sl Q I rx hs pl pu h
  obtain ⟨a, xs, rfl, hx, q⟩ := h
  cases rx
  obtain ⟨its, r, ht, hz⟩ := I.list hx
  have hlen := r.length
  refine ⟨"list", _, slot_list_getitem.lookup, ht.isList.typeIs, ?_⟩
  refine wpAny_getItem_list_slice ht.isList hs pl pu .none (by simp) ?_ (by rw [List.size_toArray] <;> omega)
  rw [slicePick_cut, ← hlen]
  refine ⟨.ref s.heap.objs.size, _, I.laid (t' := s.toks) (o := .lst (cutV xs lo hi)) (fun b ob q => Heap.get?_push_of_some _ q) (Nat.le_refl _) ?_, rfl, q _ (I.hok.fresh (Nat.le_refl _))⟩
  exact ⟨Nat.le_trans (cutV_length xs lo hi) hz, _, 0, (r.drop (HT.sIx xs.length 0 lo)).take (HT.sIx xs.length xs.length hi - HT.sIx xs.length 0 lo), Heap.get?_push_size _ rfl⟩

/-! ### in, not in: flat items -/
def flatV : V → Bool
  | .non => true
  | .bl _ => true
  | .int _ => true
  | .str _ => true
  | _ => false
/-- == of flat values -/
def eqV : V → V → Bool
  | .non, .non => true
  | .bl a, .bl b => a == b
  | .bl a, .int b => (if a then 1 else 0) == b
  | .int a, .bl b => a == (if b then 1 else 0)
  | .int a, .int b => a == b
  | .str a, .str b => a == b
  | _, _ => false
theorem eqAt_V {A : Around} {s : Shared} {y x : V} {u v : Value} (ry : RelV y u) (rx : RelV x v) (fy : flatV y = true) (fx : flatV x = true) : SeqAt.EqAt A s u v (eqV y x) := by
  cases y with
  | non =>
    cases ry
    cases x with
    | non => cases rx; exact SeqAt.EqAt.same _
    | bl b => cases rx; exact SeqAt.EqAt.none_bool b
    | int b => obtain ⟨t, rfl⟩ := rx; exact SeqAt.EqAt.none_int b t
    | str b => obtain ⟨t, rfl⟩ := rx; exact SeqAt.EqAt.none_str b t
    | _ => exact absurd (show false = true from fx) Bool.false_ne_true
  | bl a =>
    cases ry
    cases x with
    | non => cases rx; exact SeqAt.EqAt.bool_none a
    | bl b => cases rx; exact SeqAt.EqAt.bool_bool a b
    | int b => obtain ⟨t, rfl⟩ := rx; exact SeqAt.EqAt.bool_int a b t
    | str b => obtain ⟨t, rfl⟩ := rx; exact SeqAt.EqAt.bool_str a b t
    | _ => exact absurd (show false = true from fx) Bool.false_ne_true
  | int a =>
    obtain ⟨t', rfl⟩ := ry
    cases x with
    | non => cases rx; exact SeqAt.EqAt.int_none a t'
    | bl b => cases rx; exact SeqAt.EqAt.int_bool a t' b
    | int b => obtain ⟨t, rfl⟩ := rx; exact SeqAt.EqAt.int_int a t' b t
    | str b => obtain ⟨t, rfl⟩ := rx; exact SeqAt.EqAt.int_str a t' b t
    | _ => exact absurd (show false = true from fx) Bool.false_ne_true
  | str a =>
    obtain ⟨t', rfl⟩ := ry
    cases x with
    | non => cases rx; exact SeqAt.EqAt.str_none a t'
    | bl b => cases rx; exact SeqAt.EqAt.str_bool a t' b
    | int b => obtain ⟨t, rfl⟩ := rx; exact SeqAt.EqAt.str_int a t' b t
    | str b => obtain ⟨t, rfl⟩ := rx; exact SeqAt.EqAt.str_str a t' b t
    | _ => exact absurd (show false = true from fx) Bool.false_ne_true
  | _ => exact absurd (show false = true from fy) Bool.false_ne_true
/-- the items' answers, read off the values (a value's own answer does not lean on its token) -/
def eqU (x : V) (u : Value) : Bool := match u with
  | .none => eqV .non x
  | .bool b => eqV (.bl b) x
  | .int i _ => eqV (.int i) x
  | .str z _ => eqV (.str z) x
  | _ => false
theorem eqU_of {x y : V} {u : Value} (r : RelV y u) (f : flatV y = true) : eqU x u = eqV y x := by
  cases y with
  | non => cases r; rfl
  | bl b => cases r; rfl
  | int i => obtain ⟨t, rfl⟩ := r; rfl
  | str z => obtain ⟨t, rfl⟩ := r; rfl
  | _ => exact absurd (show false = true from f) Bool.false_ne_true
theorem any_eqU {x : V} : ∀ {xs : List V} {us : List Value}, Vals xs us → xs.all flatV = true → us.any (eqU x) = xs.any fun y => eqV y x
  | _, _, .nil, _ => rfl
  | y :: xs, u :: us, .cons r t, f => by
    rw [List.all_cons, Bool.and_eq_true] at f
    rw [List.any_cons, List.any_cons, eqU_of r f.1, any_eqU t f.2]
theorem mem_eqAt {A : Around} {s : Shared} {x : V} {v : Value} (rx : RelV x v) (fx : flatV x = true) : ∀ {xs : List V} {us : List Value}, Vals xs us → xs.all flatV = true → ∀ u ∈ us, SeqAt.EqAt A s u v (eqU x u)
  | _, _, .nil, _ => fun u hu => by cases hu
  | y :: xs, u :: us, .cons r t, f => fun u' hu => by
    rw [List.all_cons, Bool.and_eq_true] at f
    rcases List.mem_cons.mp hu with rfl | hu
    · rw [eqU_of r f.1]; exact eqAt_V r rx f.1 fx
    · exact mem_eqAt rx fx t f.2 u' hu
def inV (x : V) (xs : List V) : Bool := xs.any fun y => eqV y x
/-- x in a list or tuple of flat items -/
def rIn (K : PySem.W.Frag) (neg : Bool) : R2 := fun x y H Q => ∃ p xs, y = .ref p ∧ (SqL K H p xs ∨ SqT K H p xs) ∧ flatV x = true ∧ xs.all flatV = true ∧ Q (.bl (if neg then !inV x xs else inV x xs)) H
theorem op_in_seq : OpR X (compareOp .In) (rIn X.K false) := by
  intro pins s σ H x y v u Q I rx ry h
  obtain ⟨p, xs, rfl, hq, fx, fs, q⟩ := h
  cases ry
  rcases hq with hq | hq
  · obtain ⟨its, r, pl, hz⟩ := I.list hq
    refine SeqAt.in_listAt (eqU x) pl.isList (fun w hw => mem_eqAt rx fx r fs w (by simpa using hw)) ⟨.bl _, H, I, rfl, ?_⟩
    rw [show its.toArray.any (eqU x) = its.any (eqU x) by simp, any_eqU r fs]
    exact q
  · obtain ⟨its, r, pl, hz⟩ := I.tuple hq
    refine SeqAt.in_tupleAt (eqU x) pl (fun w hw => mem_eqAt rx fx r fs w (by simpa using hw)) ⟨.bl _, H, I, rfl, ?_⟩
    rw [show its.toArray.any (eqU x) = its.any (eqU x) by simp, any_eqU r fs]
    exact q
theorem op_notIn_seq : OpR X (compareOp .NotIn) (rIn X.K true) := by
  intro pins s σ H x y v u Q I rx ry h
  obtain ⟨p, xs, rfl, hq, fx, fs, q⟩ := h
  cases ry
  rcases hq with hq | hq
  · obtain ⟨its, r, pl, hz⟩ := I.list hq
    refine SeqAt.notIn_listAt (eqU x) pl.isList (fun w hw => mem_eqAt rx fx r fs w (by simpa using hw)) ⟨.bl _, H, I, rfl, ?_⟩
    rw [show its.toArray.any (eqU x) = its.any (eqU x) by simp, any_eqU r fs]
    exact q
  · obtain ⟨its, r, pl, hz⟩ := I.tuple hq
    refine SeqAt.notIn_tupleAt (eqU x) pl (fun w hw => mem_eqAt rx fx r fs w (by simpa using hw)) ⟨.bl _, H, I, rfl, ?_⟩
    rw [show its.toArray.any (eqU x) = its.any (eqU x) by simp, any_eqU r fs]
    exact q

/-! ### len, list(x), tuple(x) of any list or tuple that is read -/
theorem call_len_seq : CallR X (.builtin "len") (fun xs H Q => ∃ p ys, xs = [.ref p] ∧ (SqL X.K H p ys ∨ SqT X.K H p ys) ∧ Q (.int ys.length) H) := by
  intro pins s σ H xs us Q I r h
  obtain ⟨p, ys, rfl, hq, q⟩ := h
  obtain ⟨u, rfl, rx⟩ := vals1 r
  cases rx
  have hn := line63
  rcases hq with hq | hq
  · obtain ⟨its, r', pl, hz⟩ := I.list hq
    have hlen := r'.length
    exact Calls.call_len_list pl.isList (by simp only [List.size_toArray] <;> omega) ⟨.int ys.length, H, I.tok _, ⟨s.toks + 1, by rw [List.size_toArray, hlen]⟩, q⟩
  · obtain ⟨its, r', pl, hz⟩ := I.tuple hq
    have hlen := r'.length
    exact len_tuple pl (by simp only [List.size_toArray] <;> omega) ⟨.int ys.length, H, I.tok _, ⟨s.toks + 1, by rw [List.size_toArray, hlen]⟩, q⟩
theorem call_list_of : CallR X (.type "list") (fun xs H Q => ∃ p ys, xs = [.ref p] ∧ (SqL X.K H p ys ∨ SqT X.K H p ys) ∧ ∀ l, H l = none → Q (.ref l) (upd H l (.lst ys))) := by
  intro pins s σ H xs us Q I r h
  obtain ⟨p, ys, rfl, hq, q⟩ := h
  obtain ⟨u, rfl, rx⟩ := vals1 r
  cases rx
  have fin : ∀ (its : List Value), Vals ys its → ys.length ≤ sizeLine → ∀ (h' : Heap) (c' : Nat), (∀ b o', s.heap.get? b = some o' → h'.get? b = some o') →
      h'.get? s.heap.objs.size = some { cls := .type "list", dict := none, data := .seq its.toArray c', slots := #[] } → EP X pins σ Q (.ref s.heap.objs.size) { s with heap := h' } := fun its r' hz h' c' kp e =>
    ⟨.ref s.heap.objs.size, _, I.laid (t' := s.toks) kp (Nat.le_refl _) (show ObjOk X.prog X.w _ h' _ (.lst ys) from ⟨hz, its, c', r', e⟩), rfl, q _ (I.hok.fresh (Nat.le_refl _))⟩
  rcases hq with hq | hq
  · obtain ⟨its, r', pl, hz⟩ := I.list hq
    have hlen := r'.length
    obtain ⟨o, ho, hc, n, hd⟩ := pl.isList
    exact call_list_seq p (.inl rfl) ho hc hd (fun h' c' kp e => fin its r' hz h' c' kp e) (by simp only [List.size_toArray] <;> omega)
  · obtain ⟨its, r', pl, hz⟩ := I.tuple hq
    have hlen := r'.length
    obtain ⟨o, ho, hc, n, hd⟩ := pl
    exact call_list_seq p (.inr rfl) ho hc hd (fun h' c' kp e => fin its r' hz h' c' kp e) (by simp only [List.size_toArray] <;> omega)
theorem call_tuple_of : CallR X (.type "tuple") (fun xs H Q => ∃ p ys, xs = [.ref p] ∧ ((SqL X.K H p ys ∧ ∀ l, H l = none → Q (.ref l) (upd H l (.tup ys))) ∨ (SqT X.K H p ys ∧ Q (.ref p) H))) := by
  intro pins s σ H xs us Q I r h
  obtain ⟨p, ys, rfl, h⟩ := h
  obtain ⟨u, rfl, rx⟩ := vals1 r
  cases rx
  rcases h with ⟨hq, q⟩ | ⟨hq, q⟩
  · obtain ⟨its, r', pl, hz⟩ := I.list hq
    have hlen := r'.length
    refine call_tuple_list pl.isList (fun h' kp => ?_) (by simp only [List.size_toArray] <;> omega)
    have I1 : Inv X pins σ H { s with heap := h' } := I.kept (t' := s.toks) kp
    have I2 : Inv X pins σ (upd H h'.objs.size (.tup ys)) { s with heap := h'.push { cls := .type "tuple", data := .seq its.toArray } } :=
      I1.laid (t' := s.toks) (fun b o e => Heap.get?_push_of_some _ e) (Nat.le_refl _) (show ObjOk X.prog X.w _ _ _ (.tup ys) from ⟨hz, its, r', IsTup.new _ _⟩)
    exact ⟨.ref h'.objs.size, _, I2, rfl, q _ (I1.hok.fresh (Nat.le_refl _))⟩
  · obtain ⟨its, r', pl, hz⟩ := I.tuple hq
    exact call_tuple_same pl ⟨.ref p, H, I, rfl, q⟩

/-! ### the call of a builtin's method: o.m(..) -/
/-- the value is of that builtin type -/
def tyV (K : PySem.W.Frag) (T : String) (x : V) (H : Hp) : Prop := match x with
  | .str _ => T = "str"
  | .int _ => T = "int"
  | .ref p => (T = "list" ∧ ∃ xs, SqL K H p xs) ∨ (T = "tuple" ∧ ∃ o, K.lookup p = some o ∧ o.cls = .type "tuple" ∧ o.dict = none) ∨
      (T = "dict" ∧ ((∃ kvs, H p = some (.dK kvs)) ∨ ∃ kvs, H p = some (.dT kvs))) ∨ (T = "set" ∧ ∃ S n, H p = some (.set S n))
  | _ => False
theorem tyV_is {pins : List (Addr × Obj)} {σ : St} {H : Hp} {s : Shared} {T : String} {x : V} {v : Value} (I : Inv X pins σ H s) (r : RelV x v) (ty : tyV X.K T x H) :
    s.TypeIs v T ∧ ∀ a, v = .ref a → ∃ ob, s.heap.get? a = some ob ∧ ob.dict = none := by
  cases x with
  | str z =>
    obtain ⟨t, rfl⟩ := r
    cases (show T = "str" from ty)
    exact ⟨typeIs_str s z t, fun _ e => nomatch e⟩
  | int i =>
    obtain ⟨t, rfl⟩ := r
    cases (show T = "int" from ty)
    exact ⟨typeIs_int s i t, fun _ e => nomatch e⟩
  | ref p =>
    cases r
    rcases ty with ⟨rfl, xs, hq⟩ | ⟨rfl, o, hk, hc, hd⟩ | ⟨rfl, hk⟩ | ⟨rfl, S, n, hk⟩
    · obtain ⟨its, _, pl, _⟩ := I.list hq
      refine ⟨pl.isList.typeIs, fun a e => ?_⟩
      cases e
      obtain ⟨o, n, e, c, hd, _⟩ := pl
      exact ⟨o, e, hd⟩
    · refine ⟨⟨o, I.kIn p o hk, hc⟩, fun a e => ?_⟩
      cases e
      exact ⟨o, I.kIn _ o hk, hd⟩
    · have z : ∃ o, s.heap.get? p = some o ∧ o.ExactDict := by
        rcases hk with ⟨kvs, hk⟩ | ⟨kvs, hk⟩
        · obtain ⟨_, _, _, _, o, _, _, e, ex, _⟩ := I.hok p _ hk
          exact ⟨o, e, ex⟩
        · obtain ⟨_, _, _, _, o, _, _, e, ex, _⟩ := I.hok p _ hk
          exact ⟨o, e, ex⟩
      obtain ⟨o, e, ex⟩ := z
      refine ⟨⟨o, e, ex.1⟩, fun a e2 => ?_⟩
      cases e2
      exact ⟨o, e, ex.2.1⟩
    · obtain ⟨o, _, _, _, e, ex, _⟩ := I.hok p _ hk
      refine ⟨⟨o, e, ex.1⟩, fun a e2 => ?_⟩
      cases e2
      exact ⟨o, e, ex.2.1⟩
  | _ => exact False.elim ty
def tBM0 (K : PySem.W.Frag) (T : String) (r : V → List V → Hp → VK → Prop) (to : TE) : TE := fun σ H Q => to σ H fun x H1 => tyV K T x H1 ∧ r x [] H1 Q
def tBM (K : PySem.W.Frag) (T : String) (r : V → List V → Hp → VK → Prop) (to : TE) (t : TA) : TE := fun σ H Q => to σ H fun x H1 => tyV K T x H1 ∧ t σ H1 fun xs H2 => r x xs H2 Q
variable {o e : Expr} {es : List Expr} {to : TE} {t : TA} {name : Str} {apos cpos : Pos} {T id : String} {r : V → List V → Hp → VK → Prop}
theorem pe_bm0 (pa : PlainAttrs T) (slot : Slot T name id) (hty : typeOf (.builtin id) = pure (.type "method_descriptor")) (hm : MtR X id r) (ho : PE X o to)
    (hbase : attributeBase o name X.env (eval o X.env) = eval o X.env := by rfl) (hline : (apos.endLine == cpos.line) = true := by rfl) : PE X (.Call (.Attribute o name apos) [] [] cpos) (tBM0 X.K T r to) := by
  intro pins s σ H Q I h
  refine wpAny_Call_method0_late hbase hline (thn (ho pins s σ H _ I h) fun v s1 ⟨x, H1, I1, r1, ty, q1⟩ => ?_)
  obtain ⟨h1, h2⟩ := tyV_is I1 r1 ty
  exact ⟨T, id, pa, slot, hty, h1, h2, Calls.callWith_builtin rfl (PySem.evalArgs_none (hm pins s1 σ H1 x [] v [] Q I1 r1 .nil q1))⟩
theorem pe_bm (pa : PlainAttrs T) (slot : Slot T name id) (hty : typeOf (.builtin id) = pure (.type "method_descriptor")) (hm : MtR X id r) (ho : PE X o to) (ha : PA X (e :: es) t)
    (hbase : attributeBase o name X.env (eval o X.env) = eval o X.env := by rfl)
    (hfew : ((backTo cpos (starEach (e :: es) X.env)).all (fun x => !x.1) && (backToKw cpos (keywordEach [] X.env)).all (fun x => x.1.isSome)
      && decide ((e :: es).length + ([] : List Keyword).length + (if ([] : List Keyword).isEmpty then 0 else 1) < 30)) = true := by rfl)
    (hline : (apos.endLine == cpos.line) = true := by rfl) (hs : starEach (e :: es) X.env = (false, eval e X.env) :: starEach es X.env := by rfl) (hplain : (backTo cpos (starEach es X.env)).any (·.1) = false := by rfl) :
    PE X (.Call (.Attribute o name apos) (e :: es) [] cpos) (tBM X.K T r to t) := by
  intro pins s σ H Q I h
  refine wpAny_Call_method_late hbase hfew hline rfl (thn (ho pins s σ H _ I h) fun v s1 ⟨x, H1, I1, r1, ty, q1⟩ => ?_)
  obtain ⟨h1, h2⟩ := tyV_is I1 r1 ty
  refine ⟨T, id, pa, slot, hty, h1, h2, ?_⟩
  have hA := ha cpos pins s1 σ H1 _ I1 q1
  rw [hs] at hA ⊢
  refine Calls.callWith_builtin (by show (false || (backTo cpos (starEach es X.env)).any (·.1)) = false; rw [hplain] <;> rfl) (Calls.evalArgs_plain ?_)
  exact thn hA fun us s2 ⟨vs, H2, I2, r2, q2⟩ => hm pins s2 σ H2 x vs v us Q I2 r1 r2 q2
/- xs.append(e), list.index on a module's tuple .. are MtR facts of 06m -/
end
end L2

namespace L2
open PySem PySem.Spec PyProof.Rows

def MtM (X : Cx) (id : String) (r : V → List V → Hp → VK → Prop) : Prop :=
  ∀ (pins : List (Addr × Obj)) (s : Shared) (σ : St) (H : Hp) (x : V) (xs : List V) (v : Value) (us : List Value) (Q : VK), Inv X pins σ H s → RelV x v → Vals xs us → r x xs H Q →
    wpAny (model X.prog X.w) X.A (call (.builtin id) (v :: us)) (EP X pins σ Q) X.xe s

/-! ### lists of values -/
theorem Vals.one : ∀ {x : V} {us : List Value}, Vals [x] us → ∃ u, us = [u] ∧ RelV x u
  | _, _, .cons r .nil => ⟨_, rfl, r⟩
theorem Vals.zero : ∀ {us : List Value}, Vals [] us → us = []
  | _, .nil => rfl
theorem Vals.dropLast {xs : List V} {us : List Value} (h : Vals xs us) : Vals xs.dropLast us.dropLast := by
  induction h with
  | nil => exact .nil
  | cons r t ih =>
    cases t with
    | nil => exact .nil
    | cons q t' => exact .cons r ih
theorem Vals.rep {xs : List V} {us : List Value} (h : Vals xs us) : ∀ k : Nat, Vals (List.replicate k xs).flatten (List.replicate k us).flatten
  | 0 => .nil
  | k + 1 => by
    rw [List.replicate_succ, List.replicate_succ, List.flatten_cons, List.flatten_cons]
    exact Vals.append h (Vals.rep h k)
theorem erase_last {α : Type} (l : List α) : l.eraseIdx (l.length - 1) = l.dropLast := by
  induction l with
  | nil => rfl
  | cons a r ih =>
    cases r with
    | nil => rfl
    | cons b r =>
      have e : (a :: b :: r).length - 1 = ((b :: r).length - 1) + 1 := by
        have h1 : (a :: b :: r).length = r.length + 2 := rfl
        have h2 : (b :: r).length = r.length + 1 := rfl
        omega
      rw [e, List.eraseIdx_cons_succ, ih]
      all_goals rfl
theorem foldl_rep (its : List Value) : ∀ (k : Nat) (acc : List Value),
    List.foldl (fun x1 x2 => x1 ++ x2) acc.toArray (List.replicate k its.toArray) = (acc ++ (List.replicate k its).flatten).toArray
  | 0, acc => by simp
  | k + 1, acc => by
    have e : acc.toArray ++ its.toArray = (acc ++ its).toArray := by simp
    have e2 : (acc ++ its) ++ (List.replicate k its).flatten = acc ++ (List.replicate (k + 1) its).flatten := by
      rw [List.replicate_succ, List.flatten_cons, List.append_assoc]
    rw [← e2, ← foldl_rep its k (acc ++ its), ← e, List.replicate_succ, List.foldl_cons]

section
variable {X : Cx} {pins : List (Addr × Obj)} {σ : St} {H : Hp} {s : Shared} {l b : Addr} {xs ys zs : List V}

/-! ### the two steps: a tracked list is rewritten, a new list is laid -/
theorem Inv.lset {its its' : List Value} {n : Nat} {f : Array Value → Array Value} {t' : Nat} (I : Inv X pins σ H s) (hH : H l = some (.lst xs))
    (e : s.heap.get? l = some { cls := .type "list", data := .seq its.toArray n }) (hf : f its.toArray = its'.toArray) (hv : Vals ys its') (hz : ys.length ≤ sizeLine) :
    Inv X pins σ (upd H l (.lst ys)) { s with heap := s.heap.update l (Obj.mapSeq f), toks := t' } := by
  have q := PySem.IsL.update e f
  rw [hf] at q
  refine I.write (x := l) (e := l) (by rw [hH]; exact trivial) (.inl rfl) (fun b' u hb hu => (Heap.get?_update_other s.heap (Obj.mapSeq f) (Ne.symm hb)).trans hu) ⟨_, q⟩ ?_
  exact ⟨hz, its', _, hv, q⟩
theorem Inv.lnew {its : List Value} {t' : Nat} (I : Inv X pins σ H s) (hv : Vals ys its) (hz : ys.length ≤ sizeLine) :
    Inv X pins σ (upd H s.heap.objs.size (.lst ys)) { s with heap := s.heap.push { cls := .type "list", data := .seq its.toArray }, toks := t' } :=
  I.laid (fun _ _ q => Heap.get?_push_of_some _ q) (Nat.le_refl _) ⟨hz, its, 0, hv, Heap.get?_push_size _ rfl⟩
theorem Inv.fresh (I : Inv X pins σ H s) : H s.heap.objs.size = none := I.hok.fresh (Nat.le_refl _)
theorem Inv.lstM (I : Inv X pins σ H s) (hH : H l = some (.lst xs)) : xs.length ≤ sizeLine ∧ ∃ (its : List Value) (n : Nat), Vals xs its ∧ xs.length = its.length ∧ s.heap.get? l = some { cls := .type "list", data := .seq its.toArray n } := by
  obtain ⟨z, its, n, r, e⟩ := I.hok l _ hH
  exact ⟨z, its, n, r, r.length, e⟩

theorem notLongL {n : Nat} (h : n ≤ sizeLine) : Builtin.List.listTooLong n = false := by
  unfold Builtin.List.listTooLong
  exact decide_eq_false (by omega)
end

section
variable {X : Cx}

/-! ### methods -/
def rAppend : V → List V → Hp → VK → Prop := fun x vs H Q => ∃ l xs y, x = .ref l ∧ vs = [y] ∧ H l = some (.lst xs) ∧ xs.length < sizeLine ∧ Q .non (upd H l (.lst (xs ++ [y])))
theorem mt_append : MtM X "list.append" rAppend := by
  intro pins s σ H x vs v us Q I rx rv h
  obtain ⟨l, xs, y, rfl, rfl, hH, hz, q⟩ := h
  cases rx
  obtain ⟨u, rfl, ru⟩ := rv.one
  obtain ⟨z, its, n, r, hl, e⟩ := I.lstM hH
  refine call_meets F.slot_list_append ⟨_, e, rfl⟩ F.entry_list_append (F.args_list_append_2 _ _) (PySem.list_append l its.toArray n u (by rw [List.size_toArray]; omega)) ⟨e, ?_⟩
  refine ⟨.non, _, I.lset (its' := its ++ [u]) hH e (by simp) (r.append (.cons ru .nil)) ?_, rfl, q⟩
  rw [List.length_append, List.length_singleton]
  omega


def rPop : V → List V → Hp → VK → Prop := fun x vs H Q => ∃ l xs y, x = .ref l ∧ vs = [] ∧ H l = some (.lst xs) ∧ xs[xs.length - 1]? = some y ∧ Q y (upd H l (.lst xs.dropLast))
theorem mt_pop : MtM X "list.pop" rPop := by
  intro pins s σ H x vs v us Q I rx rv h
  obtain ⟨l, xs, y, rfl, rfl, hH, hy, q⟩ := h
  cases rx
  have hus := rv.zero
  subst hus
  obtain ⟨z, its, n, r, hl, e⟩ := I.lstM hH
  obtain ⟨u, hu, ru⟩ := r.get hy
  have hy' : its.toArray[its.toArray.size - 1]? = some u := by
    show its.toArray[its.length - 1]? = some u
    rw [← Array.getElem?_toList, ← hl]
    exact hu
  refine call_meets F.slot_list_pop ⟨_, e, rfl⟩ F.entry_list_pop (F.args_list_pop_1 _) (MeetsSeq.list_pop_last l its.toArray n u hy' (by rw [List.size_toArray]; omega)) ⟨e, ?_⟩
  refine ⟨y, _, I.lset (its' := its.dropLast) hH e ?_ r.dropLast ?_, ru, q⟩
  · show its.toArray.eraseIdxIfInBounds (its.toArray.size - 1) = its.dropLast.toArray
    rw [List.size_toArray, List.eraseIdxIfInBounds_toArray, erase_last]
  · rw [List.length_dropLast]
    omega




/-! ### list + list, list += list, list * int -/
def rCat : R2 := fun x y H Q => ∃ l b xs zs, x = .ref l ∧ y = .ref b ∧ H l = some (.lst xs) ∧ H b = some (.lst zs) ∧ xs.length + zs.length ≤ sizeLine ∧ ∀ p, H p = none → Q (.ref p) (upd H p (.lst (xs ++ zs)))
theorem op_cat : OpR X (binaryOp .Add) rCat := by
  intro pins s σ H x y v u Q I rx ry h
  obtain ⟨l, b, xs, zs, rfl, rfl, hH, hB, hz, q⟩ := h
  cases rx
  cases ry
  obtain ⟨z, its, n, r, hl, e⟩ := I.lstM hH
  obtain ⟨z2, its2, n2, r2, hl2, e2⟩ := I.lstM hB
  refine PySem.P.add_list e e2 ?_ (by rw [List.size_toArray, List.size_toArray]; omega)
  have ea : its.toArray ++ its2.toArray = (its ++ its2).toArray := by simp
  rw [ea]
  exact ⟨.ref _, _, I.lnew (t' := s.toks) (r.append r2) (by rw [List.length_append]; omega), rfl, q _ I.fresh⟩
/-- a list times an int (a negative one is nothing) -/
def rRep : R2 := fun x y H Q => ∃ l k xs, x = .ref l ∧ y = .int k ∧ H l = some (.lst xs) ∧ -(2 ^ 63) ≤ k ∧ k < 2 ^ 63 ∧ xs.length * k.toNat ≤ sizeLine ∧
  ∀ p, H p = none → Q (.ref p) (upd H p (.lst (List.replicate k.toNat xs).flatten))
theorem len_rep {α : Type} (xs : List α) (k : Nat) : (List.replicate k xs).flatten.length = k * xs.length := by
  induction k with
  | zero => simp
  | succ k ih => rw [List.replicate_succ, List.flatten_cons, List.length_append, ih, Nat.succ_mul, Nat.add_comm]
theorem op_rep : OpR X (binaryOp .Mult) rRep := by
  intro pins s σ H x y v u Q I rx ry h
  obtain ⟨l, k, xs, rfl, rfl, hH, h1, h2, hz, q⟩ := h
  cases rx
  obtain ⟨t, rfl⟩ := ry
  obtain ⟨z, its, n, r, hl, e⟩ := I.lstM hH
  have hlen : its.toArray.size * k.toNat ≤ sizeLine := by rw [List.size_toArray, ← hl]; exact hz
  have hcap : ¬ its.toArray.size * k.toNat > (2 ^ 63 - 1) / 8 := by
    have : (sizeLine : Nat) ≤ (2 ^ 63 - 1) / 8 := by decide
    omega
  have hfit : ¬ (!Builtin.List.listFitsIndex k) = true := by
    rw [fitsIndex_both h1 h2]
    exact Bool.false_ne_true
  have hlong : ¬ Builtin.List.listTooLong (its.toArray.size * k.toNat) = true := by
    rw [notLongL hlen]
    exact Bool.false_ne_true
  have hnew : List.foldl (fun x1 x2 => x1 ++ x2) #[] (List.replicate (if its.toArray.isEmpty = true then 0 else k.toNat) its.toArray) = (List.replicate k.toNat its).flatten.toArray := by
    have f0 : ∀ m : Nat, List.foldl (fun x1 x2 => x1 ++ x2) #[] (List.replicate m its.toArray) = (List.replicate m its).flatten.toArray := fun m => by
      have := foldl_rep its m []
      rw [List.nil_append] at this
      exact this
    rw [f0]
    cases its with
    | nil => simp
    | cons a r' => rw [if_neg (by simp)]
  refine wpAny_binaryOp_repeat_ref (T := "list") (U := "int") (by decide) ⟨_, e, rfl⟩ (fun s' => typeIs_int s' k t) noFill_list_mul F.fills_int_mul F.slot_int_rmul repeat_list F.slot_int_index.lookup
    (call_meets F.slot_int_rmul (typeIs_int s k t) F.entry_int_rmul (F.args_int_rmul_2 _ _) (int___rmul___int_list k t l its.toArray n)
      ⟨e, rfl, ⟨_, e, rfl⟩, call_meets F.slot_list_mul ⟨_, e, rfl⟩ F.entry_list_mul (F.args_list_mul_2 _ _) (AutoListH.list___mul___list_int_3 l its.toArray n k t hfit hcap hlong) ⟨e, ?_⟩⟩)
  rw [hnew]
  exact ⟨.ref _, _, I.lnew (t' := s.toks) (r.rep k.toNat) (by rw [len_rep, Nat.mul_comm]; exact hz), rfl, q _ I.fresh⟩

/-! ### del xs[i] -/
end

/-! ### xs[a:b] = ys -/
section
variable {prog : Program} {w : World} {A : Around} {E : Value → Shared → Prop} {s : Shared}
set_option maxRecDepth 100000 in
end

section
variable {X : Cx}
end
end L2

namespace L2
open PySem PySem.Spec PyProof.Rows

/-! ### lists of pairs as tables -/
section
variable {κ : Type} [DecidableEq κ]
def valV (kvs : List (κ × V)) (k : κ) : Option V := (kvs.find? fun kv => decide (kv.1 = k)).map (·.2)
/-- in its place, or at the end -/
def putK (kvs : List (κ × V)) (k : κ) (v : V) : List (κ × V) :=
  if (kvs.any fun kv => decide (kv.1 = k)) = true then kvs.map (fun kv => if kv.1 = k then (kv.1, v) else kv) else kvs ++ [(k, v)]

theorem valV_pos {p : κ × V} {r : List (κ × V)} {k : κ} (e : p.1 = k) : valV (p :: r) k = some p.2 := by simp [valV, List.find?_cons, e]
theorem valV_neg {p : κ × V} {r : List (κ × V)} {k : κ} (e : ¬ p.1 = k) : valV (p :: r) k = valV r k := by simp [valV, List.find?_cons, e]
theorem valV_any (k : κ) : ∀ kvs : List (κ × V), (kvs.any fun kv => decide (kv.1 = k)) = (valV kvs k).isSome
  | [] => rfl
  | p :: r => by
    rw [List.any_cons]
    by_cases e : p.1 = k
    · simp only [valV_pos e, decide_eq_true e, Bool.true_or, Option.isSome_some]
    · rw [valV_neg e, decide_eq_false e, Bool.false_or]; exact valV_any k r
theorem valV_map (k j : κ) (y : V) : ∀ kvs : List (κ × V), valV (kvs.map fun kv => if kv.1 = k then (kv.1, y) else kv) j = (valV kvs j).map fun x => if j = k then y else x
  | [] => rfl
  | p :: r => by
    have ih := valV_map k j y r
    rw [List.map_cons]
    by_cases h : p.1 = k
    · rw [if_pos h]
      by_cases e : p.1 = j
      · rw [valV_pos (p := (p.1, y)) e, valV_pos e, Option.map_some, if_pos (e.symm.trans h)]
      · rw [valV_neg (p := (p.1, y)) e, valV_neg e, ih]
    · rw [if_neg h]
      by_cases e : p.1 = j
      · rw [valV_pos (p := p) e, valV_pos e, Option.map_some, if_neg (fun z => h (e.trans z))]
      · rw [valV_neg (p := p) e, valV_neg e, ih]
theorem valV_snoc (k j : κ) (y : V) : ∀ kvs : List (κ × V), valV kvs k = none → valV (kvs ++ [(k, y)]) j = if j = k then some y else valV kvs j
  | [], _ => by
    by_cases e : k = j
    · rw [if_pos e.symm]; exact valV_pos (p := (k, y)) e
    · rw [if_neg (fun z => e z.symm)]; exact valV_neg (p := (k, y)) e
  | p :: r, hn => by
    rw [List.cons_append]
    have hk : ¬ p.1 = k := fun z => by rw [valV_pos z] at hn; cases hn
    rw [valV_neg hk] at hn
    have ih := valV_snoc k j y r hn
    by_cases e : p.1 = j
    · rw [valV_pos e, valV_pos e, if_neg (fun z => hk (e.trans z))]
    · rw [valV_neg e, valV_neg e, ih]
theorem valV_put (kvs : List (κ × V)) (k j : κ) (y : V) : valV (putK kvs k y) j = if j = k then some y else valV kvs j := by
  unfold putK
  by_cases a : (kvs.any fun kv => decide (kv.1 = k)) = true
  · rw [if_pos a, valV_map]
    rw [valV_any] at a
    by_cases e : j = k
    · obtain ⟨x, hx⟩ := Option.isSome_iff_exists.mp a
      rw [if_pos e, e, hx, Option.map_some, if_pos rfl]
    · rw [if_neg e]
      cases valV kvs j with
      | none => rfl
      | some x => rw [Option.map_some, if_neg e]
  · rw [if_neg a]
    refine valV_snoc k j y kvs ?_
    rw [valV_any] at a
    cases q : valV kvs k with
    | none => rfl
    | some x => rw [q] at a; exact (a rfl).elim
theorem length_putK (kvs : List (κ × V)) (k : κ) (v : V) : (putK kvs k v).length ≤ kvs.length + 1 := by
  unfold putK
  split
  · rw [List.length_map]; omega
  · rw [List.length_append, List.length_cons, List.length_nil]; omega

theorem RelO.isSome_eq {o : Option V} {u : Option Value} (r : RelO o u) : o.isSome = u.isSome := by
  cases o with
  | none => cases u with
    | none => rfl
    | some _ => exact (show False from r).elim
  | some _ => cases u with
    | none => exact (show False from r).elim
    | some _ => rfl
theorem RelO.getD {o : Option V} {u : Option Value} {d : V} {d' : Value} (r : RelO o u) (rd : RelV d d') : RelV (o.getD d) (u.getD d') := by
  cases o with
  | none => cases u with
    | none => exact rd
    | some _ => exact (show False from r).elim
  | some _ => cases u with
    | none => exact (show False from r).elim
    | some _ => exact r

/-- raw tables of the same keys -/
theorem KV.val {kvs : List (κ × V)} {vs : List (κ × Value)} (r : KV kvs vs) (k : κ) : RelO (valV kvs k) (valueAt vs k) := by
  unfold KV at r
  induction r with
  | nil => exact True.intro
  | @cons p q ps qs h t ih =>
    obtain ⟨h1, h2⟩ := h
    by_cases e : p.1 = k
    · have e' : q.1 = k := h1.symm.trans e
      have b : valueAt (q :: qs) k = some q.2 := by simp [valueAt, List.find?_cons, e']
      rw [valV_pos e, b]; exact h2
    · have e' : ¬ q.1 = k := fun z => e (h1.trans z)
      have b : valueAt (q :: qs) k = valueAt qs k := by simp [valueAt, List.find?_cons, e']
      rw [valV_neg e, b]; exact ih
theorem KV.any {kvs : List (κ × V)} {vs : List (κ × Value)} (r : KV kvs vs) (k : κ) : (kvs.any fun kv => decide (kv.1 = k)) = vs.any fun kv => decide (kv.1 = k) := by
  unfold KV at r
  induction r with
  | nil => rfl
  | cons h t ih => rw [List.any_cons, List.any_cons, ih, h.1]
theorem KV.repl {kvs : List (κ × V)} {vs : List (κ × Value)} (r : KV kvs vs) (k : κ) {y : V} {u : Value} (ry : RelV y u) :
    KV (kvs.map fun kv => if kv.1 = k then (kv.1, y) else kv) (vs.map fun kv => if kv.1 = k then (kv.1, u) else kv) := by
  unfold KV at r ⊢
  induction r with
  | nil => exact .nil
  | @cons p q ps qs h t ih =>
    rw [List.map_cons, List.map_cons]
    refine .cons ?_ ih
    obtain ⟨h1, h2⟩ := h
    by_cases e : p.1 = k
    · rw [if_pos e, if_pos (h1.symm.trans e)]; exact ⟨h1, ry⟩
    · rw [if_neg e, if_neg (fun z => e (h1.trans z))]; exact ⟨h1, h2⟩
theorem KV.put {kvs : List (κ × V)} {vs : List (κ × Value)} (r : KV kvs vs) (k : κ) {y : V} {u : Value} (ry : RelV y u) : KV (putK kvs k y) (stored vs k u) := by
  unfold putK stored
  rw [r.any k]
  by_cases e : (vs.any fun kv => decide (kv.1 = k)) = true
  · rw [if_pos e, if_pos e]; exact r.repl k ry
  · rw [if_neg e, if_neg e]; exact Paired.snoc r ⟨rfl, ry⟩
theorem KV.length {kvs : List (κ × V)} {vs : List (κ × Value)} (r : KV kvs vs) : kvs.length = vs.length := Paired.length r
end


/-! ### a tracked dict, its keys ints and texts or tuples of these -/
theorem kV_is {P : Program} {w : World} {k : Key} {u : Value} (r : RelV (kV k) u) : (mixKind P w).is k u = true := by
  cases k with
  | inl i => obtain ⟨t, e⟩ := (show ∃ t, u = Value.int i t from r); subst e; exact mixKind_int P w i t
  | inr x => obtain ⟨t, e⟩ := (show ∃ t, u = Value.str x t from r); subst e; exact mixKind_str P w x t
theorem items_are {P : Program} {w : World} : ∀ {ks : List Key} {us : List Value}, Vals (ks.map kV) us → ItemsAre (mixKind P w) ks us
  | [], _, r => by rw [List.map_nil] at r; cases r; exact .nil
  | k :: ks, _, r => by
    rw [List.map_cons] at r
    cases r with
    | cons h t => exact .cons (kV_is h) (items_are t)

/-- raw entries of a dict with tuple keys -/
abbrev KT (H : Hp) : List (List Key × V) → List (List Key × Addr × Value) → Prop := Paired fun p q => p.1 = q.1 ∧ H q.2.1 = some (.tup (p.1.map kV)) ∧ RelV p.2 q.2.2
theorem KT.val {H : Hp} {kvs : List (List Key × V)} {xs : List (List Key × Addr × Value)} (r : KT H kvs xs) (k : List Key) : RelO (valV kvs k) ((atKey xs k).map (·.2)) := by
  induction r with
  | nil => exact True.intro
  | @cons p q ps qs h t ih =>
    obtain ⟨h1, _, h2⟩ := h
    by_cases e : p.1 = k
    · have e' : q.1 = k := h1.symm.trans e
      have b : atKey (q :: qs) k = some q.2 := by simp [atKey, List.find?_cons, e']
      rw [valV_pos e, b]; exact h2
    · have e' : ¬ q.1 = k := fun z => e (h1.trans z)
      have b : atKey (q :: qs) k = atKey qs k := by simp [atKey, List.find?_cons, e']
      rw [valV_neg e, b]; exact ih
theorem KT.repl {H : Hp} {kvs : List (List Key × V)} {xs : List (List Key × Addr × Value)} (r : KT H kvs xs) (k : List Key) {y : V} {u : Value} (ry : RelV y u) :
    KT H (kvs.map fun kv => if kv.1 = k then (kv.1, y) else kv) (xs.map (putAt k u)) := by
  induction r with
  | nil => exact .nil
  | @cons p q ps qs h t ih =>
    rw [List.map_cons, List.map_cons]
    refine .cons ?_ ih
    obtain ⟨h1, h2, h3⟩ := h
    unfold putAt
    by_cases e : p.1 = k
    · rw [if_pos e, if_pos (h1.symm.trans e)]; exact ⟨h1, h2, ry⟩
    · rw [if_neg e, if_neg (fun z => e (h1.trans z))]; exact ⟨h1, h2, h3⟩
theorem KT.put {H : Hp} {kvs : List (List Key × V)} {xs : List (List Key × Addr × Value)} (r : KT H kvs xs) (k : List Key) {b : Addr} {y : V} {u : Value} (hb : H b = some (.tup (k.map kV))) (ry : RelV y u) :
    KT H (putK kvs k y) (storedH xs k b u) := by
  have e : (kvs.any fun kv => decide (kv.1 = k)) = (atKey xs k).isSome := by
    rw [valV_any, (r.val k).isSome_eq, Option.isSome_map]
  unfold putK storedH
  rw [e]
  by_cases q : (atKey xs k).isSome = true
  · rw [if_pos q, if_pos q]; exact r.repl k ry
  · rw [if_neg q, if_neg q]; exact Paired.snoc r ⟨rfl, hb, ry⟩
theorem KT.keeps {H H' : Hp} {kvs : List (List Key × V)} {xs : List (List Key × Addr × Value)} (r : KT H kvs xs) (ht : ∀ b ys, H b = some (.tup ys) → H' b = some (.tup ys)) : KT H' kvs xs :=
  Paired.mapP r fun _ _ z => ⟨z.1, ht _ _ z.2.1, z.2.2⟩

section
variable {P : Program} {w : World} {H : Hp} {h : Heap} {a : Addr}
theorem rd_of {u : HO} (ok : HOk P w H h) (e : Rd H a u) : ObjOk P w H h a u := e.ok ok
theorem dk_rd {kvs : List (Key × V)} (ok : HOk P w H h) (e : Rd H a (.dK kvs)) : kvs.length ≤ sizeLine ∧ (a == sysModules) = false ∧ ∃ vs, KV kvs vs ∧ h.DictOf (mixKind P w) a vs :=
  show ObjOk P w H h a (.dK kvs) from rd_of ok e
theorem dk_of {kvs : List (Key × V)} (ok : HOk P w H h) (e : H a = some (.dK kvs)) : kvs.length ≤ sizeLine ∧ (a == sysModules) = false ∧ ∃ vs, KV kvs vs ∧ h.DictOf (mixKind P w) a vs := dk_rd ok (.inl e)
/-- a tracked tuple of ints and texts is a key -/
theorem key_of {ks : List Key} (ok : HOk P w H h) (e : H a = some (.tup (ks.map kV))) : (tupleKind (mixKind P w)).is h ks a := by
  obtain ⟨_, its, r, o, h1, h2, n, h3⟩ := (show ObjOk P w H h a (.tup (ks.map kV)) from ok a _ e)
  exact ⟨o, its.toArray, n, h1, h2, h3, by simpa using items_are r⟩
theorem dt_rd {kvs : List (List Key × V)} (ok : HOk P w H h) (e : Rd H a (.dT kvs)) : kvs.length ≤ sizeLine ∧ (a == sysModules) = false ∧
    ∃ xs, KT H kvs xs ∧ h.DictOfH (tupleKind (mixKind P w)) a xs := by
  obtain ⟨z, y, xs, r, o, es, ep, h1, h2, h3, h4, h5⟩ := (show ObjOk P w H h a (.dT kvs) from rd_of ok e)
  refine ⟨z, y, xs, r, o, es, ep, h1, h2, h3, h4, fun x hx => ?_, h5⟩
  have all : ∀ {l : List (List Key × V)} {m : List (List Key × Addr × Value)}, KT H l m → ∀ x ∈ m, (tupleKind (mixKind P w)).is h x.1 x.2.1 := by
    intro l m q
    induction q with
    | nil => intro x hx; exact nomatch hx
    | @cons p q ps qs hq t ih =>
      intro x hx
      rcases List.mem_cons.mp hx with e | hx
      · subst e
        exact key_of ok (by rw [← hq.1]; exact hq.2.1)
      · exact ih x hx
  exact all r x hx
theorem dt_of {kvs : List (List Key × V)} (ok : HOk P w H h) (e : H a = some (.dT kvs)) : kvs.length ≤ sizeLine ∧ (a == sysModules) = false ∧
    ∃ xs, KT H kvs xs ∧ h.DictOfH (tupleKind (mixKind P w)) a xs := dt_rd ok (.inl e)
end

/-- what the dict at a holds at the key y -/
def DGet (H : Hp) (a : Addr) (y : V) (r : Option V) : Prop :=
  (∃ kvs k, Rd H a (.dK kvs) ∧ y = kV k ∧ r = valV kvs k) ∨ ∃ kvs k b, Rd H a (.dT kvs) ∧ y = .ref b ∧ H b = some (.tup (k.map kV)) ∧ r = valV kvs k
/-- the heap behind a[y] = v -/
def DPut (H : Hp) (a : Addr) (y v : V) (H' : Hp) : Prop :=
  (∃ kvs k, H a = some (.dK kvs) ∧ y = kV k ∧ kvs.length < sizeLine ∧ H' = upd H a (.dK (putK kvs k v))) ∨
  ∃ kvs k b, H a = some (.dT kvs) ∧ y = .ref b ∧ H b = some (.tup (k.map kV)) ∧ kvs.length < sizeLine ∧ H' = upd H a (.dT (putK kvs k v))
theorem DGet.k {H : Hp} {a : Addr} {kvs : List (Key × V)} {k : Key} (e : H a = some (.dK kvs)) : DGet H a (kV k) (valV kvs k) := .inl ⟨kvs, k, .inl e, rfl, rfl⟩
theorem DPut.k {H : Hp} {a : Addr} {kvs : List (Key × V)} {k : Key} {v : V} (e : H a = some (.dK kvs)) (hl : kvs.length < sizeLine) : DPut H a (kV k) v (upd H a (.dK (putK kvs k v))) := .inl ⟨kvs, k, e, rfl, hl, rfl⟩


section
variable {X : Cx} {pins : List (Addr × Obj)} {σ : St} {H : Hp} {s : Shared} {a : Addr} {y v : V} {u r : Value} {o : Option V} {A : Around} {E : Value → Shared → Prop}

theorem Inv.big (I : Inv X pins σ H s) : sysModules < s.heap.objs.size := by
  have h : mainGlobals < s.heap.objs.size := (I.mod.glob.keeps I.bk).lt
  exact Nat.lt_trans (by decide) h

/-- y in d -/
theorem d_in {Q : Value → Shared → Prop} (hu : A.units + 1 < cLine) (I : Inv X pins σ H s) (g : DGet H a y o) (ry : RelV y u) (h : ∀ s', Inv X pins σ H s' → Q (.bool o.isSome) s') :
    wpAny (model X.prog X.w) A (compareOp .In u (.ref a)) Q E s := by
  rcases g with ⟨kvs, k, e, ey, l⟩ | ⟨kvs, k, b, e, ey, eb, l⟩
  · subst ey
    obtain ⟨z, hd, vs, rel, dd⟩ := dk_rd I.hok e
    refine wpAny_in_of (kV_is ry) hd dd.mapOf ?_
    rw [← (rel.val k).isSome_eq, ← l]
    exact h _ (I.tok _)
  · subst ey
    cases (show u = Value.ref b from ry)
    obtain ⟨z, hd, xs, rel, dd⟩ := dt_rd I.hok e
    refine wpAny_in_heap (tupleKind_room_in1 hu) (key_of I.hok eb) hd dd ?_
    have q := (rel.val k).isSome_eq
    rw [Option.isSome_map] at q
    rw [← q, ← l]
    exact h _ (I.tok _)
/-- a dict's object is replaced -/
theorem d_write {h' : Heap} {t' : Nat} {ob : HO} (I : Inv X pins σ H s) (mu : Mut (H a)) (hs : Heap.SameBut a s.heap h') (he : ∃ q, h'.get? a = some q) (new : ObjOk X.prog X.w (upd H a ob) h' a ob) :
    Inv X pins σ (upd H a ob) { s with heap := h', toks := t' } :=
  I.write (x := a) (e := a) mu (.inl rfl) (fun b q hb z => (hs.2 b hb).trans z) he new
theorem dk_new {P : Program} {w : World} {H' : Hp} {h' : Heap} {kvs : List (Key × V)} {vs : List (Key × Value)} (z : kvs.length ≤ sizeLine) (hd : (a == sysModules) = false) (rel : KV kvs vs) (dd : h'.DictOf (mixKind P w) a vs) :
    ObjOk P w H' h' a (.dK kvs) := ⟨z, hd, vs, rel, dd⟩
/-- d[y] = v -/
theorem d_setItem {H' : Hp} {Q : Unit → Shared → Prop} (hu : A.units + 1 < cLine) (I : Inv X pins σ H s) (g : DPut H a y v H') (ry : RelV y u) (rv : RelV v r) (h : ∀ s', Inv X pins σ H' s' → Q () s') :
    wpAny (model X.prog X.w) A (setItem (.ref a) u r) Q E s := by
  rcases g with ⟨kvs, k, e, ey, l, eH⟩ | ⟨kvs, k, b, e, ey, eb, l, eH⟩
  · subst ey eH
    obtain ⟨z, hd, vs, rel, dd⟩ := dk_of I.hok e
    have hz : vs.length ≤ sizeLine := by rw [← rel.length]; exact z
    have hl : (putK kvs k v).length ≤ sizeLine := by have := length_putK kvs k v; omega
    refine wpAny_setItem_pairs (hsz := hz) (kV_is ry) dd fun h' dd' hs => h _ ?_
    have he : ∃ q, h'.get? a = some q := let ⟨q, _, _, hq, _⟩ := dd'; ⟨q, hq⟩
    exact d_write I (by rw [e]; exact True.intro) hs he (dk_new hl hd (rel.put k rv) dd')
  · subst ey eH
    cases (show u = Value.ref b from ry)
    obtain ⟨z, hd, xs, rel, dd⟩ := dt_of I.hok e
    have hz : xs.length ≤ sizeLine := by rw [← Paired.length rel]; exact z
    have hl : (putK kvs k v).length ≤ sizeLine := by have := length_putK kvs k v; omega
    refine wpAny_setItem_heap (hsz := hz) (tupleKind_room_in1 hu) (key_of I.hok eb) dd fun h' dd' hs => h _ ?_
    obtain ⟨q, es, ep, hq, h2, h3, h4, _, h5⟩ := dd'
    refine d_write I (by rw [e]; exact True.intro) hs ⟨q, hq⟩ ⟨hl, hd, _, (rel.put k eb rv).keeps fun c ys ec => ?_, q, es, ep, hq, h2, h3, h4, h5⟩
    rw [upd_ne (ne_of ec e (fun z => nomatch z))]
    exact ec
end

section
variable {X : Cx} {pins : List (Addr × Obj)} {σ : St} {H : Hp} {s : Shared} {a : Addr} {kvs : List (Key × V)} {k : Key} {u : Value} {A : Around} {E : Value → Shared → Prop}
end


/-! ### readings and rules -/
/-- the element of a subscription, not a slice -/
def NoSl (i : Expr) : Prop := ∀ ov iv, subscripted i false ov iv = operate [ov, iv] (getItem ov iv)
theorem subD_of {prog : Program} {w : World} {A : Around} {E : Value → Shared → Prop} {s : Shared} {env : Env} {value slice : Expr} {pos : Pos} {T id : String} {Q : Value → Shared → Prop}
    (hl : typeLookup (.type T) "__getitem__" = pure (some (.builtin id))) (hs : NoSl slice)
    (h : wpAny (model prog w) A (eval value env) (fun o s₁ => wpAny (model prog w) A (eval slice env) (fun i s₂ => s₂.TypeIs o T ∧ wpAny (model prog w) A (getItem o i) Q E s₂) E s₁) E s) :
    wpAny (model prog w) A (eval (.Subscript value slice pos) env) Q E s := by
  refine Subscript_ (wpAny_mono h (fun o s₁ h₁ => wpAny_mono h₁ (fun i s₂ h₂ => ?_) fun _ _ x => x) fun _ _ x => x)
  obtain ⟨hT, h₂⟩ := h₂
  unfold subscriptTail
  refine wpAny_bind ?_
  rw [getitemInPython_of_ne hT.not_modules]
  refine wpAny_bind (wpAny_specialOf hT hl ?_)
  have fin : wpAny (model prog w) A (subscripted slice false o i) (fun r s₃ => wpAny (model prog w) A (letTemporaryGo value o r >>= fun _ => pure r) Q E s₃) E s₂ := by
    rw [hs o i]
    exact wpAny_operating (wpAny_mono h₂ (fun r s₃ h₃ => wpAny_bind (wpAny_letTemporaryGo (wpAny_pure h₃))) fun _ _ x => x)
  first
    | exact wpAny_pure (wpAny_bind fin)
    | exact wpAny_bind (wpAny_pure (wpAny_bind fin))
    | exact wpAny_bind fin


/-- y in d, y not in d -/
def tDIn (ty td : TE) : TE := fun σ H Q => ty σ H fun y H1 => td σ H1 fun x H2 => ∃ a o, x = .ref a ∧ DGet H2 a y o ∧ Q (.bl o.isSome) H2
/-- d[y] = v -/
def sDPut (td ty tv : TE) : TS := fun D σ H => tv σ H fun v H1 => td σ H1 fun x H2 => ty σ H2 fun y H3 => ∃ a H4, x = .ref a ∧ DPut H3 a y v H4 ∧ D.nx σ H4

section
variable {X : Cx} {o i e value : Expr} {pos pos' tpos : Pos} {td ty tv : TE}
theorem pc_din (hu : X.A.units + 1 < cLine) (hi : PE X i ty) (ho : PE X o td) : PC X .In i o (tDIn ty td) := by
  intro pins s σ H Q I h
  refine thn (hi pins s σ H _ I h) fun iv s1 ⟨y, H1, I1, ry, q1⟩ => thn (ho pins s1 σ H1 _ I1 q1) fun u s2 ⟨x, H2, I2, rx, a, ov, ex, g, q2⟩ => ?_
  subst ex
  obtain rfl : u = Value.ref a := rx
  exact d_in hu I2 g ry fun s3 I3 => ⟨.bl ov.isSome, H2, I3, rfl, q2⟩
theorem ps_dput (hu : X.A.units + 1 < cLine) (ho : PE X o td) (hi : PE X i ty) (hv : PE X value tv) (hs : swapsWith value (some (.Subscript o i pos')) pos.line X.env = pure false) :
    PS X (.Assign [.Subscript o i pos'] value pos) (sDPut td ty tv) := by
  intro pins s σ H D I h
  refine wpAny_Assign_Subscript (thn (hv pins s σ H _ I h) fun r s1 ⟨v, H1, I1, rv, q1⟩ => thn (ho pins s1 σ H1 _ I1 q1) fun u s2 ⟨x, H2, I2, rx, q2⟩ => thn (hi pins s2 σ H2 _ I2 q2) fun iv s3 ⟨y, H3, I3, ry, a, H4, ex, g, q3⟩ => ?_) hs
  subst ex
  obtain rfl : u = Value.ref a := rx
  exact d_setItem hu I3 g ry rv fun s4 I4 => ⟨σ, H4, I4, q3⟩
end


/-! ### displays -/
theorem dk_empty {P : Program} {w : World} {H : Hp} (h : Heap) (hb : sysModules < h.objs.size) : ObjOk P w H (h.push { cls := .type "dict", data := .dict #[] }) h.objs.size (.dK []) :=
  ⟨Nat.zero_le _, beq_eq_false_iff_ne.mpr (Ne.symm (Nat.ne_of_lt hb)), [], .nil, Heap.DictOf.new h⟩
/-- {}, to be a dict of the kind that is wanted -/
def tDNewK : TE := fun _ H Q => ∀ p, H p = none → Q (.ref p) (upd H p (.dK []))
section
variable {X : Cx} {pos : Pos}
theorem pe_dnewK : PE X (.Dict [] [] pos) tDNewK := fun pins s σ H Q I h =>
  wpAny_Dict_empty ⟨.ref s.heap.objs.size, _, I.laid (a := s.heap.objs.size) (o := .dK []) (t' := s.toks) (fun _ _ q => Heap.get?_push_of_some _ q) (Nat.le_refl _) (dk_empty s.heap I.big), rfl, h _ (I.hok.fresh (Nat.le_refl _))⟩
end




/-! ### methods -/
structure M2 (X : Cx) (o : Expr) (m : Str) (apos : Pos) (e f : Expr) (cpos : Pos) : Prop where
  base : attributeBase o m X.env (eval o X.env) = eval o X.env
  few : ((backTo cpos (starEach [e, f] X.env)).all (fun x => !x.1) && (backToKw cpos (keywordEach [] X.env)).all (fun x => x.1.isSome)
    && decide (([e, f] : List Expr).length + ([] : List Keyword).length + (if ([] : List Keyword).isEmpty then 0 else 1) < 30)) = true
  line : (apos.endLine == cpos.line) = true
  trees : backTo cpos (starEach [e, f] X.env) = [(false, eval e X.env), (false, eval f X.env)]

/-- a is a dict, whatever its keys -/
def IsD (H : Hp) (a : Addr) : Prop := (∃ kvs, Rd H a (.dK kvs)) ∨ ∃ kvs, Rd H a (.dT kvs)
theorem isD_at {X : Cx} {pins : List (Addr × Obj)} {σ : St} {H : Hp} {s : Shared} {a : Addr} (I : Inv X pins σ H s) (d : IsD H a) :
    s.TypeIs (.ref a) "dict" ∧ (∀ b, Value.ref a = .ref b → ∃ ob, s.heap.get? b = some ob ∧ ob.dict = none) ∧ (a == sysModules) = false := by
  rcases d with ⟨kvs, e⟩ | ⟨kvs, e⟩
  · obtain ⟨_, hd, vs, _, dd⟩ := dk_rd I.hok e
    refine ⟨dd.typeIs, fun b q => ?_, hd⟩
    cases q
    obtain ⟨ob, _, _, h1, h2, _⟩ := dd
    exact ⟨ob, h1, h2.2.1⟩
  · obtain ⟨_, hd, xs, _, dd⟩ := dt_rd I.hok e
    refine ⟨dd.typeIs, fun b q => ?_, hd⟩
    cases q
    obtain ⟨ob, _, _, h1, h2, _⟩ := dd
    exact ⟨ob, h1, h2.2.1⟩

section
variable {X : Cx} {pins : List (Addr × Obj)} {σ : St} {H : Hp} {s : Shared} {a : Addr} {y d : V} {u r : Value} {o : Option V} {A : Around} {E : Value → Shared → Prop}
/-- d.get(y, x) -/
theorem d_get2 {Q : Value → Shared → Prop} (hu : A.units + 1 < cLine) (I : Inv X pins σ H s) (g : DGet H a y o) (ry : RelV y u) (rd : RelV d r) (h : ∀ w' s', Inv X pins σ H s' → RelV (o.getD d) w' → Q w' s') :
    wpAny (model X.prog X.w) A (call (.builtin "dict.get") [.ref a, u, r]) Q E s := by
  rcases g with ⟨kvs, k, e, ey, l⟩ | ⟨kvs, k, b, e, ey, eb, l⟩
  · subst ey
    obtain ⟨z, hd, vs, rel, dd⟩ := dk_rd I.hok e
    refine call_meetsIn PySem.F.slot_dict_get dd.typeIs PySem.F.entry_dict_get (PySem.F.args_dict_get_3 _ _ _) (meets_dict_get_default (mixKind X.prog X.w) a (kV_is ry) hd r) ⟨_, dd.mapOf, h _ _ (I.tok _) ?_⟩
    rw [l]
    exact (rel.val k).getD rd
  · subst ey
    cases (show u = Value.ref b from ry)
    obtain ⟨z, hd, xs, rel, dd⟩ := dt_rd I.hok e
    refine call_meetsIn PySem.F.slot_dict_get dd.typeIs PySem.F.entry_dict_get (PySem.F.args_dict_get_3 _ _ _) (meetsH_dict_get_default (tupleKind (mixKind X.prog X.w)) a b hd r) ⟨tupleKind_room_in1 hu, k, xs, key_of I.hok eb, dd, h _ _ (I.tok _) ?_⟩
    rw [l]
    exact (rel.val k).getD rd
end

def tDGet2 (td ty tx : TE) : TE := fun σ H Q => td σ H fun x H1 => ∃ a, x = .ref a ∧ IsD H1 a ∧ ty σ H1 fun y H2 => tx σ H2 fun z H3 => ∃ o, DGet H3 a y o ∧ Q (o.getD z) H3
section
variable {X : Cx} {o e f : Expr} {apos cpos : Pos} {td ty tx : TE}
theorem pe_dget2 (hu : X.A.units + 1 < cLine) (ho : PE X o td) (he : PE X e ty) (hf : PE X f tx) (m : M2 X o "get" apos e f cpos) : PE X (.Call (.Attribute o "get" apos) [e, f] [] cpos) (tDGet2 td ty tx) := by
  intro pins s σ H Q I h
  refine wpAny_Call_method m.base m.few m.line PySem.F.plainAttrs_dict PySem.F.slot_dict_get PySem.F.type_dict_get (thn (ho pins s σ H _ I h) fun u s1 ⟨x, H1, I1, rx, a, ex, d, q1⟩ => ?_)
  subst ex
  obtain rfl : u = Value.ref a := rx
  obtain ⟨t1, t2, _⟩ := isD_at I1 d
  refine ⟨t1, t2, ?_⟩
  rw [m.trees]
  refine Calls.callWith_builtin rfl (Calls.evalArgs_plain (Calls.spliced_cons (thn (he pins s1 σ H1 _ I1 q1) fun iv s2 ⟨y, H2, I2, ry, q2⟩ =>
    Calls.spliced_cons (thn (hf pins s2 σ H2 _ I2 q2) fun fv s3 ⟨z, H3, I3, rz, ov, g, q3⟩ => Calls.spliced_nil ?_))))
  exact d_get2 hu I3 g ry rz fun w' s4 I4 rw' => ⟨_, H3, I4, rw', q3⟩
end

/-! ### dict(d): a copy -/
section
variable {X : Cx} {pins : List (Addr × Obj)} {σ : St} {H : Hp} {s : Shared} {a : Addr} {kvs : List (Key × V)} {A : Around} {E : Value → Shared → Prop}
theorem d_copyOf {Q : Value → Shared → Prop} (I : Inv X pins σ H s) (e : Rd H a (.dK kvs)) (h : ∀ p s', H p = none → Inv X pins σ (upd H p (.dK kvs)) s' → Q (.ref p) s') : wpAny (model X.prog X.w) A (call (.type "dict") [.ref a]) Q E s := by
  obtain ⟨z, hd, vs, rel, dd⟩ := dk_rd I.hok e
  refine kt_call_dict hd dd (by rw [← rel.length]; exact z) fun h' dd' hs => ?_
  refine h _ _ (I.hok.fresh (Nat.le_refl _)) (I.laid (a := s.heap.objs.size) (o := .dK kvs) (t' := s.toks) (fun b q hq => ?_) (Nat.le_refl _) (dk_new z (beq_eq_false_iff_ne.mpr (Ne.symm (Nat.ne_of_lt I.big))) rel dd'))
  exact (hs.2 b (Nat.ne_of_lt (Heap.lt_size hq))).trans (Heap.get?_push_of_some _ hq)
end


section
variable {X : Cx} {pins : List (Addr × Obj)} {σ : St} {H : Hp} {s : Shared} {a : Addr} {y : V} {u : Value} {A : Around} {E : Value → Shared → Prop}
end
end L2

namespace Att
open PySem PySem.W PySem.Calls PyProof.Rows

/-! ### the script -/
theorem ints_of_wellAll {P : Params} {h : Heap} : ∀ (ns : List Int) (vs : List Value), WellAll P h vs (ns.map WData.int) → IntsAre vs ns := by
  intro ns
  induction ns with
  | nil =>
    intro vs w
    rw [List.map_nil] at w
    cases w
    exact .nil
  | cons n ns ih =>
    intro vs w
    rw [List.map_cons] at w
    cases w with
    | cons a b =>
      cases a
      exact .cons _ _ (ih _ b)

theorem script_of {l : OpenLaw} {n : Nat} (hn : l.most = some n) {P : Params} {h : Heap} {args : List WData} {vals : List Value}
    (hpre : l.row.toRowW.claim.pre args = true) (hwl : WellAll P h vals args) :
    ∃ a vs ns, vals = [Value.ref a] ∧ args = [WData.list (ns.map WData.int)] ∧ h.get? a = some { cls := .type "list", data := .seq vs.toArray } ∧ IntsAre vs ns ∧ ns.length ≤ n := by
  have hsh : WShape.hasAll [] args [.list .int] = true := (pre_splitW hpre).1
  have hc : l.pre.holds [] { args := args } = true := (pre_splitW hpre).2
  obtain ⟨d, r, rfl, h1, h2⟩ := hasAllW_cons hsh
  obtain rfl := hasAllW_nil h2
  obtain ⟨xs, rfl, h3⟩ := hasW_list h1
  obtain ⟨ns, rfl⟩ := items_int h3
  have hlen : ns.length ≤ n := by
    unfold OpenLaw.pre at hc
    have h4 : (WTm.not (.lt (.lit (.int (n : Int))) (.len (.arg 0)))).holds [] { args := [.list (ns.map .int)] } = true := by
      have h4 := (holds_andW hc).1
      rw [hn] at h4
      exact h4
    have h5 := condW_of h4 (w_not (w_lt w_lit (w_len_list (w_arg rfl))))
    rw [List.length_map] at h5
    refine Nat.le_of_not_lt fun q => ?_
    have q' : (n : Int) < ((ns.length : Nat) : Int) := by omega
    first
      | (rw [decide_eq_true q'] at h5; exact absurd h5 (by decide))
      | (simp at h5; omega)
  cases hwl with
  | cons w1 w2 =>
    cases w2
    cases w1 with
    | list ho hall => exact ⟨_, _, ns, rfl, rfl, ho, ints_of_wellAll ns _ hall, hlen⟩

theorem post_true (l : OpenLaw) (args : List WData) : l.row.toRowW.claim.post args (.bool true) args = true :=
  postW_of (r := l.row.toRowW) (X := (true == true))
    (show WShape.has [] (.bool true) .bool = true by first | rfl | decide | simp [WShape.has, WShape.arms, WShape.armsAll])
    (show (WTm.eq .res (.lit (.bool true))).value [] { args := args, res := some (.bool true), after := args } = some (.bool (true == true)) from w_eq_bool (w_res rfl) w_lit) rfl

/-! ### the attachment: holds_open's last premise (the goal 'hc' behind k_head) from a wpAny of the law's body -/

/-- the same from a codeAny of the CALL (for a layer whose function contracts speak of calls) -/
theorem attach_call {l : OpenLaw} {n : Nat} {q : Program} {loose : List Str} {XP : (Str → Option Value) → Heap → Prop} {YP : World → Heap → Prop} {d : DefRec}
    (hn : l.most = some n) (hdf : d.params.defaults = [])
    (call : ∀ (w : World) (s₀ s₁ : Shared) (mg mb : Str → Option Value) (fa : Addr) (o : Obj) (pm cd doc : Value) (a : Addr) (vs : List Value) (ns : List Int),
      Ground q loose [] XP w s₀ mg mb s₁.heap → YP w s₁.heap →
      s₁.heap.get? fa = some o → o.data = .func (docDef d.name d.params d.body d.scope pm cd doc) → s₁.heap.CodeRec cd d.name → mg d.name = some (.ref fa) →
      s₁.heap.get? a = some { cls := .type "list", data := .seq vs.toArray } → IntsAre vs ns → ns.length ≤ n → s₁.gens = #[] →
      codeAny (model l.prog w) callerA (.call (.ref fa) ⟨[.ref a], []⟩) (fun r s' => r = .ok (.ret (.bool true)) ∧ OldK s₁.heap s'.heap ∧ s'.os = s₁.os ∧ AllBare s'.gens) s₁) :
    WalkO q loose XP YP l.row.toRowW d [] (fun f vs => PySem.call f vs) := by
  intro w s₀ s₁ mg mb G Y fa o pm cd doc dV kV ho hd hcd hD hmg hg args vals as hpre hlay hrd hwl hlo
  obtain rfl : dV = .none := Dflts.none hD hdf
  obtain rfl : kV = .none := Dflts.noKw hD
  obtain ⟨a, vs, ns, rfl, rfl, hobj, hints, hlen⟩ := script_of hn hpre hwl
  refine enter_call (codeAny_mono (call w s₀ s₁ mg mb fa o pm cd doc a vs ns G Y ho (fd_plain hd) hcd hmg hobj hints hlen hg) fun r s' hq => ?_)
  obtain ⟨rfl, h2, h3, h4⟩ := hq
  exact ⟨.inl ⟨.bool true, .bool true, [], rfl, fun _ => rfl, .bool true, post_true l _, fun _ => ⟨List.Pairwise.nil, fun _ hm => (nomatch hm)⟩⟩, h2, h3, h4⟩


/-! ### rules over ANY heap (no ledger) from facts about the written part K: the library's own take a ledger (News) for what they write -/
section
variable {prog : Program} {w : World} {A : Around} {E : Value → Shared → Prop} {s : Shared} {K : Frag}





/-! the whole heap as the ledger: makes every rule that writes through a ledger a rule over any heap -/

end
end Att

namespace L2
open PySem PySem.Spec PyProof.Rows

theorem vals_ints : ∀ {vs : List Value} {ns : List Int}, IntsAre vs ns → Vals (ns.map V.int) vs
  | _, _, .nil => .nil
  | _, _, .cons n t h => .cons ⟨t, rfl⟩ (vals_ints h)

/-- nothing is tracked but the script, known to the object (or it is an object of the module) -/
def Only (H : Hp) : Prop := ∀ b, H b = none ∨ ∃ o xs, H b = some (.frz o (.lst xs))

/-- THE HEAD: the law's promise, at the heap behind the top. F, the promise of the law's def, may use that base is part of the heap (so K.In base, base.Ns mainGlobals mg stand in Mod) -/
theorem law_call {P : Program} {w : World} {K : PySem.W.Frag} {mg mb : Str → Option Value} {CX : CXT} {k : Nat} {fa a : Addr} {fd : FuncData} {x : Str} {sp : Sp} {s₁ : Shared} {vs : List Value} {ns : List Int}
    (KX : K.In s₁.heap) (hns : s₁.heap.Ns mainGlobals mg) (hb : s₁.heap.Ns builtinsNs mb) (hbb : ∀ x : Str, x ≠ "__name__" → mb x = bootBuiltins x) (hlim : s₁.heap.NoLimit) (hg : s₁.gens = #[])
    (ha : s₁.heap.get? a = some { cls := .type "list", data := .seq vs.toArray }) (hi : IntsAre vs ns) (hl : ns.length ≤ sizeLine) (hr : Room k callerA)
    (F : ∀ base : Heap, K.In base → base.Ns mainGlobals mg → FnOk P w K mg base CX k fa fd [x] sp) (hbind : ∀ (s : Shared) (u : Value), BindsTo s fd ⟨[u], []⟩ [(x, u)])
    (hsp : ∀ H : Hp, Only H → SqL K H a (ns.map V.int) → sp [.ref a] H (fun v _ => v = .bl true) fun _ _ _ => False)
    (hCX : ∀ H e s', CX [] H s₁ (fun _ _ _ => False) e s' → False) :
    codeAny (model P w) callerA (.call (.ref fa) ⟨[.ref a], []⟩) (fun r s' => r = .ok (.ret (.bool true)) ∧ OldK s₁.heap s'.heap ∧ s'.os = s₁.os ∧ AllBare s'.gens) s₁ := by
  have rv := vals_ints hi
  have lenV := hi.length
  -- from an abstract heap in which nothing but the script may be tracked
  have core : ∀ H : Hp, Only H → SqL K H a (ns.map V.int) → HOk P w H s₁.heap → (∀ b, H b ≠ none → b = a) → (H a ≠ none → K.lookup a = none) →
      codeAny (model P w) callerA (.call (.ref fa) ⟨[.ref a], []⟩) (fun r s' => r = .ok (.ret (.bool true)) ∧ OldK s₁.heap s'.heap ∧ s'.os = s₁.os ∧ AllBare s'.gens) s₁ := by
    intro H hO hS hok hA hK
    have base_of : ∀ {b : Addr} {o : Obj}, s₁.heap.get? b = some o → H b = none → (hidT s₁.heap H).get? b = some o := fun e n => hidT_get e n
    have noA : ∀ {b : Addr} {o : Obj} {es : Array DictEntry} {ep : Nat}, s₁.heap.get? b = some o → o.data = .dict es ep → H b = none := fun {b o es ep} e d => by
      cases q : H b with
      | none => rfl
      | some u =>
        have e' : b = a := hA b (by rw [q]; simp)
        subst e'
        rw [ha] at e; cases e
        have d' : Data.seq vs.toArray _ = Data.dict es ep := d
        cases d'
    have nsK : ∀ {b : Addr} {m : Str → Option Value}, s₁.heap.Ns b m → (hidT s₁.heap H).Ns b m := fun {b m} ⟨o, es, ep, e, d, r⟩ => ⟨o, es, ep, base_of e (noA e d), d, r⟩
    have hKb : K.In (hidT s₁.heap H) := fun b o e => base_of (KX b o e) (by
      cases q : H b with
      | none => rfl
      | some u =>
        have e' : b = a := hA b (by rw [q]; simp)
        subst e'
        rw [hK (by rw [q]; simp)] at e; cases e)
    have hM : Mod K mg (hidT s₁.heap H) := ⟨hKb, nsK hns, ⟨mb, nsK hb, hbb⟩, let ⟨mc, h1, h2⟩ := hlim; ⟨mc, nsK h1, h2⟩⟩
    have e0 : Env0 P w K mg (hidT s₁.heap H) callerA [] s₁ H := ⟨rfl, hM, fun b o e => of_hidT e, Nat.le_of_eq (hidT_size _ _), trivial, fun b hb => absurd (show b ∈ ([] : List Addr) from hb) (by simp), hok, .of_eq hg⟩
    refine codeAny_mono ((F _ hKb (nsK hns)).run callerA [] s₁ H ⟨[.ref a], []⟩ [.ref a] [.ref a] _ _ hr e0 (hbind s₁ (.ref a)) (.cons rfl .nil) (hsp H hO hS)) fun r s' h => ?_
    cases r with
    | error e => exact (hCX H e s' h).elim
    | ok fl =>
      cases fl with
      | next => exact False.elim h
      | brk => exact False.elim h
      | cont => exact False.elim h
      | ret u =>
        obtain ⟨v, H', os, bare, un, hok', r', q⟩ := h
        have q' : v = .bl true := q
        subst q'
        obtain rfl : u = Value.bool true := r'
        refine ⟨rfl, OldK.of_keep fun b o e => ?_, os, bare⟩
        cases q : H b with
        | none => exact un.keep b o e q (by intro z; exact absurd (show b ∈ ([] : List Addr) from z) (by simp)) (by simp)
        | some u =>
          rcases hO b with z | ⟨ob, xs, z⟩
          · rw [q] at z; cases z
          · have z2 := un.frzs b ob _ z
            obtain ⟨e1, _⟩ := hok b _ z
            obtain ⟨e2, _⟩ := hok' b _ z2
            rw [e] at e1; cases e1
            exact e2
  cases hk : K.lookup a with
  | some o =>
    -- the script is one of the module's own objects
    have e := KX a o hk
    rw [ha] at e
    cases e
    refine core (fun _ => none) (fun _ => .inl rfl) (.inr ⟨_, vs.toArray, _, hk, rfl, rfl, rfl, by rw [List.size_toArray, lenV]; exact hl, by simpa using rv⟩) (fun b u z => by have z' : (none : Option HO) = some u := z; cases z') (fun b z => absurd rfl z) fun z => absurd rfl z
  | none =>
    refine core (fun b => if b = a then some (.frz { cls := .type "list", data := .seq vs.toArray } (.lst (ns.map V.int))) else none) (fun b => ?_) (.inl (.inr ⟨{ cls := .type "list", data := .seq vs.toArray }, if_pos rfl⟩)) (fun b u z => ?_) (fun b z => ?_) fun _ => hk
    · by_cases hb : b = a
      · exact .inr ⟨_, _, if_pos hb⟩
      · exact .inl (if_neg hb)
    · by_cases hb : b = a
      · have z' := (if_pos hb).symm.trans z
        cases z'
        subst hb
        exact ⟨ha, by rw [List.length_map]; exact hl, vs, _, rv, ha⟩
      · have z' := (if_neg hb).symm.trans z
        cases z'
    · by_cases hb : b = a
      · exact hb
      · exact absurd (if_neg hb) z
end L2

namespace L2
open PySem PySem.Spec PyProof.Rows


/-- the goal that k_head leaves (case hc), from the law's promise. F gives the function object fd (K's own) once, then the promise over every base -/
theorem walk_of {l : PySem.W.OpenLaw} {n k : Nat} {q : Program} {loose : List Str} {XP : (Str → Option Value) → Heap → Prop} {YP : World → Heap → Prop} {d : DefRec} {K : Params → PySem.W.Frag} {CX : World → CXT} {sp : World → Sp} {x : Str}
    (hn : l.most = some n) (hn2 : n ≤ sizeLine) (hdf : d.params.defaults = []) (hr : Room k callerA)
    (hY : ∀ (w : World) (h : Heap), YP w h → (K w.params).In h)
    (F : ∀ (w : World) (mg : Str → Option Value) (fa : Addr) (h : Heap), (K w.params).In h → h.Ns mainGlobals mg → mg d.name = some (.ref fa) →
      ∃ fd : FuncData, (∀ (s : Shared) (u : Value), BindsTo s fd ⟨[u], []⟩ [(x, u)]) ∧
        ∀ base : Heap, (K w.params).In base → base.Ns mainGlobals mg → FnOk l.prog w (K w.params) mg base (CX w) k fa fd [x] (sp w))
    (hsp : ∀ (w : World) (H : Hp) (a : Addr) (ns : List Int), ns.length ≤ n → Only H → SqL (K w.params) H a (ns.map V.int) → sp w [.ref a] H (fun v _ => v = .bl true) fun _ _ _ => False)
    (hCX : ∀ (w : World) (H : Hp) (s : Shared) (e : Value) (s' : Shared), CX w [] H s (fun _ _ _ => False) e s' → False) :
    PySem.W.WalkO q loose XP YP l.row.toRowW d [] (fun f vs => PySem.call f vs) := by
  refine Att.attach_call hn hdf fun w s₀ s₁ mg mb fa o pm cd doc a vs ns G Y ho hd hcd hmg hobj hints hlen hg => ?_
  have KX := hY w _ Y
  obtain ⟨fd, hb, hF⟩ := F w mg fa _ KX G.T.g hmg
  exact law_call KX G.T.g G.T.b G.T.builtins G.T.nolimit hg hobj hints (Nat.le_trans hlen hn2) hr hF hb (fun H hO hS => hsp w H a ns hlen hO hS) fun H e s' => hCX w H s₁ e s'
end L2

/- THE LAST THEOREM (shape; LID, My.* are yours):
   My.Adr: a structure of the addresses that your layer names (classes, functions); My.Txt K t: a structure (Prop) of the equations over K;
   My.txt_mk : {K} {implicit addresses ..} (e1 : nsIn K mainGlobals "law" = some (some (.ref f))) (e2 : K.lookup f = some ⟨oc, od, .func (fnOf "law" "law" params body scope dV kV doc pm an cdv ct), sl⟩) (e3 : codeIn K cdv "law" = true) .. : ∃ t, My.Txt K t

set_option maxRecDepth 100000 in
set_option maxHeartbeats 0 in
theorem PySem.Challenge.cw_LID_holds : PySem.Challenge.rw_LID.Holds := by
  w_on; o_law; k_head; (case hw => w_witness2)
  k_fill
  refine L2.walk_of (l := PySem.Challenge.rw_LID) (n := 63) (k := 40) (x := "script") (CX := fun w => ..) (sp := fun _ => My.sp_law) rfl (by decide) rfl ⟨rfl, by decide, by decide⟩ (fun w h Y => PySem.W.kIn_of Y) ?F ?S ?C
  case F =>
    intro w mg fa h KX G hmg
    have T : ∃ t, My.Txt (L2.KOf KX) t := by
      dsimp only [L2.KOf]                          -- K must stand as «<heap const> w.params» for k_is
      refine' My.txt_mk ?e1 ?e2 ?e3 ..
      (case e1 => PySem.W.k_is)                    -- in the order: a name -> its address -> its object -> its parts
      (case e2 => PySem.W.k_is)
      ..
    obtain ⟨t, T⟩ := T
    have e0 := hmg.symm.trans (PySem.W.mg_of KX G T.law)
    cases e0                                       -- fa is the law's own address
    exact ⟨_, fun s u => .of_eq rfl, fun base kb nb => My.law_fn T kb nb⟩     -- if «.of_eq rfl» comes too early: refine' ⟨_, ?b, fun base kb nb => My.law_fn T kb nb⟩; exact fun s u => .of_eq rfl
  case S => exact fun w H a ns hl hO hS => ..
  case C => exact ..
(the tactic k_is has no namespace: write k_is) -/

/-! SHORT WORDS over the layer: a def of the text, its body, what a loop and a test want. -/
namespace L2
open PySem PySem.Spec PyProof.Rows

/-! ### the text by places -/
/-- the j-th statement of a class's body -/
def inClass (s : Stmt) (j : Nat) : Stmt := match s with
  | .ClassDef _ _ _ body _ _ _ _ _ _ _ => body.getD j (.Pass ⟨0, 0, 0, 0⟩)
  | _ => .Pass ⟨0, 0, 0, 0⟩
def defArgs (s : Stmt) : Arguments := match s with
  | .FunctionDef _ a _ _ _ _ _ _ _ _ => a
  | _ => { posonlyargs := [], args := [], vararg := none, kwonlyargs := [], kw_defaults := [], kwarg := none, defaults := [] }
def defBody (s : Stmt) : List Stmt := match s with
  | .FunctionDef _ _ b _ _ _ _ _ _ _ => b
  | _ => []
def defScope (s : Stmt) : Scope := match s with
  | .FunctionDef _ _ _ _ _ _ sc _ _ _ => sc
  | _ => { kind := .function, names := [], isGenerator := false, isCoroutine := false }

/-! ### no exception leaves a def -/
abbrev CX0 : CXT := fun _ _ _ _ _ _ => False
abbrev E0 : XK := fun _ _ _ => False
theorem pass0 {X : Cx} : Passes CX0 X E0 := fun _ _ _ _ _ _ _ h => h.elim

/-! ### a def (or method) of the text as it stands behind the top -/
structure Fun (K : PySem.W.Frag) (x qual : Str) (st : Stmt) (f : Addr) (fd : FuncData) : Prop where
  ex : ∃ (oc : Value) (od : Option Addr) (kV doc pm : Value) (an : Option Addr) (cdv ct : Value) (osl : Array (Option Value)),
    fd = PySem.W.fnOf x qual (defArgs st) (defBody st) (defScope st) .none kV doc pm an cdv ct ∧ K.lookup f = some ⟨oc, od, .func fd, osl⟩ ∧ PySem.W.codeIn K cdv qual = true
  kp : PySem.W.keepIn K (.ref f) = true
section
variable {P : Program} {w : World} {K : PySem.W.Frag} {mg : Str → Option Value} {base : Heap}
/-- THE RULE for a def: its body as a term of rules, and the reading of that term -/
theorem Fun.ok {x qual : Str} {st : Stmt} {f : Addr} {fd : FuncData} {N ps : List Str} {k : Nat} {sp : Sp} (F : Fun K x qual st f fd) (S : FnScope N ps (defScope st)) (len : ∀ vs H Q E, sp vs H Q E → vs.length = ps.length)
    (hbody : ∀ (cdv : Value) (A : Around) (outer : List Env) (s : Shared) (H : Hp) (vs : List V) (Q : VK) (E : XK), Room k (A.deeper (envOfC qual (defScope st) s.heap.objs.size f cdv)) → sp vs H Q E →
      ∃ t, PSs (cxOf CX0 P w K mg base N qual (defScope st) f cdv A outer s H E).nox (defBody st) t ∧ t { nx := fun _ H' => Q .non H', rt := Q } (start N vs) H) : FnOk P w K mg base CX0 (k + 1) f fd ps sp := by
  obtain ⟨oc, od, kV, doc, pm, an, cdv, ct, osl, rfl, lk, hcd⟩ := F.ex
  refine fn_of lk hcd S len fun A outer s H vs Q E hr hsp => ?_
  obtain ⟨t, h, q⟩ := hbody cdv A outer s H vs Q E hr hsp
  exact ⟨t, h.nox, q⟩
/-- how its arguments bind (no defaults): h is «fun _ _ _ _ _ _ us hl => match us, hl with | [_, _], _ => rfl», one _ a parameter -/
theorem Fun.binds {x qual : Str} {st : Stmt} {f : Addr} {fd : FuncData} {ps : List Str} (F : Fun K x qual st f fd)
    (h : ∀ (kV doc pm : Value) (an : Option Addr) (cdv ct : Value) (us : List Value), us.length = ps.length → bindArgs (PySem.W.fnOf x qual (defArgs st) (defBody st) (defScope st) .none kV doc pm an cdv ct) ⟨us, []⟩ = pure (ps.zip us)) : Binds K fd ps [] := by
  obtain ⟨oc, od, kV, doc, pm, an, cdv, ct, osl, rfl, lk, hcd⟩ := F.ex
  exact .all (h kV doc pm an cdv ct)
theorem fun_mk {x qual : Str} {st : Stmt} {f : Addr} {oc : Value} {od an : Option Addr} {osl : Array (Option Value)} {kV doc pm cdv ct : Value} (l : K.lookup f = some ⟨oc, od, .func (PySem.W.fnOf x qual (defArgs st) (defBody st) (defScope st) .none kV doc pm an cdv ct), osl⟩)
    (c : PySem.W.codeIn K cdv qual = true) (k : PySem.W.keepIn K (.ref f) = true) : Fun K x qual st f (PySem.W.fnOf x qual (defArgs st) (defBody st) (defScope st) .none kV doc pm an cdv ct) := ⟨⟨oc, od, kV, doc, pm, an, cdv, ct, osl, rfl, l, c⟩, k⟩
end
theorem hu_of {A : Around} {k : Nat} (hr : Room k A) : A.units + 1 < cLine := Nat.lt_of_le_of_lt (Nat.add_le_add_left (by decide : 1 ≤ 64) _) hr.units
theorem small1000 {n : Nat} (h : n ≤ 1000) : n < sizeLine := Nat.lt_of_le_of_lt h (by decide)

/-! ### expressions in short: the name that stands in the i-th slot -/
section
variable {X : Cx}
theorem pv (i : Nat) {x : Str} {pos : Pos} (hN : X.N[i]? = some x := by rfl) (hv : Vis X.env.scope x := by first | exact Or.inl rfl | exact Or.inr (Or.inl rfl) | exact Or.inr (Or.inr rfl)) (hd : (x == ("__debug__" : Str)) = false := by decide)
    (hcd : (x == ("__classdict__" : Str)) = false := by decide) : PE X (.Name x pos) (tVar i) := pe_var hN hv hd hcd
end

/-! ### tests -/
theorem iteF {A B : Prop} (h : B) : if false = true then A else B := by
  rw [if_neg Bool.false_ne_true]
  exact h
theorem ite2 {c A B : Prop} [Decidable c] (h1 : c → A) (h2 : ¬ c → B) : if c then A else B := by
  by_cases h : c
  · rw [if_pos h]
    exact h1 h
  · rw [if_neg h]
    exact h2 h

/-! ### heaps -/
/-- all that was tracked is as it was -/
def Same (H H' : Hp) : Prop := ∀ b o, H b = some o → H' b = some o
theorem Same.trans {H H1 H2 : Hp} (a : Same H H1) (b : Same H1 H2) : Same H H2 := fun c o h => b c o (a c o h)
theorem Same.free {H H' : Hp} (e : Same H H') {l : Addr} (h : H' l = Option.none) : H l = Option.none := by
  cases q : H l with
  | none => rfl
  | some o =>
    rw [e l o q] at h
    cases h
theorem Same.seq {K : PySem.W.Frag} {H H' : Hp} {a : Addr} {xs : List V} (e : Same H H') (h : SqL K H a xs) : SqL K H' a xs := by
  rcases h with (h | ⟨o, h⟩) | h
  · exact .inl (.inl (e _ _ h))
  · exact .inl (.inr ⟨o, e _ _ h⟩)
  · exact .inr h
/-! dict words -/
section
variable {X : Cx}
end

/-! ### a dict's pairs: keys that differ -/
section
variable {κ : Type} [DecidableEq κ]
end
end L2

set_option Elab.async false
set_option linter.all false
set_option maxRecDepth 100000
set_option maxHeartbeats 4000000
namespace L2
open PySem PySem.Spec PyProof.Rows

/-! ### a list comprehension of one clause, as a block of its own -/
def clStep (env : Env) (cs : List (Str × Addr)) (nk : Str × NameKind) : List (Str × Addr) :=
  if nk.2 == .free then (nk.1, (env.cells.lookup nk.1).getD 0) :: cs else cs
def clOf (scope : Scope) (env : Env) : List (Str × Addr) := scope.names.foldl (clStep env) []
theorem clos_of {scope : Scope} {env : Env} (h : ∀ y ∈ scope.names, y.2 = .free → ∃ c, env.cells.lookup y.1 = some c) : closureFor scope env = pure (clOf scope env) := by
  have all : ∀ (l : List (Str × NameKind)) (cs : List (Str × Addr)), (∀ y ∈ l, y.2 = .free → ∃ c, env.cells.lookup y.1 = some c) →
      (forIn l cs (fun x r => if (x.2 == NameKind.free) = true then do let a ← cellOf env x.1; pure (ForInStep.yield ((x.1, a) :: r)) else pure (ForInStep.yield r)) : Sem (List (Str × Addr))) = pure (l.foldl (clStep env) cs) := by
    intro l
    induction l with
    | nil => intro cs _; rfl
    | cons y r ih =>
      intro cs hy
      obtain ⟨n, k⟩ := y
      rw [List.forIn_cons, List.foldl_cons]
      by_cases hk : (k == NameKind.free) = true
      · obtain ⟨c, hc⟩ := hy (n, k) List.mem_cons_self (by simpa using hk)
        have e1 : cellOf env n = pure c := by unfold cellOf; rw [hc]
        have e2 : clStep env cs (n, k) = (n, c) :: cs := by unfold clStep; rw [if_pos hk, hc]; rfl
        rw [e2, ← ih _ fun z hz => hy z (List.mem_cons_of_mem _ hz)]
        dsimp only
        rw [if_pos hk, e1]
        rfl
      · have e2 : clStep env cs (n, k) = cs := by unfold clStep; rw [if_neg hk]
        rw [e2, ← ih _ fun z hz => hy z (List.mem_cons_of_mem _ hz)]
        dsimp only
        rw [if_neg hk]
        rfl
  have e := all scope.names [] h
  unfold closureFor clOf
  rw [← e]
  simp only [bind_pure]
theorem clOf_mem {env : Env} : ∀ {l : List (Str × NameKind)} {cs : List (Str × Addr)} {n : Str} {c : Addr}, (∀ y ∈ l, y.2 = .free → ∃ c, env.cells.lookup y.1 = some c) → (n, c) ∈ l.foldl (clStep env) cs → (n, c) ∈ cs ∨ env.cells.lookup n = some c
  | [], cs, n, c, _, m => .inl m
  | (y, k) :: r, cs, n, c, h, m => by
    rcases clOf_mem (fun z hz => h z (List.mem_cons_of_mem _ hz)) (show (n, c) ∈ r.foldl (clStep env) (clStep env cs (y, k)) from m) with q | q
    · unfold clStep at q
      by_cases hk : (k == NameKind.free) = true
      · rw [if_pos hk] at q
        rcases List.mem_cons.mp q with q | q
        · obtain ⟨d, hd⟩ := h (y, k) List.mem_cons_self (by simpa using hk)
          have hd : env.cells.lookup y = some d := hd
          injection q with q1 q2
          subst q1
          rw [hd] at q2
          subst q2
          exact .inr hd
        · exact .inl q
      · rw [if_neg hk] at q
        exact .inl q
    · exact .inr q
theorem clStep_sub {env : Env} : ∀ {l : List (Str × NameKind)} {cs : List (Str × Addr)} {p : Str × Addr}, p ∈ cs → p ∈ l.foldl (clStep env) cs
  | [], _, _, m => m
  | (y, k) :: r, cs, p, m => by
    refine clStep_sub (l := r) (cs := clStep env cs (y, k)) ?_
    unfold clStep
    split
    · exact List.mem_cons_of_mem _ m
    · exact m
theorem clOf_has {env : Env} : ∀ {l : List (Str × NameKind)} {cs : List (Str × Addr)} {n : Str}, (n, NameKind.free) ∈ l → ∃ c, (n, c) ∈ l.foldl (clStep env) cs
  | (y, k) :: r, cs, n, m => by
    rcases List.mem_cons.mp m with q | q
    · cases q
      exact ⟨(env.cells.lookup y).getD 0, clStep_sub (l := r) (by simp [clStep])⟩
    · exact clOf_has (l := r) q
theorem lookup_has {β : Type} : ∀ {l : List (Str × β)} {n : Str} {c : β}, (n, c) ∈ l → ∃ d, l.lookup n = some d
  | (k, v) :: r, n, c, m => by
    rw [List.lookup_cons]
    cases e : n == k with
    | true => exact ⟨v, rfl⟩
    | false =>
      rcases List.mem_cons.mp m with q | q
      · cases q
        simp at e
      · exact lookup_has q
theorem lookup_relabel_cell {env : Env} (hf : env.scope.kind = .function) : ∀ {names : List (Str × NameKind)} {x : Str}, names.lookup x = some .free → env.kindOf x = some .cell →
    (names.map fun (n, k) => if (k == NameKind.free && env.scope.kind == .function && env.kindOf n == some .cell) then (n, NameKind.cell) else (n, k)).lookup x = some .cell
  | [], _, h, _ => by simp at h
  | (n, k) :: r, x, h, hc => by
    have ih := @lookup_relabel_cell env hf r x
    show List.lookup x ((if (k == NameKind.free && env.scope.kind == .function && env.kindOf n == some .cell) = true then (n, NameKind.cell) else (n, k)) :: _) = _
    cases hx : x == n with
    | true =>
      have e : x = n := by simpa using hx
      subst e
      simp only [List.lookup_cons, hx] at h
      cases h
      rw [if_pos (by rw [hf, hc]; rfl)]
      simp [List.lookup_cons]
    | false =>
      simp only [List.lookup_cons, hx] at h
      by_cases hc' : (k == NameKind.free && env.scope.kind == .function && env.kindOf n == some .cell) = true
      · rw [if_pos hc']; simp only [List.lookup_cons, hx]; exact ih h hc
      · rw [if_neg hc']; simp only [List.lookup_cons, hx]; exact ih h hc

/-- the block's names N', each its own (none) or that of a slot around -/
def frOk (sc scope : Scope) (N : List Str) : List Str → List (Option Nat) → Bool
  | [], [] => true
  | _ :: r, none :: f => frOk sc scope N r f
  | y :: r, some i :: f => (N[i]? == some y) && (scope.names.lookup y == some .free) && (sc.names.lookup y == some .cell) && frOk sc scope N r f
  | _, _ => false
structure CompSc (sc scope : Scope) (N N' : List Str) (fr : List (Option Nat)) : Prop where
  kind : scope.kind = .function
  nocell : ∀ y ∈ scope.names, y.2 ≠ .cell
  names : ∀ y ∈ scope.names, y.2 = .local → scope.names.lookup y.1 = some .local
  free : ∀ y ∈ scope.names, y.2 = .free → sc.names.lookup y.1 = some .cell
  nd : N'.Nodup
  fr : frOk sc scope N N' fr = true
def frSt (fr : List (Option Nat)) (σ : St) : St := fr.map fun o => o.bind fun i => (σ[i]?).join
theorem frOk_len {sc scope : Scope} {N : List Str} : ∀ {N' : List Str} {fr : List (Option Nat)}, frOk sc scope N N' fr = true → fr.length = N'.length
  | [], [], _ => rfl
  | _ :: r, none :: f, h => by simp only [List.length_cons]; rw [frOk_len (N' := r) (fr := f) h]
  | y :: r, some i :: f, h => by
    unfold frOk at h
    simp only [Bool.and_eq_true] at h
    simp only [List.length_cons]; rw [frOk_len (N' := r) (fr := f) h.2]
  | [], _ :: _, h => by simp [frOk] at h
  | _ :: _, [], h => by simp [frOk] at h
theorem frOk_at {sc scope : Scope} {N : List Str} : ∀ {N' : List Str} {fr : List (Option Nat)} {j i : Nat} {y : Str}, frOk sc scope N N' fr = true → N'[j]? = some y → fr[j]? = some (some i) → N[i]? = some y ∧ scope.names.lookup y = some .free ∧ sc.names.lookup y = some .cell
  | [], [], _, _, _, _, h, _ => by simp at h
  | _ :: r, none :: f, 0, i, y, _, _, h => by simp at h
  | _ :: r, none :: f, j + 1, i, y, h, h1, h2 => frOk_at (N' := r) (fr := f) (j := j) h (by simpa using h1) (by simpa using h2)
  | z :: r, some k :: f, 0, i, y, h, h1, h2 => by
    unfold frOk at h
    simp only [Bool.and_eq_true, beq_iff_eq] at h
    have e1 : z = y := by simpa using h1
    have e2 : k = i := by simpa using h2
    subst e1 e2
    exact ⟨h.1.1.1, h.1.1.2, h.1.2⟩
  | z :: r, some k :: f, j + 1, i, y, h, h1, h2 => by
    unfold frOk at h
    simp only [Bool.and_eq_true] at h
    exact frOk_at (N' := r) (fr := f) (j := j) h.2 (by simpa using h1) (by simpa using h2)
  | [], _ :: _, _, _, _, h, _, _ => by simp [frOk] at h
  | _ :: _, [], _, _, _, h, _, _ => by simp [frOk] at h

def cxComp (X : Cx) (scope : Scope) (C : Addr) (N' : List Str) (s₀ : Shared) (H₀ : Hp) (fp : List Addr) : Cx where
  prog := X.prog
  w := X.w
  K := X.K
  mg := X.mg
  base := X.base
  A := X.A
  N := N'
  s₀ := s₀
  H₀ := H₀
  env := compEnvC scope (clOf scope X.env) C X.env
  outer := X.stack
  stack := X.stack
  ex := fp
  calm := true
  fn := fun _ => false
  pn := []
  xe := fun _ _ => False

section
variable {X : Cx} {scope : Scope} {N' : List Str} {fr : List (Option Nat)} {pins : List (Addr × Obj)} {σ : St} {H : Hp} {s : Shared} {fp : List Addr}

theorem Inv.block {h1 : Heap} {t1 : Nat} {m : Str → Option Value} (S : CompSc X.env.scope scope X.N N' fr) (hc : X.calm = true) (I : Inv X pins σ H s) (hf : ∀ b ∈ fp, FpOk X pins H b) (hlt : ∀ b ∈ fp, b < s.heap.objs.size)
    (hns : h1.Ns s.heap.objs.size m) (old : ∀ b o, s.heap.get? b = some o → h1.get? b = some o) :
    Inv (cxComp X scope s.heap.objs.size N' s H fp) [] (frSt fr σ) H { s with heap := h1, toks := t1 } := by
  have hfree : ∀ y ∈ scope.names, y.2 = .free → ∃ c, X.env.cells.lookup y.1 = some c := fun y hy e => I.ok.has y.1 (.inl (S.free y hy e))
  have cl1 : ∀ y c, (clOf scope X.env).lookup y = some c → X.env.cells.lookup y = some c := fun y c e => by
    rcases clOf_mem (cs := []) hfree (PySem.mem_of_lookup e) with q | q
    · exact absurd q (by simp)
    · exact q
  have has : ∀ y, ((relabel scope X.env).names.lookup y = some .cell ∨ (relabel scope X.env).names.lookup y = some .free) → ∃ c, (clOf scope X.env).lookup y = some c := fun y hy => by
    have q : (y, NameKind.free) ∈ scope.names := by
      have m : ∃ k, (k = NameKind.cell ∨ k = NameKind.free) ∧ (y, k) ∈ (relabel scope X.env).names := by
        rcases hy with hy | hy
        · exact ⟨_, .inl rfl, PySem.mem_of_lookup hy⟩
        · exact ⟨_, .inr rfl, PySem.mem_of_lookup hy⟩
      obtain ⟨k, hk, m⟩ := m
      obtain ⟨⟨n, k0⟩, hm, e⟩ := List.mem_map.mp m
      dsimp only at e
      by_cases hq : (k0 == NameKind.free && X.env.scope.kind == .function && X.env.kindOf n == some .cell) = true
      · rw [if_pos hq] at e
        simp only [Bool.and_eq_true, beq_iff_eq] at hq
        injection e with e1 e2
        rw [← e1, ← hq.1.1]
        exact hm
      · rw [if_neg hq] at e
        injection e with e1 e2
        subst e1 e2
        rcases hk with hk | hk
        · exact absurd hk (S.nocell _ hm)
        · rw [← hk]; exact hm
    obtain ⟨c, mc⟩ := clOf_has (env := X.env) (cs := []) q
    exact lookup_has mc
  have ltC : ∀ y c, X.env.cells.lookup y = some c → c < s.heap.objs.size := fun y c e => by
    obtain ⟨v, q⟩ := I.cell y c e
    exact q.lt
  refine ⟨⟨I.ok.mod, S.kind, I.ok.glob, I.ok.blt, Nat.le_refl _, fun x y c e1 e2 => I.ok.inj x y c (cl1 x c e1) (cl1 y c e2), has, fun x c e _ => absurd e (by simp [cxComp]), fun _ => I.ok.hd hc, I.ok.frames, .inl rfl,
      fun b hb => ⟨Nat.ne_of_lt (hlt b hb), fun x c e => (hf b hb).2.2.2.2.1 x c (cl1 x c e)⟩, I.bs, Nat.le_trans I.ok.bsz I.sz, fun b o e hb => ?_, fun b hb z => ?_, I.stack, I.stkFree⟩,
    rfl, I.bare, Un.kept old, ⟨m, hns, fun i x v e1 e2 e3 => ?_⟩, fun x c e => ?_, I.fresh, fun x c e => I.freeC x c (cl1 x c e), fun p hp => absurd hp (by simp [cxComp]), I.hok.kept old, ?_⟩
  · rcases (hf b hb).2.2.2.1 with z | z
    · exact I.ok.noex b o e z
    · exact absurd (Nat.lt_of_lt_of_le (Heap.lt_size e) (Nat.le_trans I.ok.bsz z)) (Nat.lt_irrefl _)
  · rcases List.mem_cons.mp (I.stkSub b z) with q | q
    · exact (hf b hb).2.1 q
    · exact (hf b hb).2.2.1 q
  · -- a name of the block at its entry: one from around
    have e2 : (frSt fr σ)[i]? = some (some v) := e2
    unfold frSt at e2
    rw [List.getElem?_map] at e2
    cases q : fr[i]? with
    | none => rw [q] at e2; cases e2
    | some o =>
      rw [q] at e2
      cases o with
      | none => cases e2
      | some j =>
        have e2 : (σ[j]?).join = some v := Option.some.inj e2
        have e4 : σ[j]? = some (some v) := by
          cases r : σ[j]? with
          | none => rw [r] at e2; cases e2
          | some w => rw [r] at e2; exact congrArg some e2
        obtain ⟨f1, f2, f3⟩ := frOk_at S.fr e1 q
        obtain ⟨m0, _, hl⟩ := I.loc
        obtain ⟨u, r, l⟩ := hl j x v f1 e4 (.inr (.inl f3))
        refine ⟨u, r, .inr ⟨.inl (lookup_relabel_cell I.ok.kind f2 f3), ?_⟩⟩
        obtain ⟨c, hc⟩ := has x (.inl (lookup_relabel_cell I.ok.kind f2 f3))
        rcases l with ⟨k, _⟩ | ⟨_, c', hc', ho⟩
        · have k : X.env.scope.names.lookup x = some .local := k
          rw [f3] at k; cases k
        · have e : c = c' := Option.some.inj ((cl1 x c hc).symm.trans hc')
          subst e
          obtain ⟨o, ho, hd⟩ := ho
          exact ⟨c, hc, o, old c o ho, hd⟩
  · obtain ⟨v, o, ho, hd⟩ := I.cell x c (cl1 x c e)
    exact ⟨v, o, old c o ho, hd⟩
  · show (frSt fr σ).length = N'.length
    unfold frSt
    rw [List.length_map]
    exact frOk_len S.fr
end

def PTs (X : Cx) (ifs : List Expr) (t : TT) : Prop :=
  ∀ (pins : List (Addr × Obj)) (s : Shared) (σ : St) (H : Hp) (Q : Bool → Hp → Prop), Inv X pins σ H s → t σ H Q →
    wpAny (model X.prog X.w) X.A (forIn ifs true fun c r => if r = true then do let ok ← isTrue c X.env (eval c X.env); pure (ForInStep.yield ok) else pure (ForInStep.yield r)) (TP X pins σ Q) X.xe s
def tYes : TT := fun _ H Q => Q true H
theorem pts_nil {X : Cx} : PTs X [] tYes := fun _ _ _ H _ I q => wpAny_tests_nil ⟨H, I, q⟩

theorem compLoop_any {prog : Program} {w : World} {A : Around} {R : Result → Shared → Prop} {s : Shared} {elt target iter : Expr} {ifs : List Expr} {scope : Scope} {pos : Pos} {it acc : Value} {env : Env} (I : Nat → Shared → Prop)
    (turn : ∀ n s, I n s → wpAny (model prog w) A (pyNext it) (fun r s₁ => match r with
      | none => R (.ok .next) s₁
      | some v => wpAny (model prog w) A (letOwnedTupleGo target it v) (fun _ s₀ => wpAny (model prog w) A (assign target env v) (fun _ s₂ =>
          wpAny (model prog w) A (forIn ifs true fun c r => if r = true then do let ok ← isTrue c env (eval c env); pure (ForInStep.yield ok) else pure (ForInStep.yield r)) (fun ok s₃ =>
            if ok = true then wpAny (model prog w) A (eval elt env) (fun x s₄ =>
              wpAny (model prog w) A (call (.builtin "list.append") [acc, x]) (fun _ s₅ => ∃ m, m < n ∧ I m s₅) (fun _ _ => False) s₄) (fun _ _ => False) s₃
            else ∃ m, m < n ∧ I m s₃) (fun _ _ => False) s₂) (fun _ _ => False) s₀) (fun _ _ => False) s₁) (fun _ _ => False) s)
    (n : Nat) (h : I n s) :
    codeAny (model prog w) A (.compLoop (.ListComp elt [⟨target, iter, ifs, 0⟩] scope pos) 0 it acc env) R s := by
  refine codeAny_loop rfl I (fun n s hI => ?_) n h
  show wpAny _ A ((compTurn (.ListComp elt [⟨target, iter, ifs, 0⟩] scope pos) 0 it acc env).onRaise (fun x => do noteFrame x env; theTreesLotGoes x)) _ _ s
  refine wpAny_noted ?_
  rw [compTurn_list]
  refine wpAny_bind (wpAny_standAt (wpAny_bind (wpAny_mono (turn n s hI) (fun r s₁ h₁ => ?_) fun _ _ h' => h'.elim)))
  cases r with
  | none => exact wpAny_pure h₁
  | some v =>
    refine wpAny_bind (wpAny_mono h₁ (fun _ s₀ h₀ => ?_) fun _ _ h' => h'.elim)
    refine wpAny_bind (wpAny_mono h₀ (fun _ s₂ h₂ => wpAny_bind (wpAny_mono h₂ (fun ok s₃ h₃ => ?_) fun _ _ h' => h'.elim)) fun _ _ h' => h'.elim)
    cases ok with
    | false => exact wpAny_pure ⟨rfl, h₃⟩
    | true =>
      exact wpAny_bind (wpAny_bind (wpAny_mono h₃ (fun x s₄ h₄ => wpAny_bind (wpAny_mono h₄ (fun _ s₅ h₅ => wpAny_pure (wpAny_pure ⟨rfl, h₅⟩)) fun _ _ h' => h'.elim)) fun _ _ h' => h'.elim))

/-- W: by the turn, a measure, the block's names, what has come, the heap -/
def tComp (fr : List (Option Nat)) (wi : TI) (g : TG) (tt : TT) (te : TE) : TE := fun σ H Q => wi σ H fun J H1 => ∀ D, H1 D = none →
  ∃ W : Nat → Nat → St → List V → Hp → Prop, (∃ m, W 0 m (frSt fr σ) [] (upd H1 D (.lst []))) ∧ ∀ i m σ ys H, W i m σ ys H →
    (J.stop i H ∧ Q (.ref D) H) ∨ (J.go i H ∧ ∃ N : St → List V → Hp → Prop, (∀ σ' ys' H', N σ' ys' H' → ∃ m', m' < m ∧ W (i + 1) m' σ' ys' H') ∧ ∀ x H', J.yld i H x H' → g x σ H' fun σ2 H2 => tt σ2 H2 fun b H3 =>
      if b = true then te σ2 H3 fun v H4 => H4 D = some (.lst ys) ∧ ys.length < sizeLine ∧ N σ2 (ys ++ [v]) (upd H4 D (.lst (ys ++ [v])))
      else N σ2 ys H3)

theorem comp_run {X : Cx} {elt tg iter : Expr} {ifs : List Expr} {scope : Scope} {pos cpos : Pos} {wi : TI} {g : TG} {tt : TT} {te : TE} {N' : List Str} {fr : List (Option Nat)} (S : CompSc X.env.scope scope X.N N' fr) (hc : X.calm = true) (hi : PI X tg iter wi)
    (hg : ∀ C s0 H0 fp, PG (cxComp X scope C N' s0 H0 fp) tg g) (ht : ∀ C s0 H0 fp, PTs (cxComp X scope C N' s0 H0 fp) ifs tt) (he : ∀ C s0 H0 fp, PE (cxComp X scope C N' s0 H0 fp) elt te)
    (hs : ∀ x, foldedSetIterable iter X.env x = pure x) {pins : List (Addr × Obj)} {s : Shared} {σ : St} {H : Hp} {Q : VK} (I : Inv X pins σ H s) (h : tComp fr wi g tt te σ H Q) (use : Option (Value → Sem Unit)) (QQ : Value → Shared → Prop)
    (fin : ∀ (D C : Addr) (H5 : Hp) (s6 : Shared), Inv X pins σ H5 s6 → Q (.ref D) H5 → H5 C = none → C ≠ X.env.locals → X.s₀.heap.objs.size ≤ C → (∀ x c, X.env.cells.lookup x = some c → c ≠ C) → (∀ p ∈ X.pn ++ pins, p.1 ≠ C) → (∃ m, s6.heap.Ns C m) →
      compPost (model X.prog X.w) X.A X.xe use QQ (.ref D) C (.ok .next) s6) :
    wpAny (model X.prog X.w) X.A (comprehension (.ListComp elt [⟨tg, iter, ifs, 0⟩] scope pos) scope X.env cpos (newList []) false (eval iter X.env) use) QQ X.xe s := by
  have hfree : ∀ y ∈ scope.names, y.2 = .free → ∃ c, X.env.cells.lookup y.1 = some c := fun y hy e => I.ok.has y.1 (.inl (S.free y hy e))
  refine wpAny_comprehension_free (use := use) rfl hs (clos_of hfree) S.kind S.names (thn (hi pins s σ H _ I h) fun v s1 h1 => thn h1 fun itv s2 h2 => ?_)
  obtain ⟨it, fp, tn, J, H2, e, I2, T, st2, f2, hD⟩ := h2
  subst e
  obtain ⟨W, ⟨m0, w0⟩, turn⟩ := hD s2.heap.objs.size I2.fresh
  -- the new list
  refine wpAny_newObj_type ?_
  have I3 : Inv X pins σ (upd H2 s2.heap.objs.size (.lst [])) { s2 with heap := s2.heap.push { cls := .type "list", data := .seq ([] : List Value).toArray }, toks := s2.toks } := I2.lnew (ys := []) .nil (Nat.zero_le _)
  revert I3
  generalize eD : s2.heap.objs.size = D at *
  generalize e3 : ({ s2 with heap := s2.heap.push { cls := .type "list", data := .seq ([] : List Value).toArray }, toks := s2.toks } : Shared) = s3
  intro I3
  have k3 : ∀ b o, s2.heap.get? b = some o → s3.heap.get? b = some o := fun b o e => by rw [← e3]; exact Heap.get?_push_of_some _ e
  refine wpAny_newFunctionEnv S.nocell (by intro y hy; simp at hy) (fun h4 hns hsb => ?_) S.kind
  have old : ∀ b o, s3.heap.get? b = some o → h4.get? b = some o := fun b o e => hsb.extBut b o (Nat.ne_of_lt (Heap.lt_size e)) (Heap.get?_push_of_some _ e)
  have fD : ∀ b ∈ fp, b ≠ D := fun b hb z => by
    obtain ⟨o, ho, _⟩ := T.obj _ _ st2 b hb
    exact absurd (Heap.lt_size ho) (by rw [z, eD]; exact Nat.lt_irrefl _)
  have f3 : ∀ b ∈ fp, FpOk X pins (upd H2 D (.lst [])) b := fun b hb => ⟨by rw [upd_ne (fD b hb)]; exact (f2 b hb).1, (f2 b hb).2⟩
  have l3 : ∀ b ∈ fp, b < s3.heap.objs.size := fun b hb => by
    obtain ⟨o, ho, _⟩ := T.obj _ _ st2 b hb
    exact Heap.lt_size (k3 b o ho)
  have I4 := Inv.block (t1 := s3.toks + ([] : List (Str × Value)).length) (scope := scope) S hc I3 f3 l3 hns old
  generalize eX : cxComp X scope s3.heap.objs.size N' s3 (upd H2 D (.lst [])) fp = X' at I4
  have st4 : tn 0 h4 := T.keep _ _ _ st2 fun b hb o e => old b o (k3 b o e)
  have stat : ∀ {H' : Hp}, (∀ b ∈ fp, H' b = none) → ∀ b ∈ fp, FpOk X' [] H' b := fun {H'} hn b hb => by
    subst eX
    refine ⟨hn b hb, Nat.ne_of_lt (l3 b hb), ?_, .inl hb, ?_, fun p hp => absurd hp (by simp [cxComp])⟩
    · exact I4.ok.exfs b hb
    · exact (I4.ok.exf b hb).2
  show codeAny _ _ (.compStart _ 0 (.ref it) (.ref D) (compEnvC scope (clOf scope X.env) s3.heap.objs.size X.env)) (compPost _ _ _ use _ (.ref D) s3.heap.objs.size) _
  have hX : X'.prog = X.prog ∧ X'.w = X.w ∧ X'.K = X.K ∧ X'.A = X.A ∧ X'.calm = true ∧ X'.env = compEnvC scope (clOf scope X.env) s3.heap.objs.size X.env ∧ X'.xe = (fun _ _ => False) ∧ X'.s₀ = s3 ∧ X'.H₀ = upd H2 D (.lst []) ∧ X'.fs = frs X.stack ∧ X'.ex = fp := by
    subst eX
    exact ⟨rfl, rfl, rfl, rfl, rfl, rfl, rfl, rfl, rfl, rfl, rfl⟩
  have hg' : PG X' tg g := by subst eX; exact hg _ _ _ _
  have ht' : PTs X' ifs tt := by subst eX; exact ht _ _ _ _
  have he' : PE X' elt te := by subst eX; exact he _ _ _ _
  clear eX
  obtain ⟨x1, x2, x3, x4, x5, x6, x7, x8, x9, x10, x11⟩ := hX
  have loop : codeAny (model X.prog X.w) X.A (.compLoop (.ListComp elt [⟨tg, iter, ifs, 0⟩] scope pos) 0 (.ref it) (.ref D) (compEnvC scope (clOf scope X.env) s3.heap.objs.size X.env))
      (compPost (model X.prog X.w) X.A X.xe use QQ (.ref D) s3.heap.objs.size) { s3 with heap := h4, toks := s3.toks + ([] : List (Str × Value)).length } := by
    refine compLoop_any (fun n s' => ∃ i σ' ys H', Inv X' [] σ' H' s' ∧ tn i s'.heap ∧ (∀ b ∈ fp, H' b = none) ∧ W i n σ' ys H') ?_ m0 ⟨0, _, [], _, I4, st4, fun b hb => (f3 b hb).1, w0⟩
    rintro n s5 ⟨i, σ5, ys, H5, I5, st5, fr5, w5⟩
    rcases turn i n σ5 ys H5 w5 with ⟨stop, qn⟩ | ⟨go, N, hN, step⟩
    · have z := T.done X' x1 x2 x3 x5 i [] s5 σ5 H5 (fun _ _ => False) I5 (stat fr5) st5 stop
      rw [x4] at z
      refine thn z fun r s6 ⟨hr, I6⟩ => ?_
      subst hr
      -- the end
      obtain ⟨mm, hn6, _⟩ := I6.loc
      have hL : X'.env.locals = s3.heap.objs.size := by rw [x6]; rfl
      rw [hL] at hn6
      have nC : H5 s3.heap.objs.size = none := by have := I6.free; rw [hL] at this; exact this
      have base := I6.base
      rw [x8, x9, x10, x11] at base
      have hok : HOk X.prog X.w H5 s6.heap := by have q := I6.hok; rw [x1, x2] at q; exact q
      have os : s6.os = s3.os := by have := I6.os; rw [x8] at this; exact this
      have IX : Inv X pins σ H5 s6 := I3.call' os base hok I6.bare fun b hb => ⟨(f3 b hb).2.2.2.1, (f3 b hb).2.1, (f3 b hb).2.2.2.2.1, (f3 b hb).2.2.2.2.2⟩
      refine fin D s3.heap.objs.size H5 s6 IX qn nC (Nat.ne_of_gt I3.lt) I3.sz (fun x c e => ?_) (fun p hp => ?_) ⟨mm, hn6⟩
      · obtain ⟨v, q⟩ := I3.cell x c e
        exact Nat.ne_of_lt q.lt
      · exact Nat.ne_of_lt (Heap.lt_size (I3.pin p hp).1)
    · have z := T.item X' x1 x2 x3 x5 i [] s5 σ5 H5 (fun _ _ => False) I5 (stat fr5) st5 go
      rw [x4] at z
      refine thn z fun r s6 ⟨u, hr, h6⟩ => ?_
      subst hr
      refine thn h6 fun _ s7 ⟨x, H7, I7, r7, y7, st7, fr7⟩ => ?_
      have I7' := I7.pinned (stat fr7) (T.obj _ _ st7)
      have again : ∀ {σ' : St} {H' : Hp} {s' : Shared}, Inv X' ([] ++ pinsAt fp s7.heap) σ' H' s' → Inv X' [] σ' H' s' ∧ tn (i + 1) s'.heap ∧ ∀ b ∈ fp, H' b = none := fun {σ' H' s'} J => by
        refine ⟨J.unpinned, T.keep _ _ _ st7 fun b hb o e => (J.pin (b, o) (List.mem_append_right _ (List.mem_append_right _ (mem_pinsAt hb e)))).1, fun b hb => ?_⟩
        obtain ⟨o, e, d⟩ := T.obj _ _ st7 b hb
        exact (J.pin (b, o) (List.mem_append_right _ (List.mem_append_right _ (mem_pinsAt hb e)))).2.1
      have z := hg' _ s7 σ5 H7 x u _ I7' r7 (step x H7 y7)
      rw [x1, x2, x4, x6, x7] at z
      refine thn z fun _ s8 ⟨σ8, H8, I8, q8⟩ => ?_
      have z := ht' _ s8 σ8 H8 _ I8 q8
      rw [x1, x2, x4, x6, x7] at z
      refine thn z fun b s9 ⟨H9, I9, q9⟩ => ?_
      cases b with
      | false =>
        rw [if_neg Bool.false_ne_true] at q9 ⊢
        obtain ⟨m', hm, w9⟩ := hN _ _ _ q9
        obtain ⟨a1, a2, a3⟩ := again I9
        exact ⟨m', hm, i + 1, σ8, ys, H9, a1, a2, a3, w9⟩
      | true =>
        rw [if_pos rfl] at q9 ⊢
        have z := he' _ s9 σ8 H9 _ I9 q9
        rw [x1, x2, x4, x6, x7] at z
        refine thn z fun v' s10 ⟨y, H10, I10, r10, hD10, hz, w10⟩ => ?_
        have z := mt_append (X := X') _ s10 σ8 H10 (.ref D) [y] (.ref D) [v'] (fun _ H' => N σ8 (ys ++ [y]) H') I10 rfl (.cons r10 .nil) ⟨D, ys, y, rfl, rfl, hD10, hz, w10⟩
        rw [x1, x2, x4, x7] at z
        refine thn z fun _ s11 ⟨_, H11, I11, _, w11⟩ => ?_
        obtain ⟨m', hm, w11⟩ := hN _ _ _ w11
        obtain ⟨a1, a2, a3⟩ := again I11
        exact ⟨m', hm, i + 1, σ8, _, H11, a1, a2, a3, w11⟩
  exact codeAny_compStart_list loop (T.self _ 0 _ _ _ st4 loop)
theorem pe_comp {X : Cx} {elt tg iter : Expr} {ifs : List Expr} {scope : Scope} {pos : Pos} {wi : TI} {g : TG} {tt : TT} {te : TE} {N' : List Str} {fr : List (Option Nat)} (S : CompSc X.env.scope scope X.N N' fr) (hc : X.calm = true) (hi : PI X tg iter wi)
    (hg : ∀ C s0 H0 fp, PG (cxComp X scope C N' s0 H0 fp) tg g) (ht : ∀ C s0 H0 fp, PTs (cxComp X scope C N' s0 H0 fp) ifs tt) (he : ∀ C s0 H0 fp, PE (cxComp X scope C N' s0 H0 fp) elt te)
    (hs : ∀ x, foldedSetIterable iter X.env x = pure x := by intro _; rfl) : PE X (.ListComp elt [⟨tg, iter, ifs, 0⟩] scope pos) (tComp fr wi g tt te) := by
  intro pins s σ H Q I h
  rw [eval_ListComp]
  refine comp_run S hc hi hg ht he hs I h none _ fun D C H5 s6 IX q nC c1 c2 c3 c4 hm => ?_
  obtain ⟨m, hm⟩ := hm
  refine ⟨m, hm, fun h' hs' => ⟨.ref D, H5, IX.turned (t' := s6.toks) (it := C) (fun b o hb e => hs'.extBut b o hb e) nC c1 (.inr c2) c3 c4, rfl, q⟩⟩
/-- name = [..], the name a local one -/
theorem ps_comp {X : Cx} {elt tg iter : Expr} {ifs : List Expr} {scope : Scope} {pos spos py : Pos} {y : Str} {i : Nat} {wi : TI} {g : TG} {tt : TT} {te : TE} {N' : List Str} {fr : List (Option Nat)} (hN : X.N.Nodup) (hy : X.N[i]? = some y) (hl : X.env.scope.names.lookup y = some .local)
    (S : CompSc X.env.scope scope X.N N' fr) (hc : X.calm = true) (hi : PI X tg iter wi)
    (hg : ∀ C s0 H0 fp, PG (cxComp X scope C N' s0 H0 fp) tg g) (ht : ∀ C s0 H0 fp, PTs (cxComp X scope C N' s0 H0 fp) ifs tt) (he : ∀ C s0 H0 fp, PE (cxComp X scope C N' s0 H0 fp) elt te)
    (hs : ∀ x, foldedSetIterable iter X.env x = pure x := by intro _; rfl) (hsw : swapsWith (.ListComp elt [⟨tg, iter, ifs, 0⟩] scope pos) (some (.Name y py)) spos.line X.env = pure true := by rfl) :
    PS X (.Assign [.Name y py] (.ListComp elt [⟨tg, iter, ifs, 0⟩] scope pos) spos) (tAsg (tComp fr wi g tt te) (gName i)) := by
  intro pins s σ H D I h
  rw [exec_Assign_Name_used _ _ _ _ hsw]
  refine wpAny_bind (wpAny_standAt (wpAny_bind ?_))
  show wpAny _ X.A (do let _ ← comprehension (.ListComp elt [⟨tg, iter, ifs, 0⟩] scope pos) scope X.env _ (newList []) false (eval iter X.env) (some (assign (.Name y py) X.env))) _ _ s
  refine wpAny_bind (thn (comp_run S hc hi hg ht he hs I h (some (assign (.Name y py) X.env)) (fun _ s' => SP X pins D .next s') fun L C H5 s6 IX q nC c1 c2 c3 c4 hm => ?_) fun _ s' hq => wpAny_pure (wpAny_pure hq))
  obtain ⟨m, hm⟩ := hm
  show wpAny _ X.A (assign (.Name y py) X.env (.ref L)) _ _ _
  refine wpAny_assign_Name (store_ok2 IX hN hy (.inl hl) (show RelV (.ref L) (Value.ref L) from rfl) (fun s7 I7 hch => ?_) (.inr hl))
  obtain ⟨a, hsb, ha⟩ := hch
  have hCa : C ≠ a := by
    rcases ha with ha | ha
    · rw [ha]; exact c1
    · exact (c3 _ _ ha).symm
  refine ⟨m, hm.at' (fun o e => (hsb.2 C hCa).trans e), fun h' hs' => ⟨_, H5, I7.turned (t' := s7.toks) (it := C) (fun b o hb e => hs'.extBut b o hb e) nC c1 (.inr c2) c3 c4, q⟩⟩

/-! ### the forms one uses -/
theorem comp_range {lo : Int} {n : Nat} {g : TG} {tt : TT} {te : TE} {R : Hp → Prop} {D : Addr} {σ0 : St} {H0 : Hp} (Pv : Nat → St → List V → Hp → Prop) (h0 : Pv 0 σ0 [] H0)
    (hs : ∀ i σ ys H, i < n → Pv i σ ys H → g (.int (lo + i)) σ H fun σ2 H2 => tt σ2 H2 fun b H3 =>
      if b = true then te σ2 H3 fun v H4 => H4 D = some (.lst ys) ∧ ys.length < sizeLine ∧ Pv (i + 1) σ2 (ys ++ [v]) (upd H4 D (.lst (ys ++ [v]))) else Pv (i + 1) σ2 ys H3)
    (hd : ∀ σ ys H, Pv n σ ys H → R H) :
    ∃ W : Nat → Nat → St → List V → Hp → Prop, (∃ m, W 0 m σ0 [] H0) ∧ ∀ i m σ ys H, W i m σ ys H →
      ((Itr lo n).stop i H ∧ R H) ∨ ((Itr lo n).go i H ∧ ∃ N : St → List V → Hp → Prop, (∀ σ' ys' H', N σ' ys' H' → ∃ m', m' < m ∧ W (i + 1) m' σ' ys' H') ∧ ∀ x H', (Itr lo n).yld i H x H' → g x σ H' fun σ2 H2 => tt σ2 H2 fun b H3 =>
        if b = true then te σ2 H3 fun v H4 => H4 D = some (.lst ys) ∧ ys.length < sizeLine ∧ N σ2 (ys ++ [v]) (upd H4 D (.lst (ys ++ [v]))) else N σ2 ys H3) := by
  refine ⟨fun i m σ ys H => m = n - i ∧ i ≤ n ∧ Pv i σ ys H, ⟨n, by simp, Nat.zero_le _, h0⟩, ?_⟩
  rintro i m σ ys H ⟨rfl, hi, p⟩
  by_cases hlt : i < n
  · refine .inr ⟨hlt, Pv (i + 1), fun σ' ys' H' p' => ⟨n - (i + 1), by omega, rfl, hlt, p'⟩, fun x H' y => ?_⟩
    obtain ⟨e, y⟩ := y
    subst e y
    exact hs i σ ys _ hlt p
  · have e : i = n := by omega
    subst e
    exact .inl ⟨Nat.le_refl _, hd σ ys H p⟩
theorem comp_list {K : PySem.W.Frag} {a : Addr} {xs : List V} {g : TG} {tt : TT} {te : TE} {R : Hp → Prop} {D : Addr} {σ0 : St} {H0 : Hp} (Pv : Nat → St → List V → Hp → Prop) (h0 : Pv 0 σ0 [] H0) (hl : ∀ i σ ys H, i ≤ xs.length → Pv i σ ys H → SqL K H a xs)
    (hs : ∀ i x σ ys H, xs[i]? = some x → Pv i σ ys H → g x σ H fun σ2 H2 => tt σ2 H2 fun b H3 =>
      if b = true then te σ2 H3 fun v H4 => H4 D = some (.lst ys) ∧ ys.length < sizeLine ∧ Pv (i + 1) σ2 (ys ++ [v]) (upd H4 D (.lst (ys ++ [v]))) else Pv (i + 1) σ2 ys H3)
    (hd : ∀ σ ys H, Pv xs.length σ ys H → R H) :
    ∃ W : Nat → Nat → St → List V → Hp → Prop, (∃ m, W 0 m σ0 [] H0) ∧ ∀ i m σ ys H, W i m σ ys H →
      ((Itl K a).stop i H ∧ R H) ∨ ((Itl K a).go i H ∧ ∃ N : St → List V → Hp → Prop, (∀ σ' ys' H', N σ' ys' H' → ∃ m', m' < m ∧ W (i + 1) m' σ' ys' H') ∧ ∀ x H', (Itl K a).yld i H x H' → g x σ H' fun σ2 H2 => tt σ2 H2 fun b H3 =>
        if b = true then te σ2 H3 fun v H4 => H4 D = some (.lst ys) ∧ ys.length < sizeLine ∧ N σ2 (ys ++ [v]) (upd H4 D (.lst (ys ++ [v]))) else N σ2 ys H3) := by
  refine ⟨fun i m σ ys H => m = xs.length - i ∧ i ≤ xs.length ∧ Pv i σ ys H, ⟨xs.length, by simp, Nat.zero_le _, h0⟩, ?_⟩
  rintro i m σ ys H ⟨rfl, hi, p⟩
  have q := hl i σ ys H hi p
  by_cases hlt : i < xs.length
  · refine .inr ⟨⟨xs, xs[i], q, by simp [hlt]⟩, Pv (i + 1), fun σ' ys' H' p' => ⟨xs.length - (i + 1), by omega, rfl, hlt, p'⟩, fun x H' y => ?_⟩
    obtain ⟨e, y⟩ := y
    subst e
    exact hs i x σ ys _ (y xs q) p
  · have e : i = xs.length := by omega
    subst e
    exact .inl ⟨⟨xs, q, Nat.le_refl _⟩, hd σ ys H p⟩
end L2

set_option Elab.async false
set_option linter.all false
set_option maxRecDepth 100000
set_option maxHeartbeats 4000000
namespace SF
open PySem

/-! ### a table of a set: its places rise -/
def Rise (xs : Array Nat) : Prop := ∀ i k, i < k → k < xs.size → xs.getD i 0 < xs.getD k 0
theorem getD_any {xs : Array Nat} {i a b : Nat} (h : i < xs.size) : xs.getD i a = xs.getD i b := by
  simp [Array.getD, h]
theorem go_spec {xs : Array Nat} {j : Nat} (hr : Rise xs) : ∀ (f lo hi : Nat), lo ≤ hi → hi ≤ xs.size → hi - lo ≤ f → (∀ i, i < lo → xs.getD i 0 < j) → (∀ i, hi ≤ i → i < xs.size → j ≤ xs.getD i 0) →
    SetTable.below.go xs j f lo hi ≤ xs.size ∧ (∀ i, i < SetTable.below.go xs j f lo hi → xs.getD i 0 < j) ∧ ∀ i, SetTable.below.go xs j f lo hi ≤ i → i < xs.size → j ≤ xs.getD i 0 := by
  intro f
  induction f with
  | zero =>
    intro lo hi h1 h2 h3 h4 h5
    have e : lo = hi := by omega
    subst e
    exact ⟨h2, h4, h5⟩
  | succ f ih =>
    intro lo hi h1 h2 h3 h4 h5
    unfold SetTable.below.go
    by_cases hlt : lo < hi
    · rw [if_pos hlt]
      have m1 : (lo + hi) / 2 < hi := by omega
      have m2 : lo ≤ (lo + hi) / 2 := by omega
      dsimp only
      rw [getD_any (b := 0) (Nat.lt_of_lt_of_le m1 h2)]
      by_cases hm : xs.getD ((lo + hi) / 2) 0 < j
      · rw [if_pos hm]
        refine ih _ _ (by omega) h2 (by omega) (fun i hi' => ?_) h5
        rcases Nat.lt_or_ge i ((lo + hi) / 2) with q | q
        · exact Nat.lt_trans (hr i _ q (by omega)) hm
        · have e : i = (lo + hi) / 2 := by omega
          rw [e]; exact hm
      · rw [if_neg hm]
        refine ih _ _ m2 (by omega) (by omega) h4 (fun i hi' hs => ?_)
        rcases Nat.lt_or_ge ((lo + hi) / 2) i with q | q
        · exact Nat.le_trans (Nat.not_lt.mp hm) (Nat.le_of_lt (hr _ i q hs))
        · have e : i = (lo + hi) / 2 := by omega
          rw [e]; exact Nat.not_lt.mp hm
    · rw [if_neg hlt]
      have e : lo = hi := by omega
      subst e
      exact ⟨h2, h4, h5⟩
theorem below_spec {xs : Array Nat} {j : Nat} (hr : Rise xs) : SetTable.below xs j ≤ xs.size ∧ (∀ i, i < SetTable.below xs j → xs.getD i 0 < j) ∧ ∀ i, SetTable.below xs j ≤ i → i < xs.size → j ≤ xs.getD i 0 :=
  go_spec hr xs.size 0 xs.size (Nat.zero_le _) (Nat.le_refl _) (Nat.le_refl _) (fun i h => absurd h (Nat.not_lt_zero _)) (fun i h1 h2 => absurd (Nat.lt_of_lt_of_le h2 h1) (Nat.lt_irrefl _))
/-- the slot ahead of the i-th place -/
theorem below_at {xs : Array Nat} (hr : Rise xs) {i s : Nat} (h1 : ∀ k, k < i → xs.getD k 0 < s) (h2 : i < xs.size → s ≤ xs.getD i 0) (hi : i ≤ xs.size) : SetTable.below xs s = i := by
  obtain ⟨b1, b2, b3⟩ := below_spec (j := s) hr
  rcases Nat.lt_trichotomy (SetTable.below xs s) i with q | q | q
  · have := b3 _ (Nat.le_refl _) (by omega)
    have := h1 _ q
    omega
  · exact q
  · have := b2 i q
    have := h2 (by omega)
    omega
theorem rise_list {xs : Array Nat} : Rise xs ↔ xs.toList.Pairwise (· < ·) := by
  rw [List.pairwise_iff_getElem]
  constructor
  · intro h i k hi hk hik
    have h' := h i k hik (by simpa using hk)
    have hi' : i < xs.size := by simpa using hi
    have hk' : k < xs.size := by simpa using hk
    simpa [Array.getD, hi', hk'] using h'
  · intro h i k hik hk
    have hi : i < xs.size := Nat.lt_trans hik hk
    have h' := h i k (by simpa using hi) (by simpa using hk) hik
    simpa [Array.getD, hi, hk] using h'
theorem rise_insert {xs : Array Nat} {j : Nat} (hr : Rise xs) (hn : ∀ i, i < xs.size → xs.getD i 0 ≠ j) : Rise (SetTable.insertAt xs (SetTable.below xs j) j) := by
  obtain ⟨b1, b2, b3⟩ := below_spec (j := j) hr
  rw [rise_list, SetTable.toList_insertAt]
  have hp := rise_list.mp hr
  have take : ∀ a ∈ xs.toList.take (SetTable.below xs j), a < j := fun a ha => by
    obtain ⟨i, hi, e⟩ := List.getElem_of_mem ha
    have hi' : i < SetTable.below xs j ∧ i < xs.size := by
      rw [List.length_take] at hi
      simp at hi
      omega
    have := b2 i hi'.1
    rw [← e, List.getElem_take]
    simpa [Array.getD, hi'.2] using this
  have drop : ∀ a ∈ xs.toList.drop (SetTable.below xs j), j < a := fun a ha => by
    obtain ⟨i, hi, e⟩ := List.getElem_of_mem ha
    have hi' : SetTable.below xs j + i < xs.size := by
      rw [List.length_drop] at hi
      simp at hi
      omega
    have h1 := b3 (SetTable.below xs j + i) (Nat.le_add_right _ _) hi'
    have h2 := hn _ hi'
    rw [← e, List.getElem_drop]
    have h3 : j < xs.getD (SetTable.below xs j + i) 0 := by omega
    simpa [Array.getD, hi'] using h3
  refine List.pairwise_append.mpr ⟨hp.sublist (List.take_sublist _ _), List.pairwise_cons.mpr ⟨drop, hp.sublist (List.drop_sublist _ _)⟩, fun a ha b hb => ?_⟩
  rcases List.mem_cons.mp hb with e | hb
  · rw [e]; exact take a ha
  · exact Nat.lt_trans (take a ha) (drop b hb)

structure TInv (t : SetTable) : Prop where
  nod : t.dummies = #[]
  up : t.plain = true → Rise t.place
theorem no_dummy {t : SetTable} (h : t.dummies = #[]) (j : Nat) : t.slot j ≠ .dummy := by
  unfold SetTable.slot
  dsimp only
  split
  · intro z; cases z
  · have e : SetTable.has t.dummies j = false := by rw [h]; simp [SetTable.has]
    rw [if_neg (by rw [e]; exact Bool.false_ne_true)]
    intro z; cases z
theorem probe_spec {t : SetTable} (h : t.dummies = #[]) {f : Nat → Int} {x : Int} : ∀ (n : Nat) (p : SetTable.Probe) {j : Nat} {d : Option Nat}, SetTable.probe.go t f x n p = some (.empty j d) → t.slot j = .empty ∧ d = p.dummy := by
  intro n
  induction n with
  | zero => intro p j d e; cases e
  | succ n ih =>
    intro p j d e
    unfold SetTable.probe.go at e
    cases q : t.slot p.j with
    | empty =>
      rw [q] at e
      cases e
      exact ⟨q, rfl⟩
    | dummy => exact absurd q (no_dummy h _)
    | live i =>
      rw [q] at e
      dsimp only at e
      have adv : (t.advance p).dummy = p.dummy := by
        unfold SetTable.advance
        split <;> rfl
      split at e
      · cases e
      · have := ih _ e
        rw [adv] at this
        exact this
theorem slot_out {t : SetTable} (hr : Rise t.place) {j : Nat} (h : t.slot j = .empty) : ∀ i, i < t.place.size → t.place.getD i 0 ≠ j := by
  intro i hi e
  have hb : SetTable.below t.place j = i := below_at hr (fun k hk => by rw [← e]; exact hr k i hk hi) (fun _ => by rw [e]; exact Nat.le_refl _) (Nat.le_of_lt hi)
  have q : t.place[SetTable.below t.place j]? = some j := by
    rw [hb, ← e]
    simp [Array.getD, hi]
  unfold SetTable.slot at h
  dsimp only at h
  rw [if_pos (by rw [q]; simp)] at h
  cases h
theorem standIn_inv (t : SetTable) (n : Nat) : TInv (t.standIn n) ∧ (t.standIn n).led = t.led := ⟨⟨rfl, fun h => by cases h⟩, rfl⟩
theorem layNew_inv {t : SetTable} (es : Array (Int × Value)) (h : Int) (x : Value) (I : TInv t) : TInv (layNew t es h x).2.1 ∧ (layNew t es h x).2.1.led = t.led := by
  unfold layNew
  cases e : t.freeSlot h with
  | none => exact standIn_inv _ _
  | some p =>
    obtain ⟨slot, wd⟩ := p
    dsimp only
    unfold SetTable.freeSlot at e
    cases q : t.probe (fun _ => h + 1) h (t.probeStart h) with
    | none => rw [q] at e; cases e
    | some m =>
      rw [q] at e
      cases m with
      | candidate a b c => cases e
      | empty j d =>
        obtain ⟨h1, h2⟩ := probe_spec I.nod _ _ q
        have h2 : d = none := h2
        subst h2
        have e1 : j = slot := by
          have := congrArg Prod.fst (Option.some.inj e)
          exact this
        subst e1
        have key : TInv (t.put j).1 ∧ (t.put j).1.led = t.led := by
          refine ⟨⟨?_, fun hp => ?_⟩, rfl⟩
          · show (if SetTable.has t.dummies j then _ else t.dummies) = #[]
            rw [if_neg (by rw [I.nod]; simp [SetTable.has])]
            exact I.nod
          · exact rise_insert (I.up hp) (slot_out (I.up hp) h1)
        unfold SetTable.orStandIn
        split
        · exact key
        · exact ⟨(standIn_inv _ _).1, (standIn_inv _ _).2.trans key.2⟩
theorem live_fst {β : Type} (g : Nat → Option β) : ∀ l : List Nat, (l.filterMap fun j => (g j).map (j, ·)).map (·.1) = l.filter fun j => (g j).isSome
  | [] => rfl
  | a :: r => by
    have ih := live_fst g r
    cases e : g a with
    | none => simp [List.filterMap_cons, e, ih]
    | some b => simp [List.filterMap_cons, e, ih]
theorem relayAll_inv {t : SetTable} (es : Array (Int × Value)) (n : Nat) : TInv (relayAll t es n).2.1 ∧ (relayAll t es n).2.1.led = t.led := by
  unfold relayAll
  cases e : t.relaid (es.map (·.1)) n with
  | none => exact standIn_inv _ _
  | some p =>
    obtain ⟨t', order⟩ := p
    dsimp only
    split
    · unfold SetTable.relaid SetTable.laid at e
      cases q : SetTable.layClean (SetTable.sizeAbove n - 1) (es.map (·.1)) with
      | none => rw [q] at e; cases e
      | some owner =>
        rw [q] at e
        have e := congrArg Prod.fst (Option.some.inj e)
        dsimp only at e
        subst e
        refine ⟨⟨rfl, fun _ => ?_⟩, rfl⟩
        rw [rise_list]
        dsimp only
        have z := live_fst (fun j => owner.getD j none) (List.range (SetTable.sizeAbove n - 1 + 1))
        rw [z]
        exact List.pairwise_lt_range.sublist List.filter_sublist
    · exact standIn_inv _ _

/-! ### the order by the text -/
theorem perm_erase {α : Type} : ∀ (l : List α) (i : Nat) (h : i < l.length), List.Perm (l[i] :: l.eraseIdx i) l
  | a :: r, 0, _ => List.Perm.refl _
  | a :: r, i + 1, h => by
    have q := perm_erase r i (by simpa using h)
    show List.Perm (r[i]'(by simpa using h) :: a :: r.eraseIdx i) (a :: r)
    exact (List.Perm.swap _ _ _).trans (q.cons a)
theorem pick_go {α : Type} (next : Nat → Nat) : ∀ (n k : Nat) (left : List α) (out : Array α), n = left.length → List.Perm (pickOrder.go next n k left out).toList (out.toList ++ left)
  | 0, k, left, out, h => by
    have e : left = [] := List.eq_nil_of_length_eq_zero h.symm
    subst e
    simp [pickOrder.go]
  | n + 1, k, left, out, h => by
    unfold pickOrder.go
    have hlt : next k % left.length < left.length := Nat.mod_lt _ (by omega)
    have e : left[next k % left.length]? = some left[next k % left.length] := List.getElem?_eq_getElem hlt
    rw [e]
    dsimp only
    refine (pick_go next n (k + 1) _ _ (by rw [List.length_eraseIdx, if_pos hlt]; omega)).trans ?_
    rw [Array.toList_push, List.append_assoc]
    refine List.Perm.append_left _ ?_
    show List.Perm (left[next k % left.length] :: left.eraseIdx (next k % left.length)) left
    exact perm_erase _ _ hlt
theorem pick_perm {α : Type} (next : Nat → Nat) (xs : Array α) : List.Perm (pickOrder next xs).toList xs.toList := by
  have := pick_go next xs.size 0 xs.toList #[] (by simp)
  simpa [pickOrder] using this
end SF

set_option Elab.async false
set_option linter.all false
set_option maxRecDepth 100000
set_option maxHeartbeats 4000000
namespace SF
open PySem PySem.Calls PyProof.Rows

theorem slot_si_next : Slot "set_iterator" "__next__" "set_iterator.__next__" :=
  .of (owner := "set_iterator") (n := "__next__") (by rw [typeLookup_type, builtinLookup_eq_fast]; kernel_rfl) (by decide +kernel) (by decide +kernel) (by decide +kernel)
    (by first | exact .inl (by decide +kernel) | exact .inr (by decide +kernel)) (by rw [isSubtype_type]; kernel_rfl)
theorem entry_si_next : entryFor table "set_iterator.__next__" = some Builtin.«set_iterator.__next__» := entryFor_of_tree (by kernel_rfl)
theorem args_si_next (a : Value) : argsOk "set_iterator.__next__" ⟨[a], []⟩ := by unfold argsOk; kernel_rfl
theorem entry_set_iter : entryFor table "set.__iter__" = some Builtin.«frozenset.__iter__» :=
  entryFor_alias (id' := "frozenset.__iter__") (by kernel_rfl) rfl (by decide +kernel) (by kernel_rfl)

section
variable {prog : Program} {w : World} {A : Around} {E : Value → Shared → Prop} {s : Shared}

/-- a set as it lies -/
def SetIs (h : Heap) (a : Addr) (es : Array (Int × Value)) (ep : Nat) (t : SetTable) : Prop := ∃ o, h.get? a = some o ∧ o.ExactSet ∧ o.data = .set es ep t
def SiAt (h : Heap) (I : Addr) (first : Value) (i : Nat) (a : Addr) (n ep : Nat) : Prop :=
  ∃ o, h.get? I = some o ∧ o.cls = .type "set_iterator" ∧ o.data = .fields #[first, .int i 0, .ref a, .int n 0, .int ep 0]
theorem SiAt.typeIs {I : Addr} {first : Value} {i : Nat} {a : Addr} {n ep : Nat} (x : SiAt s.heap I first i a n ep) : s.TypeIs (.ref I) "set_iterator" := let ⟨o, ho, hc, _⟩ := x; ⟨o, ho, hc⟩

theorem next_int {a I : Addr} {es : Array (Int × Value)} {ep : Nat} {t : SetTable} {sl i : Nat} {v : Value} {sl' : Nat} {Q : Option Value → Shared → Prop}
    (hs : SetIs s.heap a es ep t) (hf : t.fits es.size = true) (hi : SiAt s.heap I (.int sl 0) i a es.size ep)
    (hN : ∀ (s : Shared) (A : Around) (E : Value → Shared → Prop) (R : Option (Value × Nat) → Shared → Prop), SetIs s.heap a es ep t → R (some (v, sl')) s → wpAny (model prog w) A (setNext a sl i ep) R E s)
    (hQ : ∀ h', SiAt h' I (.int sl' 0) (i + 1) a es.size ep → Heap.SameBut I s.heap h' → Q (some v) { s with heap := h' }) : wpAny (model prog w) A (pyNext (.ref I)) Q E s := by
  obtain ⟨o, ho, hc, hd⟩ := id hi
  obtain ⟨oa, hoa, hex, hda⟩ := id hs
  unfold pyNext
  refine wpAny_bind (wpAny_attempt (wpAny_callSpecial?_slot (name := Str.ofString "__next__") hi.typeIs slot_si_next
    (wpAny_call_entry slot_si_next hi.typeIs entry_si_next ?_ (args_si_next _))))
  unfold Builtin.«set_iterator.__next__»
  refine wpAny_bind (wpAny_pure ?_)
  refine wpAny_bind (wpAny_fieldsOf ho hd ?_)
  dsimp only
  refine wpAny_bind (wpAny_setEntries_of hoa hda hf ?_)
  rw [if_neg (by simp)]
  simp only [Int.toNat_natCast]
  refine wpAny_bind (hN s _ _ _ hs ?_)
  dsimp only
  refine wpAny_bind (wpAny_setField ho hd (by simp) ?_)
  have ho1 := Heap.get?_update_self (Obj.mapFields (·.setIfInBounds 0 (rawInt (sl' : Int)))) ho (Obj.isFreed_of_fields (Obj.data_mapFields hd _))
  have hd1 := Obj.data_mapFields hd (·.setIfInBounds 0 (rawInt (sl' : Int)))
  refine wpAny_bind (wpAny_setField ho1 hd1 (by simp) ?_)
  have ho2 := Heap.get?_update_self (Obj.mapFields (·.setIfInBounds 1 (rawInt ((i : Int) + 1)))) ho1 (Obj.isFreed_of_fields (Obj.data_mapFields hd1 _))
  have hd2 := Obj.data_mapFields hd1 (·.setIfInBounds 1 (rawInt ((i : Int) + 1)))
  refine wpAny_pure ⟨_, rfl, wpAny_pure (hQ _ ⟨_, ho2, ?_, ?_⟩ ((Heap.SameBut.update ..).trans (Heap.SameBut.update ..)))⟩
  · rw [Obj.cls_mapFields, Obj.cls_mapFields]
    exact hc
  · rw [hd2]
    simp [rawInt]
/-- the end: the iterator forgets its set, a StopIteration is made -/
theorem end_int {a I : Addr} {es : Array (Int × Value)} {ep : Nat} {t : SetTable} {sl i : Nat} {Q : Option Value → Shared → Prop} (hh : A.handled = none)
    (hs : SetIs s.heap a es ep t) (hf : t.fits es.size = true) (hi : SiAt s.heap I (.int sl 0) i a es.size ep)
    (hN : ∀ (s : Shared) (A : Around) (E : Value → Shared → Prop) (R : Option (Value × Nat) → Shared → Prop), SetIs s.heap a es ep t → R none s → wpAny (model prog w) A (setNext a sl i ep) R E s)
    (hQ : ∀ h', Heap.ExtBut I s.heap h' → Q none { s with heap := h' }) : wpAny (model prog w) A (pyNext (.ref I)) Q E s := by
  obtain ⟨o, ho, hc, hd⟩ := id hi
  obtain ⟨oa, hoa, hex, hda⟩ := id hs
  unfold pyNext
  refine wpAny_bind (wpAny_attempt (wpAny_callSpecial?_slot (name := Str.ofString "__next__") hi.typeIs slot_si_next
    (wpAny_call_entry slot_si_next hi.typeIs entry_si_next ?_ (args_si_next _))))
  unfold Builtin.«set_iterator.__next__»
  refine wpAny_bind (wpAny_pure ?_)
  refine wpAny_bind (wpAny_fieldsOf ho hd ?_)
  dsimp only
  refine wpAny_bind (wpAny_setEntries_of hoa hda hf ?_)
  rw [if_neg (by simp)]
  simp only [Int.toNat_natCast]
  refine wpAny_bind (hN s _ _ _ hs ?_)
  dsimp only
  refine wpAny_bind (wpAny_setField ho hd (by simp) ?_)
  refine wpAny_bind ?_
  simp only [newExc, newTuple]
  refine wpAny_bind (wpAny_newObj_type ?_ (by size_fits))
  refine wpAny_bind (m := firstArgMember _ _) (wpAny_of_eq (a := Value.none) (by first | rfl | (simp only [firstArgMember]; rfl)) ?_)
  refine wpAny_newObj_type ?_ (by size_fits)
  simp only [raiseNew]
  refine wpAny_bind (wpAny_handled ?_)
  rw [show A.in1.handled = none from hh]
  refine wpAny_bind (wpAny_pure (wpAny_throw ?_))
  refine wpAny_bind (wpAny_isInstance (T := "StopIteration") (b := true) ⟨_, Heap.get?_push_size _ rfl, rfl⟩ isSubtype_stop ?_)
  exact wpAny_pure (hQ _ (((Heap.SameBut.update ..).extBut.push _).push _))
theorem next_drawn {a I T : Addr} {es : Array (Int × Value)} {ep : Nat} {t : SetTable} {i p : Nat} {ps : Array Value} {k : Nat} {tk : Tok} {oT : Obj} {c : Int} {v : Value} {Q : Option Value → Shared → Prop}
    (hs : SetIs s.heap a es ep t) (hf : t.fits es.size = true) (hi : SiAt s.heap I (.ref T) i a es.size ep) (hT : s.heap.get? T = some oT) (hTd : oT.data = .seq ps k) (hp : ps[i]? = some (.int p tk)) (hv : es[p]? = some (c, v))
    (hQ : ∀ h', SiAt h' I (.ref T) (i + 1) a es.size ep → Heap.SameBut I s.heap h' → Q (some v) { s with heap := h' }) : wpAny (model prog w) A (pyNext (.ref I)) Q E s := by
  obtain ⟨o, ho, hc, hd⟩ := id hi
  obtain ⟨oa, hoa, hex, hda⟩ := id hs
  unfold pyNext
  refine wpAny_bind (wpAny_attempt (wpAny_callSpecial?_slot (name := Str.ofString "__next__") hi.typeIs slot_si_next
    (wpAny_call_entry slot_si_next hi.typeIs entry_si_next ?_ (args_si_next _))))
  unfold Builtin.«set_iterator.__next__»
  refine wpAny_bind (wpAny_pure ?_)
  refine wpAny_bind (wpAny_fieldsOf ho hd ?_)
  dsimp only
  refine wpAny_bind (wpAny_setEntries_of hoa hda hf ?_)
  rw [if_neg (by simp)]
  simp only [Int.toNat_natCast]
  refine wpAny_bind ?_
  unfold seqItems?
  refine wpAny_bind (wpAny_load hT ?_)
  rw [hTd]
  refine wpAny_pure ?_
  dsimp only
  rw [hp]
  dsimp only
  refine wpAny_bind ?_
  unfold setNextDrawn
  refine wpAny_bind (wpAny_setState_of hoa hda hf ?_)
  dsimp only
  rw [if_neg (by simp)]
  simp only [Int.toNat_natCast]
  rw [hv]
  refine wpAny_pure ?_
  refine wpAny_bind (wpAny_setField ho hd (by simp) ?_)
  have ho2 := Heap.get?_update_self (Obj.mapFields (·.setIfInBounds 1 (rawInt ((i : Int) + 1)))) ho (Obj.isFreed_of_fields (Obj.data_mapFields hd _))
  have hd2 := Obj.data_mapFields hd (·.setIfInBounds 1 (rawInt ((i : Int) + 1)))
  refine wpAny_pure ⟨_, rfl, wpAny_pure (hQ _ ⟨_, ho2, ?_, ?_⟩ (Heap.SameBut.update ..))⟩
  · rw [Obj.cls_mapFields]
    exact hc
  · rw [hd2]
    simp [rawInt]
theorem end_drawn {a I T : Addr} {es : Array (Int × Value)} {ep : Nat} {t : SetTable} {i : Nat} {ps : Array Value} {k : Nat} {oT : Obj} {Q : Option Value → Shared → Prop} (hh : A.handled = none)
    (hs : SetIs s.heap a es ep t) (hf : t.fits es.size = true) (hi : SiAt s.heap I (.ref T) i a es.size ep) (hT : s.heap.get? T = some oT) (hTd : oT.data = .seq ps k) (hp : ps[i]? = none)
    (hQ : ∀ h', Heap.ExtBut I s.heap h' → Q none { s with heap := h' }) : wpAny (model prog w) A (pyNext (.ref I)) Q E s := by
  obtain ⟨o, ho, hc, hd⟩ := id hi
  obtain ⟨oa, hoa, hex, hda⟩ := id hs
  unfold pyNext
  refine wpAny_bind (wpAny_attempt (wpAny_callSpecial?_slot (name := Str.ofString "__next__") hi.typeIs slot_si_next
    (wpAny_call_entry slot_si_next hi.typeIs entry_si_next ?_ (args_si_next _))))
  unfold Builtin.«set_iterator.__next__»
  refine wpAny_bind (wpAny_pure ?_)
  refine wpAny_bind (wpAny_fieldsOf ho hd ?_)
  dsimp only
  refine wpAny_bind (wpAny_setEntries_of hoa hda hf ?_)
  rw [if_neg (by simp)]
  simp only [Int.toNat_natCast]
  refine wpAny_bind ?_
  unfold seqItems?
  refine wpAny_bind (wpAny_load hT ?_)
  rw [hTd]
  refine wpAny_pure ?_
  dsimp only
  rw [hp]
  dsimp only
  refine wpAny_bind (wpAny_setField ho hd (by simp) ?_)
  have ho1 := Heap.get?_update_self (Obj.mapFields (·.setIfInBounds 0 (rawInt 0))) ho (Obj.isFreed_of_fields (Obj.data_mapFields hd _))
  have hd1 := Obj.data_mapFields hd (·.setIfInBounds 0 (rawInt 0))
  refine wpAny_bind (wpAny_setField ho1 hd1 (by simp) ?_)
  refine wpAny_bind ?_
  simp only [newExc, newTuple]
  refine wpAny_bind (wpAny_newObj_type ?_ (by size_fits))
  refine wpAny_bind (m := firstArgMember _ _) (wpAny_of_eq (a := Value.none) (by first | rfl | (simp only [firstArgMember]; rfl)) ?_)
  refine wpAny_newObj_type ?_ (by size_fits)
  simp only [raiseNew]
  refine wpAny_bind (wpAny_handled ?_)
  rw [show A.in1.handled = none from hh]
  refine wpAny_bind (wpAny_pure (wpAny_throw ?_))
  refine wpAny_bind (wpAny_isInstance (T := "StopIteration") (b := true) ⟨_, Heap.get?_push_size _ rfl, rfl⟩ isSubtype_stop ?_)
  exact wpAny_pure (hQ _ ((((Heap.SameBut.update ..).trans (Heap.SameBut.update ..)).extBut.push _).push _))

/-! ### the next place -/
theorem setNext_text {a : Addr} {es : Array (Int × Value)} {ep : Nat} {t : SetTable} {sl i : Nat} {R : Option (Value × Nat) → Shared → Prop} (hb : w.params.followText "set-order" = true)
    (hs : SetIs s.heap a es ep t) (hf : t.fits es.size = true) (h : R (((pickOrder (w.params.setOrder a ep) es)[i]?).map fun e => (e.2, sl)) s) : wpAny (model prog w) A (setNext a sl i ep) R E s := by
  obtain ⟨o, ho, hex, hd⟩ := id hs
  unfold setNext setsByText
  refine wpAny_bind (wpAny_setState_of ho hd hf ?_)
  dsimp only
  refine wpAny_bind (wpAny_bind (wpAny_askSetting (wpAny_pure ?_)))
  rw [if_pos (show (⟨(model prog w).prog, (model prog w).w.params⟩ : Setting).params.followText "set-order" = true from hb), if_neg (by simp)]
  refine wpAny_bind ?_
  unfold setWalk setsByText
  refine wpAny_bind (wpAny_setState_of ho hd hf ?_)
  dsimp only
  refine wpAny_bind (wpAny_bind (wpAny_askSetting (wpAny_pure ?_)))
  rw [if_pos (show (⟨(model prog w).prog, (model prog w).w.params⟩ : Setting).params.followText "set-order" = true from hb)]
  exact wpAny_bind (wpAny_askSetting (wpAny_pure (wpAny_pure h)))
theorem setNext_plain {a : Addr} {es : Array (Int × Value)} {ep : Nat} {t : SetTable} {sl i : Nat} {R : Option (Value × Nat) → Shared → Prop} (hb : w.params.followText "set-order" = false) (hp : (!t.plain && decide (es.size > 1)) = false) (hl : t.led = true)
    (hs : SetIs s.heap a es ep t) (hf : t.fits es.size = true)
    (h : R (match es[SetTable.below t.place sl]?, t.place[SetTable.below t.place sl]? with | some (_, x), some j => some (x, j + 1) | _, _ => none) s) : wpAny (model prog w) A (setNext a sl i ep) R E s := by
  obtain ⟨o, ho, hex, hd⟩ := id hs
  unfold setNext setsByText
  refine wpAny_bind (wpAny_setState_of ho hd hf ?_)
  dsimp only
  refine wpAny_bind (wpAny_bind (wpAny_askSetting (wpAny_pure ?_)))
  rw [if_neg (show ¬ (⟨(model prog w).prog, (model prog w).w.params⟩ : Setting).params.followText "set-order" = true from by show ¬ w.params.followText "set-order" = true; rw [hb]; exact Bool.false_ne_true)]
  refine wpAny_ite_split (fun hab => absurd (show (!t.plain && decide (es.size > 1)) = true from hab) (by rw [hp]; exact Bool.false_ne_true)) (fun _ => ?_)
  refine wpAny_bind ?_
  show wpAny (model prog w) A (if (!t.led && !es.isEmpty) = true then unsupported "set:maker-not-led" else pure ()) _ _ s
  rw [if_neg (by rw [hl]; simp)]
  exact wpAny_pure (wpAny_pure h)

/-! ### iter(set) -/
theorem wpAny_choose {src : Source} {n : Nat} {Q : Nat → Shared → Prop} (hn : 0 < n) (h : ∀ i d, i < n → Q i { s with drawn := d }) : wpAny (model prog w) A (choose src n) Q E s := fun _ _ _ =>
  ⟨Nat.ne_of_gt hn, h _ _ (Nat.mod_lt _ hn)⟩
theorem drawOrder_perm : ∀ (n : Nat) (l : List Nat) (s : Shared) {Q : List Nat → Shared → Prop}, n = l.length → (∀ r d, List.Perm r l → Q r { s with drawn := d }) → wpAny (model prog w) A (drawOrder n l) Q E s
  | 0, l, s, Q, hn, h => by
    have e : l = [] := List.eq_nil_of_length_eq_zero hn.symm
    subst e
    exact wpAny_pure (h [] s.drawn (List.Perm.refl _))
  | n + 1, [], s, Q, hn, h => by cases hn
  | n + 1, x :: r, s, Q, hn, h => by
    unfold drawOrder
    refine wpAny_bind (wpAny_choose (by simp) fun i d hi => ?_)
    have e : (x :: r)[i]? = some (x :: r)[i] := List.getElem?_eq_getElem hi
    rw [e]
    dsimp only
    refine wpAny_bind (drawOrder_perm n _ _ (by rw [List.length_eraseIdx, if_pos hi]; omega) fun q d' hq => wpAny_pure ?_)
    exact h _ d' ((hq.cons _).trans (perm_erase _ _ hi))
structure SI (prog : Program) (w : World) (s : Shared) (a : Addr) (es : Array (Int × Value)) (ep : Nat) (t : SetTable) : Prop where
  hs : SetIs s.heap a es ep t
  fit : t.fits es.size = true
  inv : TInv t
  led : w.params.followText "set-order" = true ∨ t.led = true
theorem SetIs.typeIs {a : Addr} {es : Array (Int × Value)} {ep : Nat} {t : SetTable} (x : SetIs s.heap a es ep t) : s.TypeIs (.ref a) "set" := let ⟨o, ho, hc, _⟩ := x; ⟨o, ho, hc.1⟩
theorem SetIs.lt {h : Heap} {a : Addr} {es : Array (Int × Value)} {ep : Nat} {t : SetTable} (x : SetIs h a es ep t) : a < h.objs.size := let ⟨o, ho, _⟩ := x; Heap.lt_size ho
theorem SetIs.at {h h' : Heap} {a : Addr} {es : Array (Int × Value)} {ep : Nat} {t : SetTable} (x : SetIs h a es ep t) (e : ∀ o, h.get? a = some o → h'.get? a = some o) : SetIs h' a es ep t := let ⟨o, ho, r⟩ := x; ⟨o, e _ ho, r⟩
theorem SiAt.at {h h' : Heap} {I : Addr} {first : Value} {i : Nat} {a : Addr} {n ep : Nat} (x : SiAt h I first i a n ep) (e : ∀ o, h.get? I = some o → h'.get? I = some o) : SiAt h' I first i a n ep := let ⟨o, ho, r⟩ := x; ⟨o, e _ ho, r⟩
theorem slot_si_iter : Slot "set_iterator" "__iter__" "set_iterator.__iter__" :=
  .of (owner := "set_iterator") (n := "__iter__") (by rw [typeLookup_type, builtinLookup_eq_fast]; kernel_rfl) (by decide +kernel) (by decide +kernel) (by decide +kernel)
    (by first | exact .inl (by decide +kernel) | exact .inr (by decide +kernel)) (by rw [isSubtype_type]; kernel_rfl)
theorem iter_set {a : Addr} {es : Array (Int × Value)} {ep : Nat} {t : SetTable} {Q : Value → Shared → Prop} (S : SI prog w s a es ep t) (hsz : es.size ≤ sizeLine)
    (h1 : (w.params.followText "set-order" = true ∨ (!t.plain && decide (es.size > 1)) = false) → Q (.ref s.heap.objs.size) { s with heap := s.heap.push { cls := .type "set_iterator", data := .fields #[.int 0 0, .int 0 0, .ref a, .int es.size 0, .int ep 0] } })
    (h2 : ∀ (r : List Nat) (d : Drawn), List.Perm r (List.range es.size) → Q (.ref (s.heap.objs.size + 1)) { s with drawn := d, heap := (s.heap.push { cls := .type "tuple", data := .seq ((r.map fun (i : Nat) => rawInt i).toArray) }).push { cls := .type "set_iterator", data := .fields #[.ref s.heap.objs.size, .int 0 0, .ref a, .int es.size 0, .int ep 0] } }) :
    wpAny (model prog w) A (pyIter (.ref a)) Q E s := by
  obtain ⟨o, ho, hex, hd⟩ := id S.hs
  refine wpAny_pyIter_slot S.hs.typeIs PySem.F.slot_set_iter (wpAny_call_entry PySem.F.slot_set_iter S.hs.typeIs entry_set_iter ?_ (PySem.F.args_set_iter_1 _))
  unfold Builtin.«frozenset.__iter__» Builtin.Frozenset.slot0
  refine wpAny_bind (wpAny_bind (wpAny_pure (wpAny_pure ?_)))
  refine wpAny_bind ?_
  unfold Builtin.Frozenset.sizeOf
  refine wpAny_bind (wpAny_setEntries_of ho hd S.fit (wpAny_pure ?_))
  refine wpAny_bind ?_
  unfold setDrawn setsByText
  refine wpAny_bind (wpAny_setState_of ho hd S.fit ?_)
  dsimp only
  refine wpAny_bind (wpAny_bind (wpAny_askSetting (wpAny_pure ?_)))
  refine wpAny_pure ?_
  dsimp only
  by_cases hb : w.params.followText "set-order" = true
  · refine wpAny_ite_split (fun hab => ?_) (fun _ => ?_)
    · have hab : (!w.params.followText "set-order" && _) = true := hab
      rw [hb] at hab
      exact absurd hab (by simp)
    · refine wpAny_bind (wpAny_pure ?_)
      refine wpAny_bind (wpAny_setEpoch_of ho hd S.fit ?_)
      refine wpAny_bind (wpAny_newObj_type ?_)
      exact wpAny_pure ⟨_, rfl, "set_iterator", _, ⟨_, Heap.get?_push_size _ rfl, rfl⟩, slot_si_next.lookup, h1 (.inl hb)⟩
  · have hb' : w.params.followText "set-order" = false := by simpa using hb
    refine wpAny_ite_split (fun hab => ?_) (fun hab => ?_)
    · refine wpAny_bind (drawOrder_perm _ _ _ (by simp) fun r d hr => ?_)
      refine wpAny_bind (wpAny_newObj_type ?_ ?_)
      · refine wpAny_bind (wpAny_setEpoch_of (Heap.get?_push_of_some _ ho) hd S.fit ?_)
        refine wpAny_bind (wpAny_newObj_type ?_)
        have hz := h2 r d hr
        rw [← size_push' s.heap { cls := .type "tuple", data := .seq ((r.map fun (i : Nat) => rawInt i).toArray) }] at hz
        exact wpAny_pure ⟨_, rfl, "set_iterator", _, ⟨_, Heap.get?_push_size _ rfl, rfl⟩, slot_si_next.lookup, hz⟩
      · have hl : r.length = es.size := by rw [hr.length_eq, List.length_range]
        show (List.map _ r).toArray.size ≤ _
        rw [List.size_toArray, List.length_map, hl]
        omega
    · refine wpAny_bind (wpAny_pure ?_)
      refine wpAny_bind (wpAny_setEpoch_of ho hd S.fit ?_)
      refine wpAny_bind (wpAny_newObj_type ?_)
      refine wpAny_pure ⟨_, rfl, "set_iterator", _, ⟨_, Heap.get?_push_size _ rfl, rfl⟩, slot_si_next.lookup, h1 (.inr ?_)⟩
      have hab : ¬ ((!w.params.followText "set-order" && (!t.plain && decide (es.size > 1))) = true) := hab
      rw [hb'] at hab
      simpa using hab
theorem entry_si_iter : entryFor table "set_iterator.__iter__" = some Builtin.«dict_keyiterator.__iter__» :=
  entryFor_alias (id' := "dict_keyiterator.__iter__") (by kernel_rfl) rfl (by decide +kernel) (by kernel_rfl)
theorem args_si_iter (a : Value) : argsOk "set_iterator.__iter__" ⟨[a], []⟩ := by unfold argsOk; kernel_rfl
theorem self_si {I : Addr} {first : Value} {i : Nat} {a : Addr} {n ep : Nat} {Q : Value → Shared → Prop} (hi : SiAt s.heap I first i a n ep) (h : Q (.ref I) s) : wpAny (model prog w) A (pyIter (.ref I)) Q E s := by
  refine wpAny_pyIter_slot hi.typeIs slot_si_iter (wpAny_call_entry slot_si_iter hi.typeIs entry_si_iter ?_ (args_si_iter _))
  show wpAny _ _ (ret (.ref I)) _ _ s
  exact wpAny_pure ⟨_, rfl, "set_iterator", _, hi.typeIs, slot_si_next.lookup, h⟩
theorem walks_int (hh : A.handled = none) {a I : Addr} (hne : a ≠ I) {es : Array (Int × Value)} {ep : Nat} {t : SetTable} (hf : t.fits es.size = true) (order : List Value) (hl : order.length = es.size) (sl : Nat → Nat)
    (hN : ∀ (i : Nat) (v : Value), order[i]? = some v → ∀ (s : Shared) (A : Around) (E : Value → Shared → Prop) (R : Option (Value × Nat) → Shared → Prop), SetIs s.heap a es ep t → R (some (v, sl (i + 1))) s → wpAny (model prog w) A (setNext a (sl i) i ep) R E s)
    (hE : ∀ (s : Shared) (A : Around) (E : Value → Shared → Prop) (R : Option (Value × Nat) → Shared → Prop), SetIs s.heap a es ep t → R none s → wpAny (model prog w) A (setNext a (sl es.size) es.size ep) R E s) :
    Walks prog w A I [I, a] [I] es.size (fun i v => order[i]? = some v) (fun i h => SetIs h a es ep t ∧ SiAt h I (.int (sl i) 0) i a es.size ep) where
  sub := fun b hb => by simp at hb; simp [hb]
  frame := fun _ _ _ st hk => ⟨st.1.at fun o e => hk a (by simp) o e, st.2.at fun o e => hk I (by simp) o e⟩
  item := fun i s Q E hi st hQ => by
    obtain ⟨v, hv⟩ : ∃ v, order[i]? = some v := ⟨order[i]'(by omega), by simp [hl, hi]⟩
    refine next_int st.1 hf st.2 (hN i v hv) fun h' h1 h2 => ?_
    exact hQ v h' s.toks hv ⟨st.1.at fun o e => h2.extBut a o hne e, h1⟩ fun b o hb e => h2.extBut b o (fun z => hb (by simp [z])) e
  done := fun s Q E st hQ => end_int hh st.1 hf st.2 hE fun h' he => hQ h' s.toks fun b o hb e => he b o (fun z => hb (by simp [z])) e
  self := fun _ _ _ _ st hQ => self_si st.2 hQ
theorem walks_drawn (hh : A.handled = none) {a I T : Addr} (hne : a ≠ I) (hnT : T ≠ I) {es : Array (Int × Value)} {ep : Nat} {t : SetTable} (hf : t.fits es.size = true) (r : List Nat) (hr : List.Perm r (List.range es.size)) {oT : Obj} (hTd : oT.data = .seq ((r.map fun (i : Nat) => rawInt i).toArray)) :
    Walks prog w A I [I, a, T] [I] es.size (fun i v => (r.map fun p => ((es[p]?).getD default).2)[i]? = some v) (fun i h => SetIs h a es ep t ∧ SiAt h I (.ref T) i a es.size ep ∧ h.get? T = some oT) where
  sub := fun b hb => by simp at hb; simp [hb]
  frame := fun _ _ _ st hk => ⟨st.1.at fun o e => hk a (by simp) o e, st.2.1.at fun o e => hk I (by simp) o e, hk T (by simp) _ st.2.2⟩
  item := fun i s Q E hi st hQ => by
    have hl : r.length = es.size := by rw [hr.length_eq, List.length_range]
    have hi' : i < r.length := by omega
    have hp : r[i] < es.size := List.mem_range.mp (hr.mem_iff.mp (List.getElem_mem hi'))
    have e1 : r[i]? = some r[i] := List.getElem?_eq_getElem hi'
    have e2 : es[r[i]]? = some (es[r[i]].1, es[r[i]].2) := by simp [hp]
    have hv : (r.map fun p => ((es[p]?).getD default).2)[i]? = some es[r[i]].2 := by
      rw [List.getElem?_map, e1]
      show some ((es[r[i]]?).getD default).2 = _
      rw [e2]
      rfl
    refine next_drawn (p := r[i]) (tk := 0) st.1 hf st.2.1 st.2.2 hTd (by simp [rawInt, e1]) e2 fun h' h1 h2 => ?_
    exact hQ _ h' s.toks hv ⟨st.1.at fun o e => h2.extBut a o hne e, h1, h2.extBut T _ hnT st.2.2⟩ fun b o hb e => h2.extBut b o (fun z => hb (by simp [z])) e
  done := fun s Q E st hQ => by
    have hl : r.length = es.size := by rw [hr.length_eq, List.length_range]
    exact end_drawn hh st.1 hf st.2.1 st.2.2 hTd (by simp [hl]) fun h' he => hQ h' s.toks fun b o hb e => he b o (fun z => hb (by simp [z])) e
  self := fun _ _ _ _ st hQ => self_si st.2.1 hQ
def slAt (t : SetTable) (i : Nat) : Nat := if i = 0 then 0 else t.place.getD (i - 1) 0 + 1
theorem below_sl {t : SetTable} (hr : Rise t.place) {i : Nat} (hi : i ≤ t.place.size) : SetTable.below t.place (slAt t i) = i := by
  unfold slAt
  cases i with
  | zero => exact below_at hr (fun k hk => absurd hk (Nat.not_lt_zero _)) (fun _ => by simp) (Nat.zero_le _)
  | succ i =>
    rw [if_neg (by omega)]
    show SetTable.below t.place (t.place.getD i 0 + 1) = i + 1
    refine below_at hr (fun k hk => ?_) (fun h => hr i (i + 1) (Nat.lt_succ_self _) h) hi
    rcases Nat.lt_or_ge k i with q | q
    · have := hr k i q (by omega)
      omega
    · have e : k = i := by omega
      rw [e]; omega
/-- iter(set): it walks the members in some order -/
theorem iter_walks (hh : A.handled = none) {a : Addr} {es : Array (Int × Value)} {ep : Nat} {t : SetTable} {Q : Value → Shared → Prop} (S : SI prog w s a es ep t) (hsz : es.size ≤ sizeLine)
    (h : ∀ (I : Addr) (fp : List Addr) (order : List Value) (St : Nat → Heap → Prop) (h' : Heap) (d : Drawn), List.Perm order (es.toList.map (·.2)) → (∀ b ∈ fp, b < h'.objs.size) → s.heap.objs.size ≤ I → I ∈ fp → (∀ b ∈ fp, b = a ∨ s.heap.objs.size ≤ b) → Walks prog w A I fp [I] es.size (fun i v => order[i]? = some v) St → St 0 h' →
      (∀ b o, s.heap.get? b = some o → h'.get? b = some o) → Q (.ref I) { s with heap := h', drawn := d }) : wpAny (model prog w) A (pyIter (.ref a)) Q E s := by
  have hlt : @LT.lt Nat _ a s.heap.objs.size := S.hs.lt
  have hpl : t.place.size = es.size := by
    have := S.fit
    simp only [SetTable.fits, Bool.and_eq_true, beq_iff_eq] at this
    exact this.1
  refine iter_set S hsz (fun hm => ?_) (fun r d hr => ?_)
  · have hI : a ≠ s.heap.objs.size := Nat.ne_of_lt hlt
    have fpl : ∀ b ∈ [s.heap.objs.size, a], b < (s.heap.push { cls := .type "set_iterator", data := .fields #[.int 0 0, .int 0 0, .ref a, .int es.size 0, .int ep 0] }).objs.size := fun b hb => by
      rw [size_push']
      simp at hb
      rcases hb with e | e
      · rw [e]; exact Nat.lt_succ_self _
      · rw [e]; exact Nat.lt_succ_of_lt hlt
    have st0 : SetIs (s.heap.push { cls := .type "set_iterator", data := .fields #[.int 0 0, .int 0 0, .ref a, .int es.size 0, .int ep 0] }) a es ep t := S.hs.at fun o e => Heap.get?_push_of_some _ e
    have si0 : SiAt (s.heap.push { cls := .type "set_iterator", data := .fields #[.int 0 0, .int 0 0, .ref a, .int es.size 0, .int ep 0] }) s.heap.objs.size (.int (0 : Nat) 0) 0 a es.size ep := ⟨_, Heap.get?_push_size _ rfl, rfl, rfl⟩
    by_cases hb : w.params.followText "set-order" = true
    · have hp := pick_perm (w.params.setOrder a ep) es
      have hpl' : (pickOrder (w.params.setOrder a ep) es).size = es.size := by rw [← Array.length_toList, hp.length_eq, Array.length_toList]
      refine h s.heap.objs.size _ ((pickOrder (w.params.setOrder a ep) es).toList.map (·.2)) _ _ s.drawn (hp.map _) fpl (Nat.le_refl _) (by simp) (fun b hb => by simp at hb; rcases hb with e | e <;> subst e <;> simp)
        (walks_int hh hI S.fit _ (by rw [List.length_map, Array.length_toList]; exact hpl') (fun _ => 0) (fun i v hv s' A' E' R hs' hR => ?_) (fun s' A' E' R hs' hR => ?_)) ⟨st0, si0⟩ (fun b o e => Heap.get?_push_of_some _ e)
      · refine setNext_text hb hs' S.fit ?_
        rw [List.getElem?_map, Array.getElem?_toList] at hv
        cases q : (pickOrder (w.params.setOrder a ep) es)[i]? with
        | none => rw [q] at hv; cases hv
        | some x => rw [q] at hv; cases hv; exact hR
      · refine setNext_text hb hs' S.fit ?_
        rw [Array.getElem?_eq_none (by omega)]
        exact hR
    · have hb' : w.params.followText "set-order" = false := by simpa using hb
      have hp : (!t.plain && decide (es.size > 1)) = false := hm.resolve_left hb
      have hled : t.led = true := S.led.resolve_left hb
      have hr : Rise t.place := by
        cases q : t.plain with
        | true => exact S.inv.up q
        | false =>
          rw [q] at hp
          intro i k hik hk
          have : ¬ es.size > 1 := by simpa using hp
          omega
      refine h s.heap.objs.size _ (es.toList.map (·.2)) _ _ s.drawn (List.Perm.refl _) fpl (Nat.le_refl _) (by simp) (fun b hb => by simp at hb; rcases hb with e | e <;> subst e <;> simp)
        (walks_int hh hI S.fit _ (by rw [List.length_map, Array.length_toList]) (slAt t) (fun i v hv s' A' E' R hs' hR => ?_) (fun s' A' E' R hs' hR => ?_)) ⟨st0, si0⟩ (fun b o e => Heap.get?_push_of_some _ e)
      · refine setNext_plain hb' hp hled hs' S.fit ?_
        rw [List.getElem?_map, Array.getElem?_toList] at hv
        cases q : es[i]? with
        | none => rw [q] at hv; cases hv
        | some x =>
          rw [q] at hv; cases hv
          have hi : i < es.size := by
            rcases Nat.lt_or_ge i es.size with z | z
            · exact z
            · rw [Array.getElem?_eq_none z] at q; cases q
          have e2 : t.place[i]? = some (t.place.getD i 0) := by simp [Array.getD, hpl, hi]
          rw [below_sl hr (by omega), q, e2]
          exact hR
      · refine setNext_plain hb' hp hled hs' S.fit ?_
        rw [below_sl hr (by omega), Array.getElem?_eq_none (Nat.le_refl _)]
        exact hR
  · have hl : r.length = es.size := by rw [hr.length_eq, List.length_range]
    have k1 : ∀ b o, s.heap.get? b = some o → ((s.heap.push { cls := .type "tuple", data := .seq ((r.map fun (i : Nat) => rawInt i).toArray) }).push { cls := .type "set_iterator", data := .fields #[.ref s.heap.objs.size, .int 0 0, .ref a, .int es.size 0, .int ep 0] }).get? b = some o := fun b o e =>
      Heap.get?_push_of_some _ (Heap.get?_push_of_some _ e)
    have hs2 : (s.heap.push { cls := .type "tuple", data := .seq ((r.map fun (i : Nat) => rawInt i).toArray) }).objs.size = s.heap.objs.size + 1 := size_push' _ _
    have e1 : (r.map fun p => ((es[p]?).getD default).2).Perm (es.toList.map (·.2)) := by
      refine (hr.map _).trans ?_
      have : (List.range es.size).map (fun p => ((es[p]?).getD default).2) = es.toList.map (·.2) := by
        apply List.ext_getElem
        · simp
        · intro i h1 h2
          simp at h1 h2
          simp [h1]
      rw [this]
    refine h (s.heap.objs.size + 1) _ _ _ _ d e1 (fun b hb => ?_) (Nat.le_succ _) ?_ (fun b hb => ?_) (walks_drawn (T := s.heap.objs.size) (oT := { cls := .type "tuple", data := .seq ((r.map fun (i : Nat) => rawInt i).toArray) }) hh (Nat.ne_of_lt (Nat.lt_succ_of_lt hlt)) (Nat.ne_of_lt (Nat.lt_succ_self _)) S.fit r hr rfl)
      ⟨S.hs.at fun o e => k1 a o e, ⟨{ cls := .type "set_iterator", data := .fields #[.ref s.heap.objs.size, .int 0 0, .ref a, .int es.size 0, .int ep 0] }, ?_, rfl, rfl⟩, ?_⟩ k1
    · rw [size_push', hs2]
      simp at hb
      rcases hb with e | e | e
      · rw [e]; exact Nat.lt_succ_self _
      · rw [e]; exact Nat.lt_succ_of_lt (Nat.lt_succ_of_lt hlt)
      · rw [e]; exact Nat.lt_succ_of_lt (Nat.lt_succ_self _)
    · simp
    · simp at hb
      rcases hb with e | e | e
      · exact .inr (by rw [e]; exact Nat.le_succ _)
      · exact .inl e
      · exact .inr (by rw [e]; exact Nat.le_refl _)
    · rw [show s.heap.objs.size.succ = _ from hs2.symm]
      exact Heap.get?_push_size _ rfl
    · exact Heap.get?_push_of_some _ (Heap.get?_push_size _ rfl)
theorem hint_set (hT : s.TypeIs (.ref r) "set") {Q : Bool → Shared → Prop} (h : Q false s) : wpAny (model prog w) A (Builtin.List.listLengthHint (.ref r)) Q E s := by
  unfold Builtin.List.listLengthHint
  refine wpAny_bind (wpAny_specialOf hT PySem.F.slot_set_len.lookup ?_)
  generalize hid : ("set.__len__" : String) = id0
  wp_delta
  rw [show splitId id0 = some ("set", "__len__") from by subst hid; decide +kernel]
  subst hid
  refine wpAny_bind (wpAny_isInstance (T := "set") (b := true) hT (by rw [isSubtype_type]; kernel_rfl) ?_)
  refine wpAny_ite_split (fun hab => absurd hab (by decide)) (fun _ => ?_)
  refine wpAny_ite_split (fun _ => ?_) (fun hab => absurd (by decide +kernel) hab)
  refine wpAny_bind (wpAny_typeOf hT ?_)
  exact wpAny_pure h
end
end SF

set_option Elab.async false
set_option linter.all false
set_option maxRecDepth 100000
set_option maxHeartbeats 4000000
namespace SF
open PySem PySem.Calls PyProof.Rows
section
variable {prog : Program} {w : World} {A : Around} {E : Value → Shared → Prop} {s : Shared}

theorem extend_set (hh : A.handled = none) {a S : Addr} {es : Array (Int × Value)} {ep : Nat} {t : SetTable} {R : Result → Shared → Prop} (hS : SI prog w s a es ep t) (hsz : es.size ≤ sizeLine) (hne : S ≠ a) (res : Value) (c0 : Nat)
    (hL : s.heap.get? S = some { cls := .type "list", data := .seq #[] c0 })
    (hR : ∀ h' d tk (acc : Array Value) (order : List Value) c', (∀ b o, b ≠ S → s.heap.get? b = some o → h'.get? b = some o) → h'.get? S = some { cls := .type "list", dict := none, data := .seq acc c', slots := #[] } →
      List.Perm order (es.toList.map (·.2)) → acc.toList = order → R (.ok (.ret res)) { s with heap := h', toks := tk, drawn := d }) :
    wpAny (model prog w) A.in1 (Builtin.List.listExtendWith (.ref S) (.ref a) res)
      (fun fin s' => match fin with | .done f => R (.ok f) s' | .again c' => c'.quiet = true ∧ codeAny (model prog w) A c' R s') (fun e s' => R (.error e) s') s := by
  unfold Builtin.List.listExtendWith
  refine wpAny_bind (wpAny_typeOf (T := "set") hS.hs.typeIs ?_)
  have h1 : Builtin.List.listSameRef (.ref S) (.ref a) = false := by simp [Builtin.List.listSameRef, hne]
  rw [if_neg (by rw [h1]; decide)]
  refine wpAny_bind (iter_walks (A := A.in1) hh hS hsz fun I fp order St h' d hp hfl hI hIm hfp W st hk => ?_)
  have hltS := Heap.lt_size hL
  have hSf : S ∉ fp := fun hm => by
    rcases hfp S hm with e | e
    · exact hne e
    · exact absurd (Nat.lt_of_lt_of_le hltS e) (Nat.lt_irrefl _)
  have hol : order.length = es.size := by rw [hp.length_eq, List.length_map, Array.length_toList]
  have key : ∀ (h2 : Heap) (c1 tk : Nat), St 0 h2 → (∀ b o, b ≠ S → s.heap.get? b = some o → h2.get? b = some o) → h2.get? S = some { cls := .type "list", data := .seq #[] c1 } →
      codeAny (model prog w) A (.builtin "list.extend.loop" ⟨[.ref S, .ref I, res], []⟩) R { s with heap := h2, toks := tk, drawn := d } := by
    intro h2 c1 tk hst hk2 hS1
    refine codeAny_extend_loopS W.toS hsz S hSf res es.size 0 _ #[] c1 rfl (Nat.zero_le _) hst hS1 (ItemsOf.nil _) fun s' acc' c' hm hS' hacc => ?_
    rw [Moved.eq_with hm]
    refine hR s'.heap d s'.toks acc' order c' (fun b o hb e => hm.heap b o (fun hmem => ?_) (hk2 b o hb e)) hS' hp ?_
    · rcases List.mem_cons.mp hmem with e' | hmem
      · exact hb e'
      · rw [List.mem_singleton.mp hmem] at e
        exact absurd (Heap.lt_size e) (Nat.not_lt.mpr hI)
    · apply List.ext_getElem?
      intro i
      rw [Array.getElem?_toList]
      cases q : acc'[i]? with
      | none =>
        have : acc'.size ≤ i := by
          rcases Nat.lt_or_ge i acc'.size with z | z
          · rw [Array.getElem?_eq_getElem z] at q; cases q
          · exact z
        rw [hacc.1] at this
        rw [List.getElem?_eq_none (by omega)]
      | some v => exact (hacc.2 i v q).symm
  refine wpAny_bind (wpAny_holding (hint_set (s := { s with heap := h', drawn := d }) (SetIs.typeIs (s := { s with heap := h', drawn := d }) (hS.hs.at fun o e => hk a o e)) ?_))
  have hS1 := hk _ _ hL
  refine wpAny_ite_split (fun _ => ?_) (fun _ => wpAny_pure ⟨plainId_quiet PySem.F.plain_extend_loop _, key _ c0 _ st (fun b o _ e => hk b o e) hS1⟩)
  refine wpAny_bind (wpAny_rule ?_)
  refine wpAny_bind ?_
  show wpAny _ _ (updateSeq S (·.push .none) >>= fun _ => updateSeq S (·.pop)) _ _ _
  refine wpAny_bind (wpAny_updateSeq hS1 rfl ?_)
  have hS2 := Heap.get?_update_self (Obj.mapSeq (·.push Value.none)) hS1 rfl
  refine wpAny_updateSeq (hz := by seq_fits) hS2 rfl ?_
  have hS3 := Heap.get?_update_self (Obj.mapSeq (·.pop)) hS2 rfl
  refine wpAny_pure ⟨plainId_quiet PySem.F.plain_extend_loop _, key _ _ _ ?_ (fun b o hb e => ?_) hS3⟩
  · refine W.frame 0 _ _ st fun b hb o e => ?_
    have hbS : b ≠ S := fun h => hSf (h ▸ hb)
    exact (Heap.get?_update_other _ _ (Ne.symm hbS)).trans ((Heap.get?_update_other _ _ (Ne.symm hbS)).trans e)
  · exact (Heap.get?_update_other _ _ (Ne.symm hb)).trans ((Heap.get?_update_other _ _ (Ne.symm hb)).trans (hk b o e))

theorem collect_set (hh : A.handled = none) {a : Addr} {es : Array (Int × Value)} {ep : Nat} {t : SetTable} {R : List Value → Shared → Prop} (hS : SI prog w s a es ep t) (hsz : es.size ≤ sizeLine)
    (h : ∀ h' d tk (order : List Value), s.heap.objs.size < h'.objs.size → (∀ b o, s.heap.get? b = some o → h'.get? b = some o) → List.Perm order (es.toList.map (·.2)) → R order { s with heap := h', toks := tk, drawn := d }) :
    wpAny (model prog w) A (collect (.ref a)) R E s := by
  have hlt : @LT.lt Nat _ a s.heap.objs.size := hS.hs.lt
  unfold collect
  refine wpAny_bind (wpAny_runValue (codeAny_builtin entry_proto_collect' ?_))
  rw [Around.under_plainId PySem.F.plain_proto_collect _]
  show wpAny _ A.in1 (newList [] >>= fun l => again (.builtin "list.__iadd__" ⟨[l, .ref a], []⟩)) _ _ s
  refine wpAny_bind (wpAny_newObj_type ?_)
  refine wpAny_pure ⟨plainId_quiet PySem.F.plain_list_iadd _, codeAny_builtin entry_list_iadd' ?_⟩
  rw [Around.under_plainId PySem.F.plain_list_iadd _]
  have hS1 : (s.heap.push { cls := .type "list", data := .seq ([] : List Value).toArray }).get? s.heap.objs.size = some { cls := .type "list", data := .seq #[] } := Heap.get?_push_size _ rfl
  show wpAny _ A.in1 (Builtin.List.listExtendWith (.ref s.heap.objs.size) (.ref a) (.ref s.heap.objs.size)) _ _ _
  have S' : SI prog w { s with heap := s.heap.push { cls := .type "list", data := .seq ([] : List Value).toArray } } a es ep t := ⟨hS.hs.at fun o e => Heap.get?_push_of_some _ e, hS.fit, hS.inv, hS.led⟩
  have key := extend_set (A := A) (R := fun (q : Result) (s' : Shared) => ∃ (h' : Heap) (d : Drawn) (tk : Nat) (acc : Array Value) (order : List Value) (c' : Nat), q = .ok (.ret (.ref s.heap.objs.size)) ∧ s' = { s with heap := h', toks := tk, drawn := d } ∧
      (∀ b o, s.heap.get? b = some o → h'.get? b = some o) ∧ h'.get? s.heap.objs.size = some { cls := .type "list", dict := none, data := .seq acc c', slots := #[] } ∧ List.Perm order (es.toList.map (·.2)) ∧ acc.toList = order)
    hh S' hsz (Nat.ne_of_gt hlt) (.ref s.heap.objs.size) 0 hS1
    (fun h' d tk acc order c' hk hL hp ha => ⟨h', d, tk, acc, order, c', rfl, rfl, fun b o e => hk b o (Nat.ne_of_lt (Heap.lt_size e)) (Heap.get?_push_of_some _ e), hL, hp, ha⟩)
  refine wpAny_mono key (fun fin s' x => ?_) fun e s' x => ?_
  · cases fin with
    | done f =>
      obtain ⟨h', d, tk, acc, order, c', e, rfl, hk, hL, hp, ha⟩ := x
      cases e
      show wpAny _ A (load s.heap.objs.size >>= _) _ _ _
      refine wpAny_bind (wpAny_load hL ?_)
      refine wpAny_pure ?_
      rw [ha]
      exact h h' d tk order (Heap.lt_size hL) hk hp
    | again c1 =>
      refine ⟨x.1, codeAny_mono x.2 fun q s2 y => ?_⟩
      obtain ⟨h', d, tk, acc, order, c', rfl, rfl, hk, hL, hp, ha⟩ := y
      show wpAny _ A (load s.heap.objs.size >>= _) _ _ _
      refine wpAny_bind (wpAny_load hL ?_)
      refine wpAny_pure ?_
      rw [ha]
      exact h h' d tk order (Heap.lt_size hL) hk hp
  · obtain ⟨_, _, _, _, _, _, e', _⟩ := x
    cases e'
theorem ints_perm : ∀ {us vs : List Value}, List.Perm us vs → ∀ {ns : List Int}, IntsAre vs ns → ∃ ms, IntsAre us ms ∧ List.Perm ms ns := by
  intro us vs hp
  induction hp with
  | nil => intro ns h; cases h; exact ⟨[], .nil, .nil⟩
  | cons x _ ih =>
    intro ns h
    cases h with
    | cons n t r =>
      obtain ⟨ms, h1, h2⟩ := ih r
      exact ⟨n :: ms, .cons n t h1, h2.cons _⟩
  | swap x y l =>
    intro ns h
    cases h with
    | cons n t r =>
      cases r with
      | cons n' t' r' => exact ⟨_, .cons _ _ (.cons _ _ r'), List.Perm.swap _ _ _⟩
  | trans _ _ ih1 ih2 =>
    intro ns h
    obtain ⟨ms, h1, h2⟩ := ih2 h
    obtain ⟨ms', h3, h4⟩ := ih1 h1
    exact ⟨ms', h3, h4.trans h2⟩
theorem sorted_set (hh : A.handled = none) {a : Addr} {es : Array (Int × Value)} {ep : Nat} {t : SetTable} {ns : List Int} {Q : Value → Shared → Prop} (hS : SI prog w s a es ep t) (hI : IntsAre (es.toList.map (·.2)) ns) (h64 : ns.length < 64)
    (h : ∀ (D : Addr) (h' : Heap) (d : Drawn) (tk : Nat) (out : Array Value) (ms : List Int) (c : Nat), s.heap.objs.size ≤ D → (∀ b o, s.heap.get? b = some o → h'.get? b = some o) → h'.get? D = some { cls := .type "list", data := .seq out c } → IntsAre out.toList ms → ms.Perm ns → ms.Pairwise (· ≤ ·) →
      Q (.ref D) { s with heap := h', toks := tk, drawn := d }) :
    wpAny (model prog w) A (call (.builtin "sorted") [.ref a]) Q E s := by
  have hl : es.size = ns.length := by rw [← IntsAre.length hI, List.length_map, Array.length_toList]
  have hsz : es.size ≤ sizeLine := by rw [hl, sizeLine_eq]; omega
  refine call_function_entry kind_sorted plain_sorted entry_sorted (args_sorted1 _) ?_
  unfold Builtin.«sorted»
  refine wpAny_bind (m := checkCount "sorted" 1 1 _) (wpAny_pure ?_)
  refine wpAny_bind (collect_set (A := A.in1) hh hS hsz fun h' d tk order hlt hk hp => ?_)
  obtain ⟨ms, hms, hmp⟩ := ints_perm hp hI
  have hol : order.length = ns.length := by rw [IntsAre.length hms, hmp.length_eq]
  refine wpAny_bind (wpAny_newList ?_ (by rw [hol, ← hl]; exact hsz))
  have hD : (h'.push (seqObj "list" order.toArray 0)).get? h'.objs.size = some (seqObj "list" order.toArray 0) := Heap.get?_push_size _ rfl
  refine wpAny_bind (wpAny_holding (wpAny_call_entry slot_list_sort ⟨_, hD, rfl⟩ entry_list_sort (list_sort_tree hD hms (by omega) fun out ms' a1 a2 a3 => ⟨_, rfl, ?_⟩) (args_list_sort _)))
  obtain ⟨c, hc⟩ := sortedHeap_at (out := out) hD
  refine wpAny_pure ⟨_, rfl, h h'.objs.size _ d tk out ms' c (Nat.le_of_lt hlt) (fun b o e => ?_) hc a1 (a2.trans hmp) a3⟩
  have hb := Heap.lt_size (hk b o e)
  rw [sortedHeap_old (Nat.ne_of_lt hb) (by rw [size_push']; exact Nat.lt_succ_of_lt hb)]
  exact Heap.get?_push_of_some _ (hk b o e)
end
end SF

set_option Elab.async false
set_option linter.all false
set_option maxRecDepth 100000
set_option maxHeartbeats 4000000
namespace SF
open PySem PySem.Calls PyProof.Rows

/-- a set of ints, with what its walk asks -/
def SetL (prog : Program) (w : World) (h : Heap) (a : Addr) (us : List Int) : Prop :=
  ∃ es ep t, SetIs h a es ep t ∧ t.fits es.size = true ∧ TInv t ∧ (w.params.followText "set-order" = true ∨ t.led = true) ∧ ElemsOf (intKind prog w) es.toList ∧ IntsAre (es.toList.map (·.2)) us ∧ us.Nodup
theorem SetL.at {prog : Program} {w : World} {h h' : Heap} {a : Addr} {us : List Int} (x : SetL prog w h a us) (e : ∀ o, h.get? a = some o → h'.get? a = some o) : SetL prog w h' a us := by
  obtain ⟨es, ep, t, hs, r⟩ := x
  exact ⟨es, ep, t, hs.at e, r⟩
theorem ints_mem : ∀ {vs : List Value} {us : List Int} {k : Int}, IntsAre vs us → (k ∈ us ↔ ∃ v ∈ vs, Value.isInt k v = true)
  | _, _, k, .nil => by simp
  | _, _, k, .cons n t r => by
    have ih := ints_mem (k := k) r
    rw [List.mem_cons, ih]
    constructor
    · rintro (e | ⟨v, hv, e⟩)
      · subst e
        exact ⟨_, List.mem_cons_self, by simp [Value.isInt]⟩
      · exact ⟨v, List.mem_cons_of_mem _ hv, e⟩
    · rintro ⟨v, hv, e⟩
      rcases List.mem_cons.mp hv with z | z
      · subst z
        exact .inl (by have q : n = k := by simpa [Value.isInt] using e
                       exact q.symm)
      · exact .inr ⟨v, z, e⟩
theorem ints_snoc : ∀ {vs : List Value} {us : List Int} (k : Int) (t : Tok), IntsAre vs us → IntsAre (vs ++ [.int k t]) (us ++ [k])
  | _, _, k, t, .nil => .cons k t .nil
  | _, _, k, t, .cons n t' r => .cons n t' (ints_snoc k t r)
section
variable {prog : Program} {w : World} {A : Around} {E : Value → Shared → Prop} {s : Shared}

theorem store_L {h : Heap} {a : Addr} {es es' : Array (Int × Value)} {ep : Nat} {t t' : SetTable} {us : List Int} (hs : SetIs h a es ep t) (hf : t'.fits es'.size = true) (hi : TInv t') (hl : w.params.followText "set-order" = true ∨ t'.led = true)
    (hel : ElemsOf (intKind prog w) es'.toList) (hI : IntsAre (es'.toList.map (·.2)) us) (hn : us.Nodup) : SetIs (h.update a (Obj.putSet es' t')) a es' (ep + 1) t' ∧ SetL prog w (h.update a (Obj.putSet es' t')) a us := by
  obtain ⟨o, ho, hex, hd⟩ := hs
  have hg : (h.update a (Obj.putSet es' t')).get? a = some { o with data := .set es' (ep + 1) t' } := by
    have z := Heap.get?_update_self (Obj.putSet es' t') ho (by rw [putSet_of es' t' hd]; rfl)
    rw [putSet_of es' t' hd] at z
    exact z
  have q : SetIs (h.update a (Obj.putSet es' t')) a es' (ep + 1) t' := ⟨_, hg, hex, rfl⟩
  exact ⟨q, es', ep + 1, t', q, hf, hi, hl, hel, hI, hn⟩
theorem perm_push {es es' : Array (Int × Value)} {c : Int} {x : Value} (hp : List.Perm es'.toList (es.push (c, x)).toList) : List.Perm (es'.toList.map (·.2)) (es.toList.map (·.2) ++ [x]) := by
  refine (hp.map _).trans ?_
  rw [Array.toList_push, List.map_append]
  exact List.Perm.refl _
theorem off_inv {t : SetTable} (h : TInv t) : TInv { t with plain := false } := ⟨h.nod, fun z => by cases z⟩
theorem add_int {a : Addr} {us : List Int} {k : Int} {tk : Tok} {Q : Bool → Shared → Prop} (hS : SetL prog w s.heap a us) (hroom : us.length + 1 < scanBound)
    (h : ∀ (b : Bool) (h' : Heap) (us' : List Int), Heap.SameBut a s.heap h' → SetL prog w h' a us' → (∀ j, j ∈ us' ↔ j ∈ us ∨ j = k) → us'.length ≤ us.length + 1 → Q b { s with heap := h' }) :
    wpAny (model prog w) A (setAddHashed a (.int k tk) ((intKind prog w).hash k)) Q E s := by
  obtain ⟨es, ep, t, hs, hf, hi, hl, hel, hI, hn⟩ := id hS
  obtain ⟨o, ho, hex, hd⟩ := id hs
  have hsz : es.size = us.length := by rw [← IntsAre.length hI, List.length_map, Array.length_toList]
  have hmem : k ∈ us ↔ ∃ e ∈ es.toList, (intKind prog w).is k e.2 = true := by
    rw [ints_mem hI]
    constructor
    · rintro ⟨v, hv, e⟩
      obtain ⟨p, hp, rfl⟩ := List.mem_map.mp hv
      exact ⟨p, hp, e⟩
    · rintro ⟨p, hp, e⟩
      exact ⟨p.2, List.mem_map.mpr ⟨p, hp, rfl⟩, e⟩
  unfold setAddHashed setAddHashedIn
  refine wpAny_holding (wpAny_bind (wpAny_setState_of ho hd hf ?_))
  dsimp only
  rw [byScan_of (knd := intKind prog w) (x := .int k tk) rfl (by omega) hel]
  simp only [↓reduceIte]
  unfold setAddByScan
  refine wpAny_bind ?_
  refine wpAny_bind (wpAny_rule ?_)
  refine wpAny_bind (wpAny_setScan_of (knd := intKind prog w) (intKind_is _ _ _ _) ho hd hf hel ?_)
  cases hr : List.findIdx? (fun e => (intKind prog w).is k e.2) es.toList with
  | some j =>
    dsimp only
    obtain ⟨hj, hpj, _⟩ := List.findIdx?_eq_some_iff_getElem.mp hr
    have hk : k ∈ us := hmem.mpr ⟨es.toList[j], List.getElem_mem hj, hpj⟩
    refine wpAny_pure (wpAny_pure ?_)
    exact h false s.heap us (Heap.SameBut.refl a s.heap) hS (fun i => ⟨.inl, fun z => z.elim id fun e => e ▸ hk⟩) (Nat.le_succ _)
  | none =>
    dsimp only
    have hk : k ∉ us := fun z => by
      obtain ⟨e, he, q⟩ := hmem.mp z
      have := List.findIdx?_eq_none_iff.mp hr e he
      rw [q] at this
      cases this
    have hperm := layNew_perm t es ((intKind prog w).hash k) (.int k tk)
    have hfits := layNew_fits t es ((intKind prog w).hash k) (.int k tk)
    have hinv := layNew_inv es ((intKind prog w).hash k) (.int k tk) hi
    generalize hL : layNew t es ((intKind prog w).hash k) (.int k tk) = L at hperm hfits hinv ⊢
    obtain ⟨es1, t1, wd, gave⟩ := L
    dsimp only at hperm hfits hinv ⊢
    have hel1 : ElemsOf (intKind prog w) es1.toList := by
      have z := hperm
      rw [Array.toList_push] at z
      exact (hel.push (intKind_is _ _ _ _) rfl).perm z
    obtain ⟨us1, hI1, hp1⟩ := ints_perm (perm_push hperm) (ints_snoc k tk hI)
    have hn1 : us1.Nodup := hp1.nodup_iff.mpr (by
      rw [List.nodup_append]
      exact ⟨hn, by simp, fun x hx y hy => by rw [List.mem_singleton.mp hy]; rintro rfl; exact hk hx⟩)
    have hl1 : us1.length = us.length + 1 := by rw [hp1.length_eq, List.length_append]; rfl
    have hm1 : ∀ j, j ∈ us1 ↔ j ∈ us ∨ j = k := fun j => by rw [hp1.mem_iff, List.mem_append, List.mem_singleton]
    have hsz1 : es1.size = us1.length := by rw [← IntsAre.length hI1, List.length_map, Array.length_toList]
    have hb1 : es1.size < scanBound := by omega
    have hgw : ∀ (b : Bool) {s₁ : Shared} {Q' : Unit → Shared → Prop}, Q' () s₁ → wpAny (model prog w) A (match b with | true => rule "set.scan.the-table-gave-way" | false => pure ()) Q' E s₁ :=
      fun b s₁ Q' hq => by cases b <;> first | exact wpAny_pure hq | exact wpAny_rule hq
    refine wpAny_bind (hgw _ ?_)
    -- the store, and perhaps a table laid anew
    have tail : ∀ t2 : SetTable, t2.fits es1.size = true → TInv t2 → (w.params.followText "set-order" = true ∨ t2.led = true) → ∀ (g : Bool → Sem Unit) (wd' : Bool) (R : Option Bool → Shared → Prop),
        (∀ (b : Bool) (s₁ : Shared) (Q' : Unit → Shared → Prop), Q' () s₁ → wpAny (model prog w) A (g b) Q' E s₁) → (∀ h' us', Heap.SameBut a s.heap h' → SetL prog w h' a us' → us'.Perm us1 → R (some true) { s with heap := h' }) →
        wpAny (model prog w) A (storeSet a es1 t2 >>= fun _ => if (!wd' && t2.tooFull) = true then (g (relayAll t2 es1 (SetTable.grown es1.size)).2.2 >>= fun _ => storeSet a (relayAll t2 es1 (SetTable.grown es1.size)).1 (relayAll t2 es1 (SetTable.grown es1.size)).2.1 >>= fun _ => pure (some true)) else pure (some true)) R E s := by
      intro t2 f2 i2 l2 g wd' R hg hR
      refine wpAny_bind (wpAny_storeSet_of ho hd ?_ (fits_of_scanBound hb1))
      obtain ⟨q1, q2⟩ := store_L (prog := prog) (w := w) hs f2 i2 l2 hel1 hI1 hn1
      have sb1 := Heap.SameBut.update s.heap a (Obj.putSet es1 t2)
      split
      · have rp := relayAll_perm t2 es1 (SetTable.grown es1.size)
        have rf := relayAll_fits t2 es1 (SetTable.grown es1.size)
        have ri := relayAll_inv (t := t2) es1 (SetTable.grown es1.size)
        generalize relayAll t2 es1 (SetTable.grown es1.size) = Rl at rp rf ri ⊢
        obtain ⟨es2, t3, gave2⟩ := Rl
        dsimp only at rp rf ri ⊢
        obtain ⟨us2, hI2, hp2⟩ := ints_perm (rp.map (·.2)) hI1
        refine wpAny_bind (hg _ _ _ ?_)
        obtain ⟨o1, ho1, hex1, hd1⟩ := id q1
        have e2 : es2.size = es1.size := by rw [← Array.length_toList, rp.length_eq, Array.length_toList]
        refine wpAny_bind (wpAny_storeSet_of ho1 hd1 ?_ (fits_of_scanBound (by rw [e2]; exact hb1)))
        obtain ⟨_, q3⟩ := store_L (prog := prog) (w := w) q1 rf ri.1 (l2.imp id fun z => ri.2.trans z) (hel1.perm rp) hI2 (hp2.nodup_iff.mpr hn1)
        exact wpAny_pure (hR _ us2 (sb1.trans (Heap.SameBut.update _ a _)) q3 hp2)
      · exact wpAny_pure (hR _ us1 sb1 q2 (List.Perm.refl _))
    have fin : ∀ h' us', Heap.SameBut a s.heap h' → SetL prog w h' a us' → us'.Perm us1 → Q true { s with heap := h' } := fun h' us' x1 x2 x3 =>
      h true h' us' x1 x2 (fun j => by rw [x3.mem_iff]; exact hm1 j) (by rw [x3.length_eq, hl1]; exact Nat.le_refl _)
    have led1 : w.params.followText "set-order" = true ∨ t1.led = true := hl.imp id fun z => hinv.2.trans z
    split
    · refine wpAny_bind ?_
      rw [hashByValue_scannable 8 (x := .int k tk) rfl]
      refine wpAny_pure ?_
      refine tail _ ?_ ?_ ?_ _ wd _ ?_ fun h' us' x1 x2 x3 => ?_
      · split
        · exact hfits
        · exact SetTable.fits_plain_off hfits
      · split
        · exact hinv.1
        · exact off_inv hinv.1
      · split
        · exact led1
        · exact led1
      · intro b s₁ Q' hq; cases b <;> first | exact wpAny_pure hq | exact wpAny_rule hq
      · exact wpAny_pure (fin h' us' x1 x2 x3)
    · refine wpAny_bind (wpAny_pure ?_)
      simp only [↓reduceIte]
      refine tail _ hfits hinv.1 led1 _ wd _ ?_ fun h' us' x1 x2 x3 => ?_
      · intro b s₁ Q' hq; cases b <;> first | exact wpAny_pure hq | exact wpAny_rule hq
      · exact wpAny_pure (fin h' us' x1 x2 x3)
/-- set.update over a walk of ints -/
theorem update_loop {R : Result → Shared → Prop} {I : Addr} {fp wr : List Addr} {G : Array GenState → Array GenState → Prop} {n : Nat} {P : Nat → Value → Prop} {St : Nat → Shared → Prop} (W : WalksS prog w A.in1 I fp wr G n P St) (S : Addr) (hSf : S ∉ fp)
    (val : Nat → Int) (hval : ∀ i v, P i v → ∃ t, v = .int (val i) t) (hb : n + 1 < scanBound) :
    ∀ (k i : Nat) (s : Shared) (us : List Int), n - i = k → i ≤ n → St i s → SetL prog w s.heap S us → us.length ≤ i → (∀ j, j ∈ us ↔ ∃ m, m < i ∧ val m = j) →
      (∀ s' us', Moved (S :: wr) G s s' → SetL prog w s'.heap S us' → us'.length ≤ n → (∀ j, j ∈ us' ↔ ∃ m, m < n ∧ val m = j) → R (.ok (.ret .none)) s') →
      codeAny (model prog w) A (.builtin "set.update.loop" ⟨[.ref S, .ref I], []⟩) R s := by
  have hSw : S ∉ wr := fun h => hSf (W.sub _ h)
  have hsub : ∀ b ∈ wr, b ∈ S :: wr := fun b hb => List.mem_cons_of_mem _ hb
  intro k
  induction k with
  | zero =>
    intro i s us hk hi hst hS hlen hmem hR
    have hin : i = n := by omega
    subst hin
    refine codeAny_builtin PyProof.Rows.F.entry_set_update_loop ?_
    rw [Around.under_plainId PyProof.Rows.F.plain_set_update_loop _]
    show wpAny _ A.in1 (pyNext (.ref I) >>= _) _ _ s
    refine wpAny_bind (W.done s _ _ hst fun s' hm => ?_)
    show wpAny _ A.in1 (ret Value.none) _ _ s'
    exact wpAny_pure (hR s' us (hm.mono hsub) (hS.at fun o e => hm.heap S o hSw e) hlen hmem)
  | succ k ih =>
    intro i s us hk hi hst hS hlen hmem hR
    have hlt : i < n := by omega
    refine codeAny_builtin PyProof.Rows.F.entry_set_update_loop ?_
    rw [Around.under_plainId PyProof.Rows.F.plain_set_update_loop _]
    show wpAny _ A.in1 (pyNext (.ref I) >>= _) _ _ s
    refine wpAny_bind (W.item i s _ _ hlt hst fun v s' hP hst' hm => ?_)
    obtain ⟨t, rfl⟩ := hval i v hP
    have hS' : SetL prog w s'.heap S us := hS.at fun o e => hm.heap S o hSw e
    show wpAny _ A.in1 (holding [Value.int (val i) t] (setAdd S (.int (val i) t)) >>= _) _ _ s'
    refine wpAny_bind (wpAny_holding ?_)
    unfold setAdd
    refine wpAny_holding ?_
    refine wpAny_bind ((intKind prog w).pyHash (k := val i) (intKind_is _ _ _ _) ?_)
    refine add_int (s := { s' with toks := s'.toks + 1 }) hS' (by omega) fun b h' us' hsb hS2 hm2 hl2 => ?_
    refine wpAny_pure ⟨plainId_quiet PyProof.Rows.F.plain_set_update_loop _, ih (i + 1) _ us' (by omega) hlt (W.frame _ s' _ _ hst' (Nat.le_succ _) fun b hb o e => ?_) hS2 (by omega) (fun j => ?_) fun s'' us'' hm'' hS'' hl'' hmem'' => ?_⟩
    · rw [hsb.2 b (fun h : b = S => hSf (by rw [← h]; exact hb))]; exact e
    · rw [hm2, hmem]
      constructor
      · rintro (⟨m, h1, h2⟩ | e)
        · exact ⟨m, by omega, h2⟩
        · exact ⟨i, by omega, e.symm⟩
      · rintro ⟨m, h1, h2⟩
        rcases Nat.lt_or_ge m i with q | q
        · exact .inl ⟨m, q, h2⟩
        · have e : m = i := by omega
          subst e
          exact .inr h2.symm
    · refine hR s'' us'' (Moved.trans W.gtrans ((hm.mono hsub).then_heap (Nat.le_succ _) fun b o hb e => ?_) hm'') hS'' hl'' hmem''
      rw [hsb.2 b (fun h : b = S => hb (by rw [h]; exact List.mem_cons_self))]; exact e
theorem new_set (a : Value) {Q₁ : Value → Shared → Prop}
    (h : Q₁ (.ref s.heap.objs.size) { s with heap := s.heap.push { cls := .type "set", dict := none, data := .set #[] 0 (.fresh 0 0 (!w.params.followText "set-order")) } }) :
    codeAny (model prog w) A (.call (.builtin "set.__new__") ⟨[.type "set", a], []⟩) (wants Q₁ E) s := by
  refine codeAny_of_tree ?_
  show wpAny _ A.in1 (do checkBuiltinCall "set.__new__" ⟨[.type "set", a], []⟩; again (.builtin "set.__new__" ⟨[.type "set", a], []⟩)) _ _ s
  refine wpAny_bind (wpAny_of_eq (PySem.F.newCall_set_1 a) (wpAny_pure ⟨plainId_quiet PySem.F.plain_set_new _, codeAny_builtin PySem.F.entry_set_new ?_⟩))
  rw [Around.under_plainId PySem.F.plain_set_new _]
  unfold Builtin.«set.__new__» Builtin.Frozenset.newClass
  have hsub := sub_set_self
  obtain ⟨hp, g, d, tk, os⟩ := s
  dsimp only
  wp_walk
  refine wpAny_askSetting (wpAny_pure ?_)
  dsimp only
  simp only [newObj]
  refine wpAny_bind (wpAny_alloc (wpAny_pure ?_))
  exact wpAny_pure h
set_option maxHeartbeats 8000000 in
theorem call_set {l : Addr} {items : Array Value} {ns : List Int} {Q : Value → Shared → Prop} (hh : A.handled = none) (hl : s.heap.IsList l items) (hi : IntsAre items.toList ns) (hb : items.size + 1 < scanBound)
    (h : ∀ (h' : Heap) (tk : Nat) (us : List Int), SetL prog w h' s.heap.objs.size us → us.length ≤ ns.length → (∀ j, j ∈ us ↔ j ∈ ns) → (∀ b o, b < s.heap.objs.size → s.heap.get? b = some o → h'.get? b = some o) → Q (.ref s.heap.objs.size) { s with heap := h', toks := tk }) :
    wpAny (model prog w) A (call (.type "set") [.ref l]) Q E s := by
  obtain ⟨c, tl, hmro⟩ := PySem.F.called_set.mro
  have hmade := PySem.F.called_set.made
  have hsub := PySem.F.called_set.sub
  refine wpAny_call (codeAny_of_tree ?_)
  show wpAny _ _ (callAny (.type "set") _) _ _ _
  refine wpAny_pure ⟨Code.quiet_builtin _ (by decide +kernel), codeAny_builtin PySem.F.entry_type_call ?_⟩
  rw [Around.under_plain (weight_type_call_type "set" [.ref l] []) rfl]
  have h1 := PySem.F.called_set.notType
  have h2 := PySem.F.called_set.canCreate
  have hct := PySem.F.typeCall_set_1 (.ref l)
  generalize hled : (!w.params.followText "set-order") = led
  repeat (any_goals (first | assumption | wp_step))
  refine codeAny_mono (new_set (prog := prog) (w := w) (.ref l) (E := E) (Q₁ := fun obj s₁ => obj = .ref s.heap.objs.size ∧ s₁ = { s with heap := s.heap.push { cls := .type "set", dict := none, data := .set #[] 0 (.fresh 0 0 led) } }) (by rw [hled]; exact ⟨rfl, rfl⟩)) fun r s₁ hr => ?_
  have hld : w.params.followText "set-order" = true ∨ led = true := by
    cases q : w.params.followText "set-order" with
    | true => exact .inl rfl
    | false => rw [q] at hled; exact .inr hled.symm
  cases r with
  | error e => exact hr
  | ok fl =>
    cases fl with
    | next => exact hr.elim
    | brk => exact hr.elim
    | cont => exact hr.elim
    | ret obj =>
      obtain ⟨rfl, rfl⟩ := hr
      have hS : (s.heap.push { cls := .type "set", dict := none, data := .set #[] 0 (.fresh 0 0 led) }).get? s.heap.objs.size = some { cls := .type "set", dict := none, data := .set #[] 0 (.fresh 0 0 led) } := Heap.get?_push_size _ rfl
      have hT : Shared.TypeIs { s with heap := s.heap.push { cls := .type "set", dict := none, data := .set #[] 0 (.fresh 0 0 led) } } (.ref s.heap.objs.size) "set" := ⟨_, hS, rfl⟩
      have hli := PySem.F.called_set.init.lookup
      have hbi := PySem.F.called_set.init.bind (.ref s.heap.objs.size)
      repeat (any_goals (first | assumption | wp_step))
      refine codeAny_mono (codeAny_call_builtin (R := wants (fun r s₂ => r = .none ∧ ∃ h' tk us, s₂ = { s with heap := h', toks := tk } ∧ SetL prog w h' s.heap.objs.size us ∧ us.length ≤ ns.length ∧ (∀ j, j ∈ us ↔ j ∈ ns) ∧
          (∀ b o, b < s.heap.objs.size → s.heap.get? b = some o → h'.get? b = some o)) E) PySem.F.called_set.init.plain PySem.F.entry_set_init (check_set_init_1 hT ?_)) fun r₂ s₂ hr₂ => ?_
      · obtain ⟨ol, hol, hcl, nl, hdl⟩ := hl
        obtain ⟨ocls, odict, odata, oslots⟩ := ol
        simp only at hcl hdl
        subst hcl; subst hdl
        have hol' : (s.heap.push { cls := .type "set", dict := none, data := .set #[] 0 (.fresh 0 0 led) }).get? l = some { cls := .type "list", dict := odict, data := .seq items nl, slots := oslots } := Heap.get?_push_of_some _ hol
        have hsls := PySem.F.sub_list_set
        have hslf := PySem.F.sub_list_frozenset
        have hne : (Value.type "list" == Value.type "dict") = false := by decide
        have hl1 : (s.heap.push { cls := .type "set", dict := none, data := .set #[] 0 (.fresh 0 0 led) }).IsList l items := ⟨_, hol', rfl, nl, rfl⟩
        unfold Builtin.«set.__init__» noKeywords Builtin.Frozenset.updateFrom
        generalize hPI : pyIter = PI
        wp_walk
        subst hPI
        refine wpAny_pyIter_list hl1 ?_
        refine wpAny_bind (wpAny_runValue ?_)
        have hlS : l < s.heap.objs.size := Heap.lt_size hol
        have hh3 : A.in1.in1.in1.handled = none := by simp [hh]
        have hneI : l ≠ (s.heap.push { cls := .type "set", dict := none, data := .set #[] 0 (.fresh 0 0 led) }).objs.size := by
          rw [Heap.size_push]; exact Nat.ne_of_lt (Nat.lt_succ_of_lt hlS)
        have hSf : s.heap.objs.size ∉ [(s.heap.push { cls := .type "set", dict := none, data := .set #[] 0 (.fresh 0 0 led) }).objs.size, l] := by
          rw [Heap.size_push]; simp only [List.mem_cons, List.mem_singleton, List.not_mem_nil, or_false, not_or]
          exact ⟨Nat.ne_of_lt (Nat.lt_succ_self _), Nat.ne_of_gt hlS⟩
        have hval : ∀ (i : Nat) (v : Value), items[i]? = some v → ∃ t, v = .int ((fun i => ns.getD i 0) i) t := fun i v hv =>
          IntsAre.int_at hi i v (by rw [Array.getElem?_toList]; exact hv)
        have hnl : ns.length = items.size := by rw [← IntsAre.length hi, Array.length_toList]
        refine update_loop ((Walks.list hh3 _ l hneI items).toS) s.heap.objs.size hSf (fun i => ns.getD i 0) hval hb (items.size - 0) 0 _ [] (by omega) (Nat.zero_le _)
          ⟨⟨_, Heap.get?_push_size _ rfl, rfl, rfl⟩, (hl1.push _)⟩ ?hS0 (Nat.zero_le _) (fun j => by simp) ?hR
        case hS0 =>
          have hget : ((s.heap.push { cls := .type "set", dict := none, data := .set #[] 0 (.fresh 0 0 led) }).push { cls := .type "list_iterator", data := .fields #[.ref l, .int 0 0] }).get? s.heap.objs.size
              = some { cls := .type "set", dict := none, data := .set #[] 0 (.fresh 0 0 led) } := Heap.get?_push_of_some _ hS
          exact ⟨#[], 0, .fresh 0 0 led, ⟨_, hget, ⟨rfl, rfl, rfl⟩, rfl⟩, by rfl, ⟨rfl, fun _ i k _ hk => by simp [SetTable.fresh] at hk⟩, hld, fun e he => by simp at he, .nil, List.nodup_nil⟩
        case hR =>
          intro s' us hm hS' hlen hmem
          obtain ⟨h', g', d', tk', os'⟩ := s'
          have eg : g' = s.gens := hm.gens
          have ed : d' = s.drawn := hm.drawn
          have eo : os' = s.os := hm.os
          subst eg; subst ed; subst eo
          show wpAny _ _ _ _ _ _
          refine wpAny_pure ?_
          show wpAny _ _ (ret Value.none) _ _ _
          refine wpAny_pure ⟨rfl, h', tk', us, rfl, hS', by omega, fun j => ?_, fun b o hb e => ?_⟩
          · rw [hmem]
            constructor
            · rintro ⟨m, h1, h2⟩
              have hm' : m < ns.length := by omega
              rw [← h2]
              show ns.getD m 0 ∈ ns
              rw [List.getD_eq_getElem?_getD, List.getElem?_eq_getElem hm']
              exact List.getElem_mem hm'
            · intro hj
              obtain ⟨m, hm', e⟩ := List.getElem_of_mem hj
              refine ⟨m, by omega, ?_⟩
              show ns.getD m 0 = j
              rw [List.getD_eq_getElem?_getD, List.getElem?_eq_getElem hm']
              exact e
          have hb1 : b ≠ s.heap.objs.size := Nat.ne_of_lt hb
          have hb2 : b ≠ (s.heap.push { cls := .type "set", dict := none, data := .set #[] 0 (.fresh 0 0 led) }).objs.size := by
            rw [Heap.size_push]; exact Nat.ne_of_lt (Nat.lt_succ_of_lt hb)
          exact hm.heap b o (by simp only [List.mem_cons, List.mem_singleton, List.not_mem_nil, or_false, not_or]; exact ⟨hb1, hb2⟩) (Heap.get?_push_of_some _ (Heap.get?_push_of_some _ e))
      · cases r₂ with
        | error e => exact hr₂
        | ok fl₂ =>
          cases fl₂ with
          | ret r =>
            obtain ⟨rfl, h', tk, us, rfl, hS', h1', h2', hk'⟩ := hr₂
            repeat (any_goals (first | assumption | wp_step))
            exact h _ _ us hS' h1' h2' hk'
          | _ => exact hr₂.elim
end
end SF

set_option Elab.async false
set_option linter.all false
set_option maxRecDepth 100000
set_option maxHeartbeats 4000000
namespace L2
open PySem PySem.Spec PyProof.Rows

/-! ### sets of ints: made of a list, sorted -/
def setO (P : Program) (w : World) (l : Addr) (us : List Int) : HO := .ext fun h => SF.SetL P w h l us
theorem SetL_there {P : Program} {w : World} {h : Heap} {l : Addr} {us : List Int} (x : SF.SetL P w h l us) : ∃ o, h.get? l = some o := by
  obtain ⟨_, _, _, ⟨o, ho, _⟩, _⟩ := x
  exact ⟨o, ho⟩
section
variable {X : Cx}
theorem call_set_of (hc : X.calm = true) : CallR X (.type "set") (fun xs H Q => ∃ (p : Addr) (ns : List Int), xs = [.ref p] ∧ SqL X.K H p (ns.map V.int) ∧ ns.length < 4000 ∧ ∀ (l : Addr) (us : List Int), H l = none → us.length ≤ ns.length → us.Nodup → (∀ j, j ∈ us ↔ j ∈ ns) → Q (.ref l) (upd H l (setO X.prog X.w l us))) := by
  intro pins s σ H xs us0 Q I r h
  obtain ⟨p, ns, rfl, hp, hz, q⟩ := h
  obtain ⟨u, rfl, ru⟩ := vals1 r
  cases ru
  obtain ⟨its, hv, pl, _⟩ := I.list hp
  have hi := intsAre_of hv
  have hl : its.length = ns.length := IntsAre.length hi
  refine SF.call_set (I.ok.hd hc) (items := its.toArray) (ns := ns) pl.isList (by simpa using hi) (by rw [List.size_toArray, hl]; unfold scanBound; omega) fun h' tk us hS h1 h2 hk => ?_
  have hn : us.Nodup := by obtain ⟨_, _, _, _, _, _, _, _, _, hn⟩ := hS; exact hn
  refine ⟨.ref s.heap.objs.size, upd H s.heap.objs.size (setO X.prog X.w s.heap.objs.size us), I.laid (fun b o e => hk b o (Heap.lt_size e) e) (Nat.le_refl _) ?_, rfl, q _ us I.fresh h1 hn h2⟩
  exact ⟨hS, SetL_there hS, fun h1 h2 x e => SF.SetL.at x e⟩
theorem call_sorted_of (hc : X.calm = true) : CallR X (.builtin "sorted") (fun xs H Q => ∃ (p : Addr) (us : List Int), xs = [.ref p] ∧ H p = some (setO X.prog X.w p us) ∧ us.length < 64 ∧ ∀ (l : Addr) (ms : List Int), H l = none → ms.Perm us → ms.Pairwise (· ≤ ·) → Q (.ref l) (upd H l (.lst (ms.map V.int)))) := by
  intro pins s σ H xs us0 Q I r h
  obtain ⟨p, us, rfl, hp, hz, q⟩ := h
  obtain ⟨u, rfl, ru⟩ := vals1 r
  cases ru
  obtain ⟨hS, _, _⟩ := (show ObjOk X.prog X.w H s.heap p (setO X.prog X.w p us) from I.hok p _ hp)
  obtain ⟨es, ep, t, a1, a2, a3, a4, a5, a6, a7⟩ := hS
  refine SF.sorted_set (I.ok.hd hc) (ns := us) ⟨a1, a2, a3, a4⟩ a6 hz fun D h' d tk out ms c hD hk hg hI hperm hpw => ?_
  have hl : ms.length < 64 := by rw [hperm.length_eq]; exact hz
  have nD : H D = none := I.hok.fresh hD
  have new : ObjOk X.prog X.w (upd H D (.lst (ms.map V.int))) h' D (.lst (ms.map V.int)) := ⟨by rw [List.length_map, sizeLine_eq]; omega, out.toList, c, vals_ints hI, by rw [hg]⟩
  refine ⟨.ref D, upd H D (.lst (ms.map V.int)), I.call (g' := s.gens) (d' := d) (t' := tk) (ch := []) (Un.laid hk hD nD) (I.hok.laid hk hD new) I.bare (fun b z => absurd z (by simp)), rfl, q D ms nD hperm hpw⟩
/-! ### isinstance against a built-in type -/
/-! ### lists that differ -/
def cmpV (a b : V) : Prop := (∃ p, a = .ref p ∧ b = .ref p) ∨ (∃ i j, a = .int i ∧ b = .int j) ∨ ∃ i j, a = .str i ∧ b = .str j
theorem cmpV_at {A : Around} {s : Shared} {a b : V} {u v : Value} (h : cmpV a b) (ra : RelV a u) (rb : RelV b v) : SeqAt.EqAt A s u v (decide (a = b)) := by
  rcases h with ⟨p, rfl, rfl⟩ | ⟨i, j, rfl, rfl⟩ | ⟨i, j, rfl, rfl⟩
  · cases ra
    cases rb
    rw [decide_eq_true rfl]
    exact SeqAt.EqAt.same _
  · obtain ⟨t, rfl⟩ := ra
    obtain ⟨t', rfl⟩ := rb
    rw [dec_int]
    exact SeqAt.EqAt.int_int _ _ _ _
  · obtain ⟨t, rfl⟩ := ra
    obtain ⟨t', rfl⟩ := rb
    rw [dec_str]
    exact SeqAt.EqAt.str_str _ _ _ _
theorem all_eq {xs ys : List V} (h : xs.length = ys.length) : ((List.range xs.length).all fun i => decide (xs[i]? = ys[i]?)) = decide (xs = ys) := by
  rw [Bool.eq_iff_iff, List.all_eq_true, decide_eq_true_iff]
  constructor
  · intro q
    apply List.ext_getElem?
    intro i
    rcases Nat.lt_or_ge i xs.length with z | z
    · exact of_decide_eq_true (q i (List.mem_range.mpr z))
    · rw [List.getElem?_eq_none z, List.getElem?_eq_none (by omega)]
  · rintro rfl i _
    simp
end
end L2

set_option Elab.async false
set_option linter.all false
set_option maxRecDepth 100000
set_option maxHeartbeats 4000000
namespace L2
open PySem PySem.Spec PyProof.Rows
section
variable {X : Cx}
end
end L2

set_option Elab.async false
set_option linter.all false
set_option maxRecDepth 100000
set_option maxHeartbeats 4000000
namespace L2
open PySem PySem.W PySem.Spec PySem.Calls PyProof.Rows
/-! ### a dict keyed by None and ints, its values all True -/
def oIs : Option Int → Value → Bool
  | none, v => match v with
    | .none => true
    | _ => false
  | some i, v => Value.isInt i v
theorem oIs_shape {k : Option Int} {v : Value} (h : oIs k v = true) : (k = none ∧ v = .none) ∨ ∃ i t, k = some i ∧ v = .int i t := by
  cases k with
  | none => cases v <;> simp_all [oIs]
  | some i =>
    obtain ⟨t, e⟩ := Value.isInt_shape (show Value.isInt i v = true from h)
    exact .inr ⟨i, t, rfl, e⟩
def oHash : Option Int → Int
  | none => 0xFCA86420
  | some i => hashInt i
def oV : Option Int → V
  | none => .non
  | some i => .int i
theorem oV_is {k : Option Int} {u : Value} (r : RelV (oV k) u) : oIs k u = true := by
  cases k with
  | none =>
    have e : u = Value.none := r
    subst e
    rfl
  | some i =>
    obtain ⟨t, e⟩ := (show ∃ t, u = Value.int i t from r)
    subst e
    simp [oIs, Value.isInt]
theorem oV_of {k : Option Int} {u : Value} (h : oIs k u = true) : RelV (oV k) u := by
  rcases oIs_shape h with ⟨rfl, rfl⟩ | ⟨i, t, rfl, rfl⟩
  · rfl
  · exact ⟨t, rfl⟩
def optKind (prog : Program) (w : World) : KeyKind prog w (Option Int) where
  is := oIs
  hash := oHash
  inj := fun v a b ha hb => by
    rcases oIs_shape ha with ⟨rfl, rfl⟩ | ⟨i, t, rfl, rfl⟩
    · rcases oIs_shape hb with ⟨rfl, _⟩ | ⟨j, u, rfl, e⟩
      · rfl
      · exact nomatch e
    · rcases oIs_shape hb with ⟨rfl, e⟩ | ⟨j, u, rfl, e⟩
      · exact nomatch e
      · injection e with e1 _
        rw [e1]
  byValue := fun k v h => by
    rcases oIs_shape h with ⟨rfl, rfl⟩ | ⟨i, t, rfl, rfl⟩ <;> rfl
  pyHash := fun hv h => by
    rcases oIs_shape hv with ⟨rfl, rfl⟩ | ⟨i, t, rfl, rfl⟩
    · exact pyHash_slot (T := "NoneType") rfl PySem.F.slot_NoneType_hash PySem.F.entry_NoneType_hash (PySem.F.args_NoneType_hash_1 _) (beq_builtin_none _) (.inl rfl) (wpAny_bind (wpAny_pure (wpAny_bind (wpAny_mkInt (wpAny_pure ⟨_, _, rfl, h⟩)))))
    · exact wpAny_pyHash_int h
  eqBool := fun hu hv h => by
    rcases oIs_shape hu with ⟨rfl, rfl⟩ | ⟨i, t, rfl, rfl⟩
    · rcases oIs_shape hv with ⟨rfl, rfl⟩ | ⟨j, u, rfl, rfl⟩
      · exact SeqAt.EqAt.same _ _ _ _ _ (by simpa using h)
      · exact SeqAt.EqAt.none_int _ _ _ _ _ _ (by simpa using h)
    · rcases oIs_shape hv with ⟨rfl, rfl⟩ | ⟨j, u, rfl, rfl⟩
      · exact SeqAt.EqAt.int_none _ _ _ _ _ _ (by simpa using h)
      · have e : decide (some i = some j) = (i == j) := by
          by_cases z : i = j <;> simp [z]
        rw [e] at h
        exact wpAny_eqBool_int h
  «strs» := fun k x t v h => by
    rcases oIs_shape h with ⟨_, e⟩ | ⟨i, u, _, e⟩ <;> exact nomatch e
abbrev tru (k : Option Int) : Option Int × Value := (k, Value.bool true)
def dO (P : Program) (w : World) (l : Addr) (ks : List (Option Int)) : HO := .ext fun h => (l == sysModules) = false ∧ ks.length ≤ sizeLine ∧ h.DictOf (optKind P w) l (ks.map tru)
def putO (ks : List (Option Int)) (k : Option Int) : List (Option Int) := if k ∈ ks then ks else ks ++ [k]
theorem stored_tru (ks : List (Option Int)) (k : Option Int) : stored (ks.map tru) k (Value.bool true) = (putO ks k).map tru := by
  unfold stored putO
  by_cases h : k ∈ ks
  · rw [if_pos (by simp; exact h), if_pos h, List.map_map]
    refine List.map_congr_left fun x _ => ?_
    show (if x = k then (x, Value.bool true) else (x, Value.bool true)) = (x, Value.bool true)
    split <;> rfl
  · rw [if_neg (by simp; exact h), if_neg h, List.map_append]
    rfl
theorem valueAt_tru (k : Option Int) : ∀ ks : List (Option Int), (valueAt (ks.map tru) k).isSome = decide (k ∈ ks) := fun ks => by
  unfold valueAt
  rw [Option.isSome_map, Bool.eq_iff_iff, List.find?_isSome, decide_eq_true_iff]
  constructor
  · rintro ⟨x, hx, e⟩
    obtain ⟨y, hy, rfl⟩ := List.mem_map.mp hx
    rw [← of_decide_eq_true e]
    exact hy
  · intro hk
    exact ⟨tru k, List.mem_map.mpr ⟨k, hk, rfl⟩, decide_eq_true rfl⟩
theorem dO_ok {P : Program} {w : World} {H : Hp} {h : Heap} {l : Addr} {ks : List (Option Int)} (a : (l == sysModules) = false) (b : ks.length ≤ sizeLine) (d : h.DictOf (optKind P w) l (ks.map tru)) : ObjOk P w H h l (dO P w l ks) := by
  refine ⟨⟨a, b, d⟩, ?_, ?_⟩
  · obtain ⟨o, es, ep, g, _⟩ := d
    exact ⟨o, g⟩
  · rintro h1 h2 ⟨a', b', o, es, ep, g, r⟩ e
    exact ⟨a', b', o, es, ep, e _ g, r⟩
section
variable {X : Cx} {pos pos' : Pos} {o i value : Expr} {td ty tv : TE}
def tONew (P : Program) (w : World) : TE := fun _ H Q => ∀ p, H p = none → Q (.ref p) (upd H p (dO P w p []))
theorem pe_onew : PE X (.Dict [] [] pos) (tONew X.prog X.w) := fun pins s σ H Q I h =>
  wpAny_Dict_empty ⟨.ref s.heap.objs.size, _, I.laid (a := s.heap.objs.size) (o := dO X.prog X.w s.heap.objs.size []) (t' := s.toks) (fun _ _ q => Heap.get?_push_of_some _ q) (Nat.le_refl _)
    (dO_ok (beq_eq_false_iff_ne.mpr (Ne.symm (Nat.ne_of_lt I.big))) (Nat.zero_le _) (Heap.DictOf.new s.heap)), rfl, h _ (I.hok.fresh (Nat.le_refl _))⟩
theorem dO_of {pins : List (Addr × Obj)} {σ : St} {H : Hp} {s : Shared} {a : Addr} {ks : List (Option Int)} (I : Inv X pins σ H s) (e : H a = some (dO X.prog X.w a ks)) : (a == sysModules) = false ∧ ks.length ≤ sizeLine ∧ s.heap.DictOf (optKind X.prog X.w) a (ks.map tru) :=
  (show ObjOk X.prog X.w H s.heap a (dO X.prog X.w a ks) from I.hok a _ e).1
def sOPut (P : Program) (w : World) (td ty tv : TE) : TS := fun D σ H => tv σ H fun v H1 => td σ H1 fun x H2 => ty σ H2 fun y H3 => ∃ a ks k, v = .bl true ∧ x = .ref a ∧ y = oV k ∧ H3 a = some (dO P w a ks) ∧ ks.length < sizeLine ∧ D.nx σ (upd H3 a (dO P w a (putO ks k)))
theorem ps_oput (ho : PE X o td) (hi : PE X i ty) (hv : PE X value tv) (hs : swapsWith value (some (.Subscript o i pos')) pos.line X.env = pure false) : PS X (.Assign [.Subscript o i pos'] value pos) (sOPut X.prog X.w td ty tv) := by
  intro pins s σ H D I h
  refine wpAny_Assign_Subscript (thn (hv pins s σ H _ I h) fun r s1 ⟨v, H1, I1, rv, q1⟩ => thn (ho pins s1 σ H1 _ I1 q1) fun u s2 ⟨x, H2, I2, rx, q2⟩ => thn (hi pins s2 σ H2 _ I2 q2) fun iv s3 ⟨y, H3, I3, ry, a, ks, k, ev, ex, ey, e, l, q3⟩ => ?_) hs
  subst ev ex ey
  obtain rfl : u = Value.ref a := rx
  obtain rfl : r = Value.bool true := rv
  obtain ⟨z1, z2, dd⟩ := dO_of I3 e
  refine wpAny_setItem_pairs (hsz := by rw [List.length_map]; exact z2) (oV_is ry) dd fun h' dd' hs => ?_
  have he : ∃ q, h'.get? a = some q := by
    obtain ⟨q, _, _, hq, _⟩ := dd'
    exact ⟨q, hq⟩
  rw [stored_tru] at dd'
  have hl : (putO ks k).length ≤ sizeLine := by
    unfold putO
    split
    · exact z2
    · rw [List.length_append]
      exact l
  exact ⟨σ, _, d_write I3 (by rw [e]; exact True.intro) hs he (dO_ok z1 hl dd'), q3⟩
def tONotIn (P : Program) (w : World) (ty td : TE) : TE := fun σ H Q => ty σ H fun y H1 => td σ H1 fun x H2 => ∃ a ks k, y = oV k ∧ x = .ref a ∧ H2 a = some (dO P w a ks) ∧ Q (.bl (!decide (k ∈ ks))) H2
theorem pc_onotin (hi : PE X i ty) (ho : PE X o td) : PC X .NotIn i o (tONotIn X.prog X.w ty td) := by
  intro pins s σ H Q I h
  refine thn (hi pins s σ H _ I h) fun iv s1 ⟨y, H1, I1, ry, q1⟩ => thn (ho pins s1 σ H1 _ I1 q1) fun u s2 ⟨x, H2, I2, rx, a, ks, k, ey, ex, e, q2⟩ => ?_
  subst ey ex
  obtain rfl : u = Value.ref a := rx
  obtain ⟨z1, z2, dd⟩ := dO_of I2 e
  refine wpAny_notIn_of (oV_is ry) z1 dd.mapOf ?_
  rw [valueAt_tru]
  exact ⟨.bl (!decide (k ∈ ks)), H2, I2.tok _, rfl, q2⟩
theorem keys_vals : ∀ (ks : List (Option Int)) (us : List Value), us.length = ks.length → (∀ (j : Nat) v, us[j]? = some v → ∃ k x, (ks.map tru)[j]? = some (k, x) ∧ oIs k v = true) → Vals (ks.map oV) us
  | [], [], _, _ => .nil
  | [], _ :: _, h, _ => by simp at h
  | _ :: _, [], h, _ => by simp at h
  | k :: ks, u :: us, h, p => by
    obtain ⟨k', x, e, r⟩ := p 0 u rfl
    have e' : k = k' := by
      have := Option.some.inj e
      exact congrArg Prod.fst this
    subst e'
    exact .cons (oV_of r) (keys_vals ks us (by simpa using h) fun j v hv => p (j + 1) v (by simpa using hv))
theorem keys_ints : ∀ (ks : List Int) (us : List Value), Vals ((ks.map some).map oV) us → IntsAre us ks
  | [], us, r => by
    cases us with
    | nil => exact .nil
    | cons _ _ => cases r
  | k :: ks, us, r => by
    cases us with
    | nil => cases r
    | cons u us =>
      cases r with
      | cons h t =>
        obtain ⟨tk, e⟩ := (show ∃ t, u = Value.int k t from h)
        subst e
        exact .cons k tk (keys_ints ks us t)
theorem DictOf_at {P : Program} {w : World} {h : Heap} {a : Addr} {kvs : List (Option Int × Value)} (d : h.DictOf (optKind P w) a kvs) : ∃ ep, h.DictAt (optKind P w) a kvs ep := by
  obtain ⟨o, es, ep, r⟩ := d
  exact ⟨ep, o, es, r⟩
theorem call_list_o (hc : X.calm = true) : CallR X (.type "list") (fun xs H Q => ∃ (p : Addr) (ks : List (Option Int)), xs = [.ref p] ∧ H p = some (dO X.prog X.w p ks) ∧ ∀ l, H l = none → Q (.ref l) (upd H l (.lst (ks.map oV)))) := by
  intro pins s σ H xs us0 Q I r h
  obtain ⟨p, ks, rfl, hp, q⟩ := h
  obtain ⟨u, rfl, ru⟩ := vals1 r
  cases ru
  obtain ⟨z1, z2, dd⟩ := dO_of I hp
  obtain ⟨ep, dA⟩ := DictOf_at dd
  refine kdl_call (kdl_dict z1) (I.ok.hd hc) dA (by rw [List.length_map]; exact z2) fun h' tk acc c hk hD hacc => ?_
  have hv : Vals (ks.map oV) acc.toList := keys_vals ks acc.toList (by rw [Array.length_toList, hacc.1, List.length_map]) fun j v e => hacc.2 j v (by rw [← Array.getElem?_toList]; exact e)
  refine ⟨.ref s.heap.objs.size, _, I.laid (t' := tk) hk (Nat.le_refl _) (o := .lst (ks.map oV)) ⟨by rw [List.length_map]; exact z2, acc.toList, c, hv, by rw [hD]⟩, rfl, q _ (I.hok.fresh (Nat.le_refl _))⟩
theorem call_sorted_o (hc : X.calm = true) : CallR X (.builtin "sorted") (fun xs H Q => ∃ (p : Addr) (is : List Int), xs = [.ref p] ∧ H p = some (dO X.prog X.w p (is.map some)) ∧ is.length < 64 ∧ ∀ (l : Addr) (ms : List Int), H l = none → ms.Perm is → ms.Pairwise (· ≤ ·) → Q (.ref l) (upd H l (.lst (ms.map V.int)))) := by
  intro pins s σ H xs us0 Q I r h
  obtain ⟨p, is, rfl, hp, h64, q⟩ := h
  obtain ⟨u, rfl, ru⟩ := vals1 r
  cases ru
  obtain ⟨z1, z2, dd⟩ := dO_of I hp
  obtain ⟨ep, dA⟩ := DictOf_at dd
  refine call_function_entry kind_sorted plain_sorted entry_sorted (args_sorted1 _) ?_
  unfold Builtin.«sorted»
  refine wpAny_bind (m := checkCount "sorted" 1 1 _) (wpAny_pure ?_)
  refine wpAny_bind (kdu_collect (A := X.A.in1) (kdl_dict z1) (I.ok.hd hc) dA (by rw [List.length_map]; exact z2) fun h' tk acc hk hacc => ?_)
  have hal : acc.toList.length = is.length := by rw [Array.length_toList, hacc.1, List.length_map, List.length_map]
  have hv : Vals ((is.map some).map oV) acc.toList := keys_vals (is.map some) acc.toList (by rw [hal, List.length_map]) fun j v e => hacc.2 j v (by rw [← Array.getElem?_toList]; exact e)
  have hms := keys_ints is acc.toList hv
  have I' : Inv X pins σ H { s with heap := h', toks := tk } := I.un (Un.kept hk) (I.hok.kept hk)
  refine wpAny_bind (wpAny_newList ?_ (by rw [hal, sizeLine_eq]; omega))
  have hD : (h'.push (seqObj "list" acc.toList.toArray 0)).get? h'.objs.size = some (seqObj "list" acc.toList.toArray 0) := Heap.get?_push_size _ rfl
  refine wpAny_bind (wpAny_holding (wpAny_call_entry slot_list_sort ⟨_, hD, rfl⟩ entry_list_sort (list_sort_tree hD hms (by omega) fun out ms' a1 a2 a3 => ⟨_, rfl, ?_⟩) (args_list_sort _)))
  obtain ⟨c, hg⟩ := sortedHeap_at (out := out) hD
  refine wpAny_pure ⟨_, rfl, ?_⟩
  have hl : ms'.length < 64 := by rw [a2.length_eq]; exact h64
  refine ⟨.ref h'.objs.size, _, I'.laid (o := .lst (ms'.map V.int)) (fun b o e => ?_) (Nat.le_refl _) ⟨by rw [List.length_map, sizeLine_eq]; omega, out.toList, c, vals_ints a1, by rw [hg]⟩, rfl, q _ ms' (I'.hok.fresh (Nat.le_refl _)) a2 a3⟩
  have hb := Heap.lt_size e
  rw [sortedHeap_old (Nat.ne_of_lt hb) (by rw [size_push']; exact Nat.lt_succ_of_lt hb)]
  exact Heap.get?_push_of_some _ e
/-! ### lists that are alike -/
def rEqL (K : PySem.W.Frag) : R2 := fun x y H Q => ∃ (p q : Addr) (xs ys : List V), x = .ref p ∧ y = .ref q ∧ SqL K H p xs ∧ SqL K H q ys ∧ (∀ (i : Nat) a b, xs[i]? = some a → ys[i]? = some b → cmpV a b ∨ (a = .non ∧ b = .non)) ∧ Q (.bl (decide (xs = ys))) H
theorem op_eqL (hu : X.A.units < cLine) : OpR X (compareOp .Eq) (rEqL X.K) := by
  intro pins s σ H x y v u Q I rx ry h
  obtain ⟨p, q, xs, ys, rfl, rfl, hp, hq, hc, k⟩ := h
  cases rx
  cases ry
  obtain ⟨its, hv, pl, _⟩ := I.list hp
  obtain ⟨its2, hv2, pl2, _⟩ := I.list hq
  have e1 := hv.length
  have e2 := hv2.length
  by_cases hl : xs.length = ys.length
  · have key : SeqAt.RcAt X.A s (.ref p) (.ref q) ((List.range its.toArray.size).all fun i => decide (xs[i]? = ys[i]?)) := by
      refine SeqAt.RcAt.lists pl.isList pl2.isList (by simp; omega) hu fun j h1 h2 => ?_
      have j1 : j < xs.length := by simp at h1; omega
      have j2 : j < ys.length := by simp at h2; omega
      have z1 : xs[j]? = some xs[j] := List.getElem?_eq_getElem j1
      have z2 : ys[j]? = some ys[j] := List.getElem?_eq_getElem j2
      obtain ⟨u1, w1, r1⟩ := hv.get z1
      obtain ⟨u2, w2, r2⟩ := hv2.get z2
      have i1 : its.toArray[j] = u1 := by
        have : its[j]? = some its[j] := List.getElem?_eq_getElem (by omega)
        rw [this] at w1
        simpa using w1
      have i2 : its2.toArray[j] = u2 := by
        have : its2[j]? = some its2[j] := List.getElem?_eq_getElem (by omega)
        rw [this] at w2
        simpa using w2
      rw [i1, i2, z1, z2]
      have e : decide (some xs[j] = some ys[j]) = decide (xs[j] = ys[j]) := by simp
      rw [e]
      rcases hc j _ _ z1 z2 with hc | ⟨ha, hb⟩
      · exact cmpV_at hc r1 r2
      · rw [ha] at r1 ⊢
        rw [hb] at r2 ⊢
        have q1 : u1 = Value.none := r1
        have q2 : u2 = Value.none := r2
        subst q1 q2
        rw [decide_eq_true rfl]
        exact SeqAt.EqAt.same _
    rw [List.size_toArray, ← e1, all_eq hl] at key
    exact key _ _ _ _ ⟨.bl (decide (xs = ys)), H, I, rfl, k⟩
  · have key : SeqAt.RcAt X.A s (.ref p) (.ref q) false := SeqAt.RcAt.lists_lengths pl.isList pl2.isList (by simp; omega) hu
    rw [decide_eq_false (fun z => hl (by rw [z]))] at k
    exact key _ _ _ _ ⟨.bl false, H, I, rfl, k⟩
end
end L2

set_option Elab.async false
set_option linter.all false
set_option maxRecDepth 100000
set_option maxHeartbeats 4000000
namespace L2
open PySem PySem.Spec PyProof.Rows
/-! ### the call of what an expression tells -/
def tCallE (X : Cx) (k : Nat) (te : TE) (t : TA) : TE := fun σ H Q => te σ H fun x H1 => ∃ (f : Addr) (fd : FuncData) (ps : List Str) (sp : Sp), x = .ref f ∧ FnOk X.prog X.w X.K X.mg X.base CX0 k f fd ps sp ∧ Binds X.K fd ps [] ∧ PySem.W.keepIn X.K (.ref f) = true ∧
  t σ H1 fun vs H2 => sp (vs ++ []) H2 Q E0
section
variable {X : Cx} {k : Nat} {e a : Expr} {es : List Expr} {pos : Pos} {te : TE} {t : TA}
theorem pe_callE (he : PE X e te) (hr : Room k X.A) (ha : PA X (a :: es) t)
    (ht : eval (.Call e (a :: es) [] pos) X.env = (do callWith pos (← eval e X.env) [] (backTo pos (starEach (a :: es) X.env)) (backToKw pos (keywordEach [] X.env))) := by rfl)
    (hst : starEach (a :: es) X.env = (false, eval a X.env) :: starEach es X.env := by rfl) (hpl : (backTo pos (starEach es X.env)).any (·.1) = false := by rfl) :
    PE X (.Call e (a :: es) [] pos) (tCallE X k te t) := by
  intro pins s σ H Q I h
  rw [ht]
  refine wpAny_bind (thn (he pins s σ H _ I h) fun u s1 ⟨x, H1, I1, rx, f, fd, ps, sp, ex, F, hb, hk, q⟩ => ?_)
  subst ex
  obtain rfl : u = Value.ref f := rx
  refine PySem.W.callWith_K (h₀ := X.base) I1.ok.mod.kin hk (thn (ha pos pins s1 σ H1 _ I1 q) fun us s2 ⟨vs, H2, I2, r, q2⟩ => ⟨I2.kIn, ?_⟩) hst hpl
  exact run_fn F hr hb .nil pass0 I2 r q2
end
end L2

set_option Elab.async false
set_option linter.all false
set_option maxRecDepth 100000
set_option maxHeartbeats 4000000
namespace L2
open PySem PySem.Spec PyProof.Rows
/-- a dict of the top, keyed by texts: what it holds at x -/
def KHas (K : PySem.W.Frag) (P : Params) (a : Addr) (x : Str) (r : Option V) : Prop :=
  ∃ (es : Array DictEntry) (n : Nat), K.lookup a = some ⟨.type "dict", none, .dict es n, #[]⟩ ∧ PySem.W.KeysLit P es.toList ∧ (a == sysModules) = false ∧ ∃ q, PySem.W.nsIn K a x = some q ∧ RelO r q
def tKGet (K : PySem.W.Frag) (P : Params) (td ty : TE) : TE := fun σ H Q => td σ H fun x H1 => ty σ H1 fun y H2 => ∃ a k v, x = .ref a ∧ y = .str k ∧ KHas K P a k (some v) ∧ Q v H2
section
variable {X : Cx} {o i : Expr} {pos : Pos} {td ty : TE}
theorem pe_kget (ho : PE X o td) (hi : PE X i ty) (hs : NoSl i) : PE X (.Subscript o i pos) (tKGet X.K X.w.params td ty) := by
  intro pins s σ H Q I h
  refine subD_of PySem.F.slot_dict_getitem.lookup hs (thn (ho pins s σ H _ I h) fun u s1 ⟨x, H1, I1, rx, q1⟩ => thn (hi pins s1 σ H1 _ I1 q1) fun iv s2 ⟨y, H2, I2, ry, a, k, v, ex, ey, g, q2⟩ => ?_)
  subst ex ey
  obtain rfl : u = Value.ref a := rx
  obtain ⟨t, rfl⟩ := ry
  obtain ⟨es, n, hl, hk, hm, q, hq, rq⟩ := g
  obtain ⟨w', hw, rw'⟩ := RelO.some_of (v := v) (o := q) rq
  subst hw
  have mo := PySem.W.mapOf_K (prog := X.prog) (w := X.w) I2.kIn hl hk
  exact ⟨mo.typeIs, wpAny_getItem_of (strKind_is X.prog X.w k t) mo (PySem.W.find_K hl hq) ⟨v, H2, I2.tok _, rw', q2⟩⟩
end
end L2

set_option Elab.async false
set_option linter.all false
set_option maxRecDepth 100000
set_option maxHeartbeats 4000000
namespace My
open PySem L2
def top (i : Nat) : Stmt := PySem.Challenge.pw_widenrows_k08_whole_ways_are_passed.main.body.getD i (.Pass ⟨0, 0, 0, 0⟩)
abbrev sGoes : Stmt := top 3
abbrev sTargets : Stmt := top 4
abbrev sWays : Stmt := top 5
abbrev sCell : Stmt := top 35
abbrev sDraws : Stmt := top 36
abbrev sRow : Stmt := top 37
abbrev sProg : Stmt := top 38
abbrev sLed : Stmt := top 39
abbrev sCome : Stmt := top 40
abbrev sHome : Stmt := top 41
abbrev sLaw : Stmt := top 42

theorem bt_list : bootBuiltins "list" = some (.type "list") := by decide +kernel
theorem bt_tuple : bootBuiltins "tuple" = some (.type "tuple") := by decide +kernel
theorem bt_set : bootBuiltins "set" = some (.type "set") := by decide +kernel
theorem bt_len : bootBuiltins "len" = some (.builtin "len") := by decide +kernel
theorem bt_sorted : bootBuiltins "sorted" = some (.builtin "sorted") := by decide +kernel
theorem at0 {α : Type} (a : α) (r : List α) : atI (a :: r) 0 = some a := atI_nat (j := 0) rfl
theorem at1 {α : Type} (a b : α) (r : List α) : atI (a :: b :: r) 1 = some b := atI_nat (j := 1) rfl
theorem at2 {α : Type} (a b c : α) (r : List α) : atI (a :: b :: c :: r) 2 = some c := atI_nat (j := 2) rfl
theorem strEq {a b : Str} (h : decide (V.str a = V.str b) = true) : a = b := V.str.inj (of_decide_eq_true h)
theorem strNe {a b : Str} (h : ¬ decide (V.str a = V.str b) = true) : ¬ a = b := fun e => h (by rw [e]; exact decide_eq_true rfl)
/-! ### words -/
theorem inV_str (w : Str) : ∀ ss : List Str, inV (.str w) (ss.map V.str) = decide (w ∈ ss)
  | [] => rfl
  | x :: r => by
    have ih := inV_str w r
    unfold inV at ih ⊢
    rw [List.map_cons, List.any_cons, ih]
    show ((x == w) || _) = _
    by_cases h : x = w
    · subst h
      simp
    · have h' : ¬ w = x := fun e => h e.symm
      simp [h, h']
def notOn : List Str := ["stop", "back", "halt", "jump"]
def jcm : List Str := ["jump", "call", "mark"]
def zb : List Str := ["zero", "below"]
/-- what a row's own parts tell of its targets -/
def Parts (H : Hp) (w : Str) (items : List V) (ts : List Int) : Prop :=
  if w = "table" then ∃ (b : V) (q : Addr), items = [b, .ref q] ∧ H q = some (.tup (ts.map V.int))
  else if w ∈ jcm then ∃ (t f : Int), items = [.int t, .int f] ∧ ts = [t]
  else if w ∈ zb then ∃ (b : V) (t f : Int), items = [b, .int t, .int f] ∧ ts = [t] else ts = []
/-- a row at r: its word, its targets -/
def RowAt (H : Hp) (r : Addr) (w : Str) (ts : List Int) : Prop := ∃ items, H r = some (.tup (.str w :: items)) ∧ Parts H w items ts
theorem Parts.same {H H' : Hp} {w : Str} {items : List V} {ts : List Int} (e : Same H H') (h : Parts H w items ts) : Parts H' w items ts := by
  unfold Parts at h ⊢
  split
  · rename_i h1
    rw [if_pos h1] at h
    obtain ⟨b, q, h2, h3⟩ := h
    exact ⟨b, q, h2, e _ _ h3⟩
  · rename_i h1
    rw [if_neg h1] at h
    exact h
theorem RowAt.same {H H' : Hp} {r : Addr} {w : Str} {ts : List Int} (e : Same H H') (h : RowAt H r w ts) : RowAt H' r w ts := by
  obtain ⟨items, h1, h2⟩ := h
  exact ⟨items, e _ _ h1, h2.same e⟩
theorem same_new {H : Hp} {l : Addr} {o : HO} (h : H l = none) : Same H (upd H l o) := fun b u e => by
  rw [upd_ne (ne_of_none e h)]
  exact e
/-- what the walk asks of the module -/
structure Txt (K : PySem.W.Frag) (mg : Str → Option Value) : Prop where
  non : ∃ p, mg "NOT_GOING_ON" = some (.ref p) ∧ ∀ H, SqT K H p (notOn.map V.str)
  len : mg "len" = none
  list : mg "list" = none
  sorted : mg "sorted" = none
  set : mg "set" = none
  range : mg "range" = none
  tuple : mg "tuple" = none
  isi : mg "isinstance" = none
  dict : mg "dict" = none
  bool : mg "bool" = none
  intb : PySem.W.kitOne K (.type "int") (.type "bool") = some false
section
variable {P : Program} {w : World} {K : PySem.W.Frag} {mg : Str → Option Value} {base : Heap}
/-! ### goes_on -/
def spGoes : Sp := fun vs H Q _ => ∃ (r : Addr) (w : Str) (items : List V), vs = [.ref r] ∧ H r = some (.tup (.str w :: items)) ∧ Q (.bl (!decide (w ∈ notOn))) H
theorem scGoes : FnScope ["row"] ["row"] (defScope sGoes) := ⟨rfl, rfl, rfl, by decide +kernel, rfl, by decide +kernel, by decide +kernel⟩
theorem ok_goes {f : Addr} {fd : FuncData} (F : Fun K "goes_on" "goes_on" sGoes f fd) (T : Txt K mg) : FnOk P w K mg base CX0 1 f fd ["row"] spGoes := by
  refine F.ok scGoes (fun vs H Q E h => ?_) (fun cdv A outer s H vs Q E hr h => ?_)
  · obtain ⟨r, w, items, rfl, _⟩ := h
    rfl
  · obtain ⟨r, w', items, rfl, hR, k⟩ := h
    obtain ⟨p, hp, hq⟩ := T.non
    refine ⟨_, pss_one (ps_ret (pe_cmpR op_notIn_seq (pe_ix ix_tup (pv 0) pe_int (fun _ _ => rfl)) (pe_glob (v := .ref p) rfl hp rfl) rfl)), ?_⟩
    refine ⟨_, rfl, r, _, 0, .str w', rfl, rfl, SqT.of hR, at0 _ _, p, _, rfl, .inr (hq _), rfl, rfl, ?_⟩
    show Q (.bl (!inV (.str w') (notOn.map V.str))) H
    rw [inV_str]
    exact k
/-! ### targets_of -/
def spTargets : Sp := fun vs H Q _ => ∃ (r : Addr) (w : Str) (ts : List Int), vs = [.ref r] ∧ RowAt H r w ts ∧ ∀ (l : Addr) (H' : Hp), Same H H' → H l = none → H' l = some (.lst (ts.map V.int)) → Q (.ref l) H'
theorem scTargets : FnScope ["row", "word"] ["row"] (defScope sTargets) := ⟨rfl, rfl, rfl, by decide +kernel, rfl, by decide +kernel, by decide +kernel⟩
theorem ok_targets {f : Addr} {fd : FuncData} (F : Fun K "targets_of" "targets_of" sTargets f fd) (T : Txt K mg) : FnOk P w K mg base CX0 1 f fd ["row"] spTargets := by
  refine F.ok scTargets (fun vs H Q E h => ?_) (fun cdv A outer s H vs Q E hr h => ?_)
  · obtain ⟨r, w, ts, rfl, _⟩ := h
    rfl
  · obtain ⟨r, w', ts, rfl, ⟨items, hR, hP⟩, k⟩ := h
    refine ⟨_, pss_cons (ps_set (i := 1) scTargets.nd rfl (Or.inl rfl) (pe_ix ix_tup (pv 0) pe_int (fun _ _ => rfl)))
      (pss_cons (ps_if (pt_cmpR op_eq (pv 1) pe_str (nomark _)) (pss_one (ps_ret (pe_callTy call_list_of (by rfl) T.list bt_list (pa_cons (pe_ix ix_tup (pv 0) pe_int (fun _ _ => rfl)) pa_nil)))) pss_nil)
      (pss_cons (ps_if (pt_cmpR op_in_seq (pv 1) (pe_tup (pa_cons pe_str (pa_cons pe_str (pa_cons pe_str pa_nil)))) rfl) (pss_one (ps_ret (pe_lst (pa_cons (pe_ix ix_tup (pv 0) pe_int (fun _ _ => rfl)) pa_nil)))) pss_nil)
      (pss_cons (ps_if (pt_cmpR op_in_seq (pv 1) (pe_tup (pa_cons pe_str (pa_cons pe_str pa_nil))) rfl) (pss_one (ps_ret (pe_lst (pa_cons (pe_ix ix_tup (pv 0) pe_int (fun _ _ => rfl)) pa_nil)))) pss_nil)
      (pss_one (ps_ret (pe_lst pa_nil)))))), ?_⟩
    refine ⟨_, rfl, r, _, 0, .str w', rfl, rfl, SqT.of hR, at0 _ _, _, rfl, rfl, _, rfl, ?_⟩
    refine ite2 (fun h1 => ?_) (fun h1 => ?_)
    · have h1 := strEq h1
      unfold Parts at hP
      rw [if_pos h1] at hP
      obtain ⟨b, q, rfl, hq⟩ := hP
      refine ⟨_, rfl, r, _, 2, .ref q, rfl, rfl, SqT.of hR, at2 _ _ _ _, q, _, rfl, .inr (SqT.of hq), fun l hl => ?_⟩
      exact k l _ (same_new hl) hl upd_same
    · have h1 := strNe h1
      unfold Parts at hP
      rw [if_neg h1] at hP
      refine ⟨_, rfl, (by show 3 ≤ sizeLine; decide), fun t ht => ⟨t, jcm.map V.str, rfl, .inr (SqT.of upd_same), rfl, rfl, _, rfl, ?_⟩⟩
      have s1 := same_new (o := .tup (jcm.map V.str)) ht
      have hR1 := s1 _ _ hR
      rw [show inV (.str w') (jcm.map V.str) = decide (w' ∈ jcm) from inV_str _ _]
      refine ite2 (fun h2 => ?_) (fun h2 => ?_)
      · have h2 := of_decide_eq_true h2
        rw [if_pos h2] at hP
        obtain ⟨t', f', rfl, rfl⟩ := hP
        refine ⟨_, rfl, r, _, 1, .int t', rfl, rfl, SqT.of hR1, at1 _ _ _, (by show 1 ≤ sizeLine; decide), fun l hl => ?_⟩
        exact k l _ (s1.trans (same_new hl)) (s1.free hl) upd_same
      · have h2 : ¬ w' ∈ jcm := fun e => h2 (decide_eq_true e)
        rw [if_neg h2] at hP
        refine ⟨_, rfl, (by show 2 ≤ sizeLine; decide), fun t2 ht2 => ⟨t2, zb.map V.str, rfl, .inr (SqT.of upd_same), rfl, rfl, _, rfl, ?_⟩⟩
        have s2 := s1.trans (same_new (o := .tup (zb.map V.str)) ht2)
        have hR2 := s2 _ _ hR
        rw [show inV (.str w') (zb.map V.str) = decide (w' ∈ zb) from inV_str _ _]
        refine ite2 (fun h3 => ?_) (fun h3 => ?_)
        · have h3 := of_decide_eq_true h3
          rw [if_pos h3] at hP
          obtain ⟨b, t', f', rfl, rfl⟩ := hP
          refine ⟨_, rfl, r, _, 2, .int t', rfl, rfl, SqT.of hR2, at2 _ _ _ _, (by show 1 ≤ sizeLine; decide), fun l hl => ?_⟩
          exact k l _ (s2.trans (same_new hl)) (s2.free hl) upd_same
        · have h3 : ¬ w' ∈ zb := fun e => h3 (decide_eq_true e)
          rw [if_neg h3] at hP
          subst hP
          refine ⟨(by show 0 ≤ sizeLine; decide), fun l hl => ?_⟩
          exact k l _ (s2.trans (same_new hl)) (s2.free hl) upd_same
/-! ### ways_of -/
def spWays : Sp := fun vs H Q _ => ∃ (p q : Addr) (rows : List V) (r : Nat) (w : Str) (ts : List Int), vs = [.ref p, .int r] ∧ SqL K H p rows ∧ rows[r]? = some (.ref q) ∧ RowAt H q w ts ∧ ts.length ≤ 16 ∧
  ∀ (l : Addr) (ms : List Int) (H' : Hp), Same H H' → H l = none → H' l = some (.lst (ms.map V.int)) → ms.Pairwise (· ≤ ·) → ms.Nodup → (∀ j, j ∈ ms ↔ j ∈ ts ∨ (¬ w ∈ notOn ∧ j = r + 1)) → Q (.ref l) H'
theorem scWays : FnScope ["rows", "r", "ways"] ["rows", "r"] (defScope sWays) := ⟨rfl, rfl, rfl, by decide +kernel, rfl, by decide +kernel, by decide +kernel⟩
theorem ok_ways {f fG fT : Addr} {fd fdG fdT : FuncData} (F : Fun K "ways_of" "ways_of" sWays f fd) (T : Txt K mg) (FG : Fun K "goes_on" "goes_on" sGoes fG fdG) (bG : Binds K fdG ["row"] []) (mG : mg "goes_on" = some (.ref fG))
    (FT : Fun K "targets_of" "targets_of" sTargets fT fdT) (bT : Binds K fdT ["row"] []) (mT : mg "targets_of" = some (.ref fT)) : FnOk P w K mg base CX0 2 f fd ["rows", "r"] (spWays (K := K)) := by
  have GG : FnOk P w K mg base CX0 1 fG fdG ["row"] spGoes := ok_goes FG T
  have GT : FnOk P w K mg base CX0 1 fT fdT ["row"] spTargets := ok_targets FT T
  refine F.ok scWays (fun vs H Q E h => ?_) (fun cdv A outer s H vs Q E hr h => ?_)
  · obtain ⟨p, q, rows, r, w, ts, rfl, _⟩ := h
    rfl
  · obtain ⟨p, q, rows, r, w', ts, rfl, hS, hq, hR, hlen, k⟩ := h
    refine ⟨_, pss_cons (ps_set (i := 2) scWays.nd rfl (Or.inl rfl) (pe_call GT hr rfl mT FT.kp bT .nil pass0 (pa_cons (pe_ix ix_list (pv 0) (pv 1) (fun _ _ => rfl)) pa_nil)))
      (pss_cons (ps_if (pt_val (pe_call GG hr rfl mG FG.kp bG .nil pass0 (pa_cons (pe_ix ix_list (pv 0) (pv 1) (fun _ _ => rfl)) pa_nil)))
        (pss_one (ps_expr (pe_bm PySem.F.plainAttrs_list PySem.F.slot_list_append PySem.F.type_list_append mt_append (pv 2) (pa_cons (pe_op op_add (pv 1) pe_int) pa_nil)))) pss_nil)
      (pss_one (ps_ret (pe_callB (call_sorted_of rfl) (by rfl) T.sorted bt_sorted (pa_cons (pe_callTy (call_set_of rfl) (by rfl) T.set bt_set (pa_cons (pv 2) pa_nil)) pa_nil))))), ?_⟩
    refine ⟨_, rfl, _, rfl, p, rows, r, .ref q, rfl, rfl, hS, atI_nat hq, q, w', ts, rfl, hR, fun l H1 s1 nl hl => ?_⟩
    have hS1 := s1.seq hS
    obtain ⟨items, hq1, _⟩ := hR.same s1
    refine ⟨_, rfl, _, rfl, p, rows, r, .ref q, rfl, rfl, hS1, atI_nat hq, q, w', items, rfl, hq1, _, rfl, ?_⟩
    -- the end: a set of the list, sorted
    have fin : ∀ (ns : List Int) (H2 : Hp), Same H H2 → H2 l = some (.lst (ns.map V.int)) → ns.length ≤ 17 → (∀ j, j ∈ ns ↔ j ∈ ts ∨ (¬ w' ∈ notOn ∧ j = r + 1)) →
        ∃ v, [some (V.ref p), some (V.int r), some (V.ref l)][2]? = some (some v) ∧ ∃ (p' : Addr) (ns' : List Int), [v] = [V.ref p'] ∧ SqL K H2 p' (ns'.map V.int) ∧ ns'.length < 4000 ∧ ∀ (l' : Addr) (us : List Int), H2 l' = none → us.length ≤ ns'.length → us.Nodup → (∀ j, j ∈ us ↔ j ∈ ns') →
          ∃ (p2 : Addr) (us2 : List Int), [V.ref l'] = [V.ref p2] ∧ (upd H2 l' (setO P w l' us)) p2 = some (setO P w p2 us2) ∧ us2.length < 64 ∧ ∀ (l2 : Addr) (ms : List Int), (upd H2 l' (setO P w l' us)) l2 = none → ms.Perm us2 → ms.Pairwise (· ≤ ·) → Q (.ref l2) (upd (upd H2 l' (setO P w l' us)) l2 (.lst (ms.map V.int))) := by
      intro ns H2 s2 h2 hl2 hm
      refine ⟨_, rfl, l, ns, rfl, SqL.of h2, by omega, fun l' us nl' hu hnd hmu => ⟨l', us, rfl, upd_same, by omega, fun l2 ms nl2 hp hpw => ?_⟩⟩
      have s3 := s2.trans (same_new (o := setO P w l' us) nl')
      exact k l2 ms _ (s3.trans (same_new nl2)) (s3.free nl2) upd_same hpw (hp.nodup_iff.mpr hnd) (fun j => by rw [hp.mem_iff, hmu, hm])
    refine ite2 (fun h1 => ?_) (fun h1 => ?_)
    · have h1 : ¬ w' ∈ notOn := by simpa using h1
      refine ⟨_, rfl, .inl ⟨rfl, _, SqL.of hl⟩, _, rfl, _, _, rfl, rfl, l, _, _, rfl, rfl, hl, ?_, ?_⟩
      · rw [List.length_map]
        exact small1000 (by omega)
      · have e : (ts.map V.int ++ [V.int ((r : Int) + 1)]) = (ts ++ [(r : Int) + 1]).map V.int := by simp
        rw [e]
        refine fin (ts ++ [(r : Int) + 1]) _ ?_ upd_same (by simp; omega) (fun j => ?_)
        · intro b o z
          rw [upd_ne (ne_of_none z nl)]
          exact s1 b o z
        · rw [List.mem_append, List.mem_singleton]
          exact ⟨fun z => z.imp id fun e => ⟨h1, e⟩, fun z => z.imp id fun e => e.2⟩
    · have h1 : w' ∈ notOn := by simpa using h1
      refine fin ts _ s1 hl (by omega) (fun j => ⟨.inl, fun z => z.elim id fun e => absurd h1 e.1⟩)
end
end My

set_option Elab.async false
set_option linter.all false
set_option maxRecDepth 100000
set_option maxHeartbeats 4000000
namespace My
open PySem L2
section
variable {P : Program} {w : World} {K : PySem.W.Frag} {mg : Str → Option Value} {base : Heap}
/-! ### a cell of the script: some int -/
def spCell : Sp := fun vs H Q _ => ∃ (a : Addr) (ns : List Int) (k : Int), vs = [.ref a, .int k] ∧ SqL K H a (ns.map V.int) ∧ 0 ≤ k ∧ ∀ c : Int, Q (.int c) H
theorem scCell : FnScope ["_law_script", "_law_k"] ["_law_script", "_law_k"] (defScope sCell) := ⟨rfl, rfl, rfl, by decide +kernel, rfl, by decide +kernel, by decide +kernel⟩
theorem ok_cell {f : Addr} {fd : FuncData} (F : Fun K "_law_cell_at" "_law_cell_at" sCell f fd) (T : Txt K mg) : FnOk P w K mg base CX0 1 f fd ["_law_script", "_law_k"] (spCell (K := K)) := by
  refine F.ok scCell (fun vs H Q E h => ?_) (fun cdv A outer s H vs Q E hr h => ?_)
  · obtain ⟨a, ns, k, rfl, _⟩ := h
    rfl
  · obtain ⟨a, ns, k, rfl, hS, hk, q⟩ := h
    refine ⟨_, pss_cons (ps_if (pt_cmpR op_lt (pv 1) (pe_callB call_len_seq (by rfl) T.len bt_len (pa_cons (pv 0) pa_nil)) (nomark _)) (pss_one (ps_ret (pe_ix ix_list (pv 0) (pv 1) (fun _ _ => rfl)))) pss_nil)
      (pss_one (ps_ret pe_int)), ?_⟩
    refine ⟨_, rfl, _, rfl, a, _, rfl, .inl hS, _, _, rfl, rfl, _, rfl, ?_⟩
    refine ite2 (fun h1 => ?_) (fun h1 => ?_)
    · have h1 := of_decide_eq_true h1
      rw [List.length_map] at h1
      obtain ⟨j, rfl⟩ := Int.eq_ofNat_of_zero_le hk
      have hj : j < ns.length := by omega
      refine ⟨_, rfl, _, rfl, a, _, _, .int ns[j], rfl, rfl, hS, atI_nat (j := j) ?_, q _⟩
      rw [List.getElem?_map, List.getElem?_eq_getElem hj]
      rfl
    · exact q 0
/-! ### draws: as many ints -/
def spDraws : Sp := fun vs H Q _ => ∃ (c k m : Int), vs = [.int c, .int k, .int m] ∧ 0 ≤ m ∧ m ≤ 100 ∧
  ∀ (l : Addr) (xs : List Int) (H' : Hp), Same H H' → H l = none → H' l = some (.lst (xs.map V.int)) → xs.length = m.toNat → Q (.ref l) H'
theorem scDraws : FnScope ["_law_cell", "_law_k", "_law_many", "_law_found", "_law_rest", "_law_j", "_law_number"] ["_law_cell", "_law_k", "_law_many"] (defScope sDraws) := ⟨rfl, rfl, rfl, by decide +kernel, rfl, by decide +kernel, by decide +kernel⟩
theorem snoc_int (xs : List Int) (y : Int) : xs.map V.int ++ [V.int y] = (xs ++ [y]).map V.int := by simp
theorem same_put {H H1 : Hp} {l : Addr} {o : HO} (e : Same H H1) (h : H l = none) : Same H (upd H1 l o) := fun b u z => by
  rw [upd_ne (ne_of_none z h)]
  exact e b u z
theorem ok_draws {f : Addr} {fd : FuncData} (F : Fun K "_law_draws" "_law_draws" sDraws f fd) (T : Txt K mg) : FnOk P w K mg base CX0 1 f fd ["_law_cell", "_law_k", "_law_many"] spDraws := by
  refine F.ok scDraws (fun vs H Q E h => ?_) (fun cdv A outer s H vs Q E hr h => ?_)
  · obtain ⟨c, k, m, rfl, _⟩ := h
    rfl
  · obtain ⟨c, k, m, rfl, hm0, hm1, q⟩ := h
    refine ⟨_, pss_cons (ps_set (i := 3) scDraws.nd rfl (Or.inl rfl) (pe_lst pa_nil))
      (pss_cons (ps_if (pt_cmpR op_ge (pv 0) (pe_op op_pow pe_int pe_int) (nomark _))
        (pss_cons (ps_set (i := 4) scDraws.nd rfl (Or.inl rfl) (pv 0))
        (pss_cons (ps_for PassesOwn.never rfl (pi_range1 rfl T.range (pa_cons (pv 2) pa_nil)) (pg_name (i := 5) scDraws.nd rfl (Or.inl rfl))
          (pss_cons (ps_expr (pe_bm PySem.F.plainAttrs_list PySem.F.slot_list_append PySem.F.type_list_append mt_append (pv 3) (pa_cons (pe_op op_mod (pv 4) (pe_op op_pow pe_int pe_int)) pa_nil)))
          (pss_one (ps_set (i := 4) scDraws.nd rfl (Or.inl rfl) (pe_op op_fdiv (pv 4) (pe_op op_pow pe_int pe_int))))))
        (pss_one (ps_ret (pv 3))))) pss_nil)
      (pss_cons (ps_set (i := 6) scDraws.nd rfl (Or.inl rfl) (pe_op op_mod (pe_op op_mul (pe_op op_add (pe_op op_add (pe_op op_mod (pv 0) pe_int) (pe_op op_mul pe_int (pv 1))) pe_int) pe_int) pe_int))
      (pss_cons (ps_for PassesOwn.never rfl (pi_range1 rfl T.range (pa_cons (pv 2) pa_nil)) (pg_name (i := 5) scDraws.nd rfl (Or.inl rfl))
        (pss_cons (ps_set (i := 6) scDraws.nd rfl (Or.inl rfl) (pe_op op_mod (pe_op op_mul (pe_op op_add (pv 6) (pv 5)) (pe_op op_add (pe_op op_fdiv (pe_op op_add (pv 6) (pv 5)) pe_int) pe_int)) pe_int))
        (pss_one (ps_expr (pe_bm PySem.F.plainAttrs_list PySem.F.slot_list_append PySem.F.type_list_append mt_append (pv 3) (pa_cons (pe_op op_mod (pe_op op_mul (pv 6) (pe_op op_add (pe_op op_fdiv (pv 6) pe_int) pe_int)) pe_int) pa_nil))))))
      (pss_one (ps_ret (pv 3)))))), ?_⟩
    refine ⟨(by show 0 ≤ sizeLine; decide), fun l nl => ?_⟩
    refine ⟨_, rfl, _, _, rfl, rfl, ⟨by decide, by decide, by decide⟩, _, _, rfl, rfl, _, rfl, ?_⟩
    refine ite2 (fun h1 => ?_) (fun h1 => ?_)
    · refine ⟨_, rfl, _, rfl, m, rfl, by omega, by omega, for_range (n := m.toNat) (fun i σ H2 => ∃ (xs : List Int) (rest : Int) (v : Option V),
          σ = [some (.int c), some (.int k), some (.int m), some (.ref l), some (.int rest), v, none] ∧ Same H H2 ∧ H2 l = some (.lst (xs.map V.int)) ∧ xs.length = i) ?_ ?_ ?_⟩
      · exact ⟨[], c, none, rfl, same_new nl, upd_same, rfl⟩
      · rintro i σ H2 hi ⟨xs, rest, v, rfl, s2, h2, hx⟩
        refine ⟨_, rfl, .inl ⟨rfl, _, SqL.of h2⟩, _, rfl, _, _, rfl, rfl, ⟨by decide, by decide, by decide⟩, _, _, rfl, rfl, (by show (0 : Int) < 10 ^ Int.toNat 6; decide), l, _, _, rfl, rfl, h2, ?_, ?_⟩
        · rw [List.length_map]
          exact small1000 (by omega)
        · refine ⟨_, rfl, _, _, rfl, rfl, ⟨by decide, by decide, by decide⟩, _, _, rfl, rfl, ⟨by decide, by decide⟩, ?_⟩
          rw [snoc_int]
          exact ⟨xs ++ [_], _, _, rfl, same_put s2 nl, upd_same, by simp [hx]⟩
      · rintro σ H2 ⟨xs, rest, v, rfl, s2, h2, hx⟩
        exact ⟨_, rfl, q l xs H2 s2 nl h2 hx⟩
    · refine ⟨_, rfl, _, _, rfl, rfl, (by show (0 : Int) < 2147483647; decide), _, rfl, _, _, rfl, rfl, .inl ⟨by decide, by decide⟩, _, _, rfl, rfl, _, _, rfl, rfl, _, _, rfl, rfl, .inr ⟨by decide, by decide⟩, _, _, rfl, rfl, (by show (0 : Int) < 2147483647; decide), ?_⟩
      refine ⟨_, rfl, m, rfl, by omega, by omega, for_range (n := m.toNat) (fun i σ H2 => ∃ (xs : List Int) (num : Int) (v : Option V),
          σ = [some (.int c), some (.int k), some (.int m), some (.ref l), none, v, some (.int num)] ∧ Same H H2 ∧ H2 l = some (.lst (xs.map V.int)) ∧ xs.length = i ∧ 0 ≤ num ∧ num < 2147483647) ?_ ?_ ?_⟩
      · exact ⟨[], _, none, rfl, same_new nl, upd_same, rfl, Int.emod_nonneg _ (by decide), Int.emod_lt_of_pos _ (by decide)⟩
      · rintro i σ H2 hi ⟨xs, num, v, rfl, s2, h2, hx, n0, n1⟩
        have hi' : (i : Int) < 100 := by omega
        refine ⟨_, rfl, _, rfl, _, _, rfl, rfl, _, rfl, _, rfl, _, _, rfl, rfl, _, _, rfl, rfl, ⟨by decide, by decide⟩, _, _, rfl, rfl, _, _, rfl, rfl, .inl ⟨by omega, by omega⟩, _, _, rfl, rfl, (by show (0 : Int) < 2147483647; decide), ?_⟩
        dsimp only
        have b0 := Int.emod_nonneg ((num + (0 + (i : Int))) * ((num + (0 + (i : Int))) / 1009 + 69621)) (show (2147483647 : Int) ≠ 0 by decide)
        have b1 := Int.emod_lt_of_pos ((num + (0 + (i : Int))) * ((num + (0 + (i : Int))) / 1009 + 69621)) (show (0 : Int) < 2147483647 by decide)
        generalize ((num + (0 + (i : Int))) * ((num + (0 + (i : Int))) / 1009 + 69621)) % 2147483647 = nn at b0 b1 ⊢
        refine ⟨_, rfl, .inl ⟨rfl, _, SqL.of h2⟩, _, rfl, _, rfl, _, _, rfl, rfl, ⟨by decide, by decide⟩, _, _, rfl, rfl, _, _, rfl, rfl, .inl ⟨by omega, by omega⟩, _, _, rfl, rfl, (by show (0 : Int) < 2147483629; decide), l, _, _, rfl, rfl, h2, ?_, ?_⟩
        · rw [List.length_map]
          exact small1000 (by omega)
        · rw [snoc_int]
          exact ⟨xs ++ [_], nn, _, rfl, same_put s2 nl, upd_same, by simp [hx], b0, b1⟩
      · rintro σ H2 ⟨xs, num, v, rfl, s2, h2, hx, _, _⟩
        exact ⟨_, rfl, q l xs H2 s2 nl h2 hx⟩
end
end My

set_option Elab.async false
set_option linter.all false
set_option maxRecDepth 100000
set_option maxHeartbeats 8000000
namespace My
open PySem L2
theorem at_mod {α : Type} (l : List α) (c : Int) (h : (0 : Int) < l.length) : ∃ a ∈ l, atI l (c % (l.length : Int)) = some a := by
  have h0 := Int.emod_nonneg c (Int.ne_of_gt h)
  have h1 := Int.emod_lt_of_pos c h
  obtain ⟨j, hj⟩ := Int.eq_ofNat_of_zero_le h0
  rw [hj]
  have hlt : j < l.length := by omega
  exact ⟨l[j], List.getElem_mem hlt, atI_nat (List.getElem?_eq_getElem hlt)⟩
theorem at_two (a b : Int) (c : Int) : ∃ v, (v = a ∨ v = b) ∧ atI [V.int a, V.int b] (c % 2) = some (V.int v) := by
  obtain ⟨v, m, h⟩ := at_mod [V.int a, V.int b] c (by show (0 : Int) < 2; decide)
  rcases List.mem_cons.mp m with rfl | m
  · exact ⟨a, .inl rfl, h⟩
  · rw [List.mem_singleton.mp m] at h
    exact ⟨b, .inr rfl, h⟩
def Bx (b : Int) : Prop := 0 ≤ b ∧ b < 8
theorem bx_two {x b : Int} (h : b = x % 2 ∨ b = x % 8) : Bx b := by
  have h1 := Int.emod_nonneg x (show (2 : Int) ≠ 0 by decide)
  have h2 := Int.emod_lt_of_pos x (show (0 : Int) < 2 by decide)
  have h3 := Int.emod_nonneg x (show (8 : Int) ≠ 0 by decide)
  have h4 := Int.emod_lt_of_pos x (show (0 : Int) < 8 by decide)
  unfold Bx
  omega
/-- what stands behind a row's word -/
def Shape (u : Str) (items : List V) : Prop :=
  (u ∈ (["stop", "back"] : List Str) ∧ items = []) ∨ (u = "halt" ∧ ∃ v : Int, items = [.int v]) ∨ (u ∈ (["set", "more"] : List Str) ∧ ∃ b v : Int, Bx b ∧ items = [.int b, .int v]) ∨
  (u ∈ (["copy", "add", "less", "load", "keep"] : List Str) ∧ ∃ b c : Int, Bx b ∧ Bx c ∧ items = [.int b, .int c]) ∨ (u = "tell" ∧ ∃ b : Int, Bx b ∧ items = [.int b]) ∨
  (u ∈ (["see", "put", "take"] : List Str) ∧ ∃ b v : Int, Bx b ∧ items = [.int b, .int v]) ∨ (u ∈ jcm ∧ ∃ t f : Int, items = [.int t, .int f]) ∨
  (u ∈ zb ∧ ∃ b t f : Int, Bx b ∧ items = [.int b, .int t, .int f]) ∨ (u = "table" ∧ ∃ (b : Int) (q : Addr), Bx b ∧ items = [.int b, .ref q])
def ShapeAt (H : Hp) (q : Addr) (u : Str) : Prop := ∃ items, H q = some (.tup (.str u :: items)) ∧ Shape u items
def all20 : List Str := ["stop", "back", "halt", "set", "more", "copy", "add", "less", "load", "keep", "tell", "see", "put", "take", "jump", "zero", "below", "call", "mark", "table"]
theorem parts_plain {H : Hp} {w : Str} {items : List V} (h : ¬ w = "table" ∧ ¬ w ∈ jcm ∧ ¬ w ∈ zb) : Parts H w items [] := by
  unfold Parts
  rw [if_neg h.1, if_neg h.2.1, if_neg h.2.2]
theorem parts_zb {H : Hp} {w : Str} {b : V} {t f : Int} (h : ¬ w = "table" ∧ ¬ w ∈ jcm ∧ w ∈ zb) : Parts H w [b, .int t, .int f] [t] := by
  unfold Parts
  rw [if_neg h.1, if_neg h.2.1, if_pos h.2.2]
  exact ⟨b, t, f, rfl, rfl⟩
theorem parts_jcm {H : Hp} {w : Str} {t f : Int} (h : ¬ w = "table" ∧ w ∈ jcm) : Parts H w [.int t, .int f] [t] := by
  unfold Parts
  rw [if_neg h.1, if_pos h.2]
  exact ⟨t, f, rfl, rfl⟩
theorem parts_table {H : Hp} {w : Str} {b : V} {q : Addr} {ts : List Int} (h : w = "table") (hq : H q = some (.tup (ts.map V.int))) : Parts H w [b, .ref q] ts := by
  unfold Parts
  rw [if_pos h]
  exact ⟨b, q, rfl, hq⟩
section
variable {P : Program} {w : World} {K : PySem.W.Frag} {mg : Str → Option Value} {base : Heap}
/-! ### a row of draws -/
def spRow : Sp := fun vs H Q _ => ∃ (x : Addr) (xs : List Int) (n : Int) (ws : Addr) (words : List Str), vs = [.ref x, .int n, .ref ws] ∧ H x = some (.lst (xs.map V.int)) ∧ xs.length = 25 ∧ 0 < n ∧ H ws = some (.lst (words.map V.str)) ∧
  0 < words.length ∧ (∀ u ∈ words, u ∈ all20) ∧ ∀ (q : Addr) (u : Str) (ts : List Int) (H' : Hp), Same H H' → H q = none → u ∈ words → RowAt H' q u ts → ShapeAt H' q u → (∀ t ∈ ts, 0 ≤ t ∧ t < n) → ts.length ≤ 16 → Q (.ref q) H'
theorem scRow : FnScope ["_law_xs", "_law_size", "_law_words", "_law_word", "_law_box", "_law_other", "_law_wide", "_law_target"] ["_law_xs", "_law_size", "_law_words"] (defScope sRow) := ⟨rfl, rfl, rfl, by decide +kernel, rfl, by decide +kernel, by decide +kernel⟩
def cScRow : Scope := { kind := .function, names := [(".0", .local), ("_law_j", .local), ("_law_size", .free), ("_law_xs", .free)], isGenerator := false, isCoroutine := false, more := [] }
theorem scRowC : CompSc (defScope sRow) cScRow ["_law_xs", "_law_size", "_law_words", "_law_word", "_law_box", "_law_other", "_law_wide", "_law_target"] ["_law_j", "_law_xs", "_law_size"] [none, some 0, some 1] :=
  ⟨rfl, by decide +kernel, by decide +kernel, by decide +kernel, by decide +kernel, by decide +kernel⟩
theorem ok_row {f : Addr} {fd : FuncData} (F : Fun K "_law_row" "_law_row" sRow f fd) (T : Txt K mg) : FnOk P w K mg base CX0 1 f fd ["_law_xs", "_law_size", "_law_words"] spRow := by
  refine F.ok scRow (fun vs H Q E h => ?_) (fun cdv A outer s H vs Q E hr h => ?_)
  · obtain ⟨x, xs, n, ws, words, rfl, _⟩ := h
    rfl
  · obtain ⟨x, xs, n, ws, words, rfl, hx, hlen, hn, hw, hwl0, hall, k⟩ := h
    have hat : ∀ i : Nat, i < 25 → atI (xs.map V.int) (i : Int) = some (V.int (xs.getD i 0)) := fun i hi => by
      refine atI_nat ?_
      have hi' : i < xs.length := by omega
      rw [List.getElem?_map, List.getElem?_eq_getElem hi', List.getD_eq_getElem?_getD, List.getElem?_eq_getElem hi']
      rfl
    have hwl : (0 : Int) < ((words.map V.str).length : Int) := by rw [List.length_map]; omega
    obtain ⟨v, hv, hwd⟩ := at_mod (words.map V.str) (xs.getD 0 0) hwl
    obtain ⟨wd, hwm, rfl⟩ := List.mem_map.mp hv
    refine ⟨_, (pss_cons (ps_set (i := 3) scRow.nd rfl (Or.inl rfl) (pe_ix ix_list (pv 2) (pe_op op_mod (pe_ix ix_list (pv 0) pe_int (fun _ _ => rfl)) (pe_callB call_len_seq (by rfl) T.len bt_len (pa_cons (pv 2) pa_nil))) (fun _ _ => rfl)))
      (pss_cons (ps_set (i := 4) scRow.nd rfl (Or.inl rfl) (pe_ix ix_list (pe_lst (pa_cons (pe_op op_mod (pe_ix ix_list (pv 0) pe_int (fun _ _ => rfl)) pe_int) (pa_cons (pe_op op_mod (pe_ix ix_list (pv 0) pe_int (fun _ _ => rfl)) pe_int) pa_nil))) (pe_op op_mod (pe_ix ix_list (pv 0) pe_int (fun _ _ => rfl)) pe_int) (fun _ _ => rfl)))
      (pss_cons (ps_set (i := 5) scRow.nd rfl (Or.inl rfl) (pe_ix ix_list (pe_lst (pa_cons (pe_op op_mod (pe_ix ix_list (pv 0) pe_int (fun _ _ => rfl)) pe_int) (pa_cons (pe_op op_mod (pe_ix ix_list (pv 0) pe_int (fun _ _ => rfl)) pe_int) pa_nil))) (pe_op op_mod (pe_op op_fdiv (pe_ix ix_list (pv 0) pe_int (fun _ _ => rfl)) pe_int) pe_int) (fun _ _ => rfl)))
      (pss_cons (ps_set (i := 6) scRow.nd rfl (Or.inl rfl) (pe_op op_add (pe_op op_mul (pe_ix ix_list (pv 0) pe_int (fun _ _ => rfl)) (pe_op op_pow pe_int pe_int)) (pe_ix ix_list (pv 0) pe_int (fun _ _ => rfl))))
      (pss_cons (ps_set (i := 7) scRow.nd rfl (Or.inl rfl) (pe_op op_mod (pe_ix ix_list (pv 0) pe_int (fun _ _ => rfl)) (pv 1)))
      (pss_cons (ps_if (pt_cmpR op_in_seq (pv 3) (pe_tup (pa_cons pe_str (pa_cons pe_str pa_nil))) rfl) (pss_one (ps_ret (pe_tup (pa_cons (pv 3) pa_nil)))) pss_nil)
      (pss_cons (ps_if (pt_cmpR op_in_seq (pv 3) (pe_tup (pa_cons pe_str (pa_cons pe_str pa_nil))) rfl) (pss_one (ps_ret (pe_tup (pa_cons (pv 3) (pa_cons (pv 4) (pa_cons (pe_ix ix_list (pe_lst (pa_cons (pe_op op_sub (pe_op op_mod (pe_ix ix_list (pv 0) pe_int (fun _ _ => rfl)) pe_int) pe_int) (pa_cons (pe_op op_sub (pe_op op_mod (pv 6) (pe_op op_add (pe_op op_mul pe_int (pe_op op_pow pe_int pe_int)) pe_int)) (pe_op op_pow pe_int pe_int)) pa_nil))) (pe_op op_mod (pe_ix ix_list (pv 0) pe_int (fun _ _ => rfl)) pe_int) (fun _ _ => rfl)) pa_nil)))))) pss_nil)
      (pss_cons (ps_if (pt_cmpR op_in_seq (pv 3) (pe_tup (pa_cons pe_str (pa_cons pe_str (pa_cons pe_str (pa_cons pe_str (pa_cons pe_str pa_nil)))))) rfl) (pss_one (ps_ret (pe_tup (pa_cons (pv 3) (pa_cons (pv 4) (pa_cons (pv 5) pa_nil)))))) pss_nil)
      (pss_cons (ps_if (pt_cmpR op_eq (pv 3) pe_str (nomark _)) (pss_one (ps_ret (pe_tup (pa_cons (pv 3) (pa_cons (pv 4) pa_nil))))) pss_nil)
      (pss_cons (ps_if (pt_cmpR op_eq (pv 3) pe_str (nomark _)) (pss_one (ps_ret (pe_tup (pa_cons (pv 3) (pa_cons (pe_op op_mod (pv 6) (pe_op op_add (pe_op op_pow pe_int pe_int) pe_int)) pa_nil))))) pss_nil)
      (pss_cons (ps_if (pt_cmpR op_in_seq (pv 3) (pe_tup (pa_cons pe_str (pa_cons pe_str (pa_cons pe_str pa_nil)))) rfl) (pss_one (ps_ret (pe_tup (pa_cons (pv 3) (pa_cons (pv 4) (pa_cons (pe_ix ix_list (pe_lst (pa_cons (pe_op op_mod (pe_ix ix_list (pv 0) pe_int (fun _ _ => rfl)) pe_int) (pa_cons (pe_op op_mod (pv 6) (pe_op op_add (pe_op op_pow pe_int pe_int) pe_int)) pa_nil))) (pe_op op_mod (pe_ix ix_list (pv 0) pe_int (fun _ _ => rfl)) pe_int) (fun _ _ => rfl)) pa_nil)))))) pss_nil)
      (pss_cons (ps_if (pt_cmpR op_in_seq (pv 3) (pe_tup (pa_cons pe_str (pa_cons pe_str pa_nil))) rfl) (pss_one (ps_ret (pe_tup (pa_cons (pv 3) (pa_cons (pv 4) (pa_cons (pv 7) (pa_cons (pe_op op_mod (pe_ix ix_list (pv 0) pe_int (fun _ _ => rfl)) pe_int) pa_nil))))))) pss_nil)
      (pss_cons (ps_if (pt_cmpR op_eq (pv 3) pe_str (nomark _)) (pss_one (ps_ret (pe_tup (pa_cons (pv 3) (pa_cons (pv 4) (pa_cons (pe_callTy call_tuple_of (by rfl) T.tuple bt_tuple (pa_cons (pe_comp (N' := ["_law_j", "_law_xs", "_law_size"]) (fr := [none, some 0, some 1]) scRowC rfl (pi_range1 rfl T.range (pa_cons (pe_op op_add pe_int (pe_op op_mod (pe_ix ix_list (pv 0) pe_int (fun _ _ => rfl)) pe_int)) pa_nil)) (fun C s0 H0 fp => pg_name (i := 0) scRowC.nd rfl (Or.inl rfl)) (fun C s0 H0 fp => pts_nil) (fun C s0 H0 fp => pe_op op_mod (pe_ix (r := rIxL K) ix_list (pv 1) (pe_op op_add pe_int (pv 0)) (fun _ _ => rfl)) (pv 2))) pa_nil)) pa_nil)))))) pss_nil)
      (pss_one (ps_ret (pe_tup (pa_cons (pv 3) (pa_cons (pv 7) (pa_cons (pe_op op_mod (pe_ix ix_list (pv 0) pe_int (fun _ _ => rfl)) pe_int) pa_nil))))))))))))))))))), ?_⟩
    refine ⟨_, rfl, _, rfl, x, _, _, .int (xs.getD 0 0), rfl, rfl, SqL.of hx, hat 0 (by decide), _, rfl, ws, _, rfl, .inl (SqL.of hw), _, _, rfl, rfl, hwl, ws, _, _, .str wd, rfl, rfl, SqL.of hw, hwd, ?_⟩
    refine ⟨_, rfl, x, _, _, .int (xs.getD 1 0), rfl, rfl, SqL.of hx, hat 1 (by decide), _, _, rfl, rfl, (by show (0 : Int) < 2; decide), _, rfl, x, _, _, .int (xs.getD 1 0), rfl, rfl, SqL.of hx, hat 1 (by decide), _, _, rfl, rfl, (by show (0 : Int) < 8; decide), (by show 2 ≤ sizeLine; decide), fun l1 n1 => ?_⟩
    have s1 := same_new (o := .lst [V.int (xs.getD 1 0 % 2), V.int (xs.getD 1 0 % 8)]) n1
    obtain ⟨bx, hbx0, hbx⟩ := at_two (xs.getD 1 0 % 2) (xs.getD 1 0 % 8) (xs.getD 8 0)
    refine ⟨_, rfl, x, _, _, .int (xs.getD 8 0), rfl, rfl, SqL.of (s1 _ _ hx), hat 8 (by decide), _, _, rfl, rfl, (by show (0 : Int) < 2; decide), l1, _, _, .int bx, rfl, rfl, SqL.of upd_same, hbx, ?_⟩
    refine ⟨_, rfl, x, _, _, .int (xs.getD 2 0), rfl, rfl, SqL.of (s1 _ _ hx), hat 2 (by decide), _, _, rfl, rfl, (by show (0 : Int) < 2; decide), _, rfl, x, _, _, .int (xs.getD 2 0), rfl, rfl, SqL.of (s1 _ _ hx), hat 2 (by decide), _, _, rfl, rfl, (by show (0 : Int) < 8; decide), (by show 2 ≤ sizeLine; decide), fun l2 n2 => ?_⟩
    have s2 := s1.trans (same_new (o := .lst [V.int (xs.getD 2 0 % 2), V.int (xs.getD 2 0 % 8)]) n2)
    obtain ⟨bo, hbo0, hbo⟩ := at_two (xs.getD 2 0 % 2) (xs.getD 2 0 % 8) (xs.getD 8 0 / 2)
    refine ⟨_, rfl, x, _, _, .int (xs.getD 8 0), rfl, rfl, SqL.of (s2 _ _ hx), hat 8 (by decide), _, _, rfl, rfl, ⟨by decide, by decide⟩, _, _, rfl, rfl, (by show (0 : Int) < 2; decide), l2, _, _, .int bo, rfl, rfl, SqL.of upd_same, hbo, ?_⟩
    refine ⟨_, rfl, x, _, _, .int (xs.getD 3 0), rfl, rfl, SqL.of (s2 _ _ hx), hat 3 (by decide), _, _, rfl, rfl, ⟨by decide, by decide, by decide⟩, _, _, rfl, rfl, .inr ⟨by decide, by decide⟩, _, rfl, x, _, _, .int (xs.getD 4 0), rfl, rfl, SqL.of (s2 _ _ hx), hat 4 (by decide), _, _, rfl, rfl, ?_⟩
    refine ⟨_, rfl, x, _, _, .int (xs.getD 6 0), rfl, rfl, SqL.of (s2 _ _ hx), hat 6 (by decide), _, rfl, _, _, rfl, rfl, hn, ?_⟩
    have hb := bx_two hbx0
    have ho := bx_two hbo0
    have tg0 := Int.emod_nonneg (xs.getD 6 0) (Int.ne_of_gt hn)
    have tg1 := Int.emod_lt_of_pos (xs.getD 6 0) hn
    refine ⟨_, rfl, (by show 2 ≤ sizeLine; decide), fun t3 m3 => ⟨t3, (["stop", "back"] : List Str).map V.str, rfl, .inr (SqT.of upd_same), rfl, rfl, _, rfl, ?_⟩⟩
    have s3 := s2.trans (same_new (o := .tup ((["stop", "back"] : List Str).map V.str)) m3)
    rw [show inV (.str wd) ((["stop", "back"] : List Str).map V.str) = decide (wd ∈ (["stop", "back"] : List Str)) from inV_str _ _]
    refine ite2 (fun c3 => ?_) (fun c3 => ?_)
    · have c3 := of_decide_eq_true c3
      refine ⟨_, rfl, (by show 1 ≤ sizeLine; decide), fun q nq => ?_⟩
      exact k q wd [] _ (s3.trans (same_new nq)) (s3.free nq) hwm ⟨_, upd_same, parts_plain ((by decide +kernel : ∀ u ∈ (["stop", "back"] : List Str), ¬ u = "table" ∧ ¬ u ∈ jcm ∧ ¬ u ∈ zb) wd c3)⟩ ⟨_, upd_same, .inl ⟨c3, rfl⟩⟩ (fun t ht => absurd ht (by simp)) (by simp)
    · have c3 : ¬ wd ∈ (["stop", "back"] : List Str) := fun e => c3 (decide_eq_true e)
      refine ⟨_, rfl, (by show 2 ≤ sizeLine; decide), fun t4 m4 => ⟨t4, (["set", "more"] : List Str).map V.str, rfl, .inr (SqT.of upd_same), rfl, rfl, _, rfl, ?_⟩⟩
      have s4 := s3.trans (same_new (o := .tup ((["set", "more"] : List Str).map V.str)) m4)
      rw [show inV (.str wd) ((["set", "more"] : List Str).map V.str) = decide (wd ∈ (["set", "more"] : List Str)) from inV_str _ _]
      refine ite2 (fun c4 => ?_) (fun c4 => ?_)
      · have c4 := of_decide_eq_true c4
        obtain ⟨bv, _, hbv⟩ := at_two (xs.getD 3 0 % 7 - 3) ((xs.getD 3 0 * 10 ^ Int.toNat 6 + xs.getD 4 0) % (2 * 10 ^ Int.toNat 9 + 1) - 10 ^ Int.toNat 9) (xs.getD 5 0)
        refine ⟨_, rfl, _, rfl, _, rfl, x, _, _, .int (xs.getD 3 0), rfl, rfl, SqL.of (s4 _ _ hx), hat 3 (by decide), _, _, rfl, rfl, (by show (0 : Int) < 7; decide), _, _, rfl, rfl, _, rfl, _, _, rfl, rfl, ⟨by decide, by decide, by decide⟩, _, _, rfl, rfl, .inl ⟨by decide, by decide⟩, _, _, rfl, rfl, _, _, rfl, rfl, (by show (0 : Int) < 2 * 10 ^ Int.toNat 9 + 1; decide), _, _, rfl, rfl, ⟨by decide, by decide, by decide⟩, _, _, rfl, rfl, (by show 2 ≤ sizeLine; decide), fun lv nv => ?_⟩
        have sv := s4.trans (same_new (o := .lst [V.int (xs.getD 3 0 % 7 - 3), V.int ((xs.getD 3 0 * 10 ^ Int.toNat 6 + xs.getD 4 0) % (2 * 10 ^ Int.toNat 9 + 1) - 10 ^ Int.toNat 9)]) nv)
        refine ⟨_, rfl, x, _, _, .int (xs.getD 5 0), rfl, rfl, SqL.of (sv _ _ hx), hat 5 (by decide), _, _, rfl, rfl, (by show (0 : Int) < 2; decide), lv, _, _, .int bv, rfl, rfl, SqL.of upd_same, hbv, (by show 3 ≤ sizeLine; decide), fun q nq => ?_⟩
        exact k q wd [] _ (sv.trans (same_new nq)) (sv.free nq) hwm ⟨_, upd_same, parts_plain ((by decide +kernel : ∀ u ∈ (["set", "more"] : List Str), ¬ u = "table" ∧ ¬ u ∈ jcm ∧ ¬ u ∈ zb) wd c4)⟩ ⟨_, upd_same, .inr (.inr (.inl ⟨c4, _, _, hb, rfl⟩))⟩ (fun t ht => absurd ht (by simp)) (by simp)
      · have c4 : ¬ wd ∈ (["set", "more"] : List Str) := fun e => c4 (decide_eq_true e)
        refine ⟨_, rfl, (by show 5 ≤ sizeLine; decide), fun t5 m5 => ⟨t5, (["copy", "add", "less", "load", "keep"] : List Str).map V.str, rfl, .inr (SqT.of upd_same), rfl, rfl, _, rfl, ?_⟩⟩
        have s5 := s4.trans (same_new (o := .tup ((["copy", "add", "less", "load", "keep"] : List Str).map V.str)) m5)
        rw [show inV (.str wd) ((["copy", "add", "less", "load", "keep"] : List Str).map V.str) = decide (wd ∈ (["copy", "add", "less", "load", "keep"] : List Str)) from inV_str _ _]
        refine ite2 (fun c5 => ?_) (fun c5 => ?_)
        · have c5 := of_decide_eq_true c5
          refine ⟨_, rfl, _, rfl, _, rfl, (by show 3 ≤ sizeLine; decide), fun q nq => ?_⟩
          exact k q wd [] _ (s5.trans (same_new nq)) (s5.free nq) hwm ⟨_, upd_same, parts_plain ((by decide +kernel : ∀ u ∈ (["copy", "add", "less", "load", "keep"] : List Str), ¬ u = "table" ∧ ¬ u ∈ jcm ∧ ¬ u ∈ zb) wd c5)⟩ ⟨_, upd_same, .inr (.inr (.inr (.inl ⟨c5, _, _, hb, ho, rfl⟩)))⟩ (fun t ht => absurd ht (by simp)) (by simp)
        · have c5 : ¬ wd ∈ (["copy", "add", "less", "load", "keep"] : List Str) := fun e => c5 (decide_eq_true e)
          refine ⟨_, rfl, rfl, _, rfl, ?_⟩
          refine ite2 (fun c6 => ?_) (fun c6 => ?_)
          · have c6 := strEq c6
            refine ⟨_, rfl, _, rfl, (by show 2 ≤ sizeLine; decide), fun q nq => ?_⟩
            exact k q wd [] _ (s5.trans (same_new nq)) (s5.free nq) hwm ⟨_, upd_same, parts_plain (by rw [c6]; decide +kernel)⟩ ⟨_, upd_same, .inr (.inr (.inr (.inr (.inl ⟨c6, _, hb, rfl⟩))))⟩ (fun t ht => absurd ht (by simp)) (by simp)
          · have c6 := strNe c6
            refine ⟨_, rfl, rfl, _, rfl, ?_⟩
            refine ite2 (fun c7 => ?_) (fun c7 => ?_)
            · have c7 := strEq c7
              refine ⟨_, rfl, _, rfl, _, _, rfl, rfl, ⟨by decide, by decide, by decide⟩, _, _, rfl, rfl, _, _, rfl, rfl, (by show (0 : Int) < 10 ^ Int.toNat 6 + 1; decide), (by show 2 ≤ sizeLine; decide), fun q nq => ?_⟩
              exact k q wd [] _ (s5.trans (same_new nq)) (s5.free nq) hwm ⟨_, upd_same, parts_plain (by rw [c7]; decide +kernel)⟩ ⟨_, upd_same, .inr (.inl ⟨c7, _, rfl⟩)⟩ (fun t ht => absurd ht (by simp)) (by simp)
            · have c7 := strNe c7
              refine ⟨_, rfl, (by show 3 ≤ sizeLine; decide), fun t8 m8 => ⟨t8, (["see", "put", "take"] : List Str).map V.str, rfl, .inr (SqT.of upd_same), rfl, rfl, _, rfl, ?_⟩⟩
              have s8 := s5.trans (same_new (o := .tup ((["see", "put", "take"] : List Str).map V.str)) m8)
              rw [show inV (.str wd) ((["see", "put", "take"] : List Str).map V.str) = decide (wd ∈ (["see", "put", "take"] : List Str)) from inV_str _ _]
              refine ite2 (fun c8 => ?_) (fun c8 => ?_)
              · have c8 := of_decide_eq_true c8
                obtain ⟨bv, _, hbv⟩ := at_two (xs.getD 3 0 % 3) ((xs.getD 3 0 * 10 ^ Int.toNat 6 + xs.getD 4 0) % (10 ^ Int.toNat 6 + 1)) (xs.getD 5 0)
                refine ⟨_, rfl, _, rfl, _, rfl, x, _, _, .int (xs.getD 3 0), rfl, rfl, SqL.of (s8 _ _ hx), hat 3 (by decide), _, _, rfl, rfl, (by show (0 : Int) < 3; decide), _, rfl, _, _, rfl, rfl, ⟨by decide, by decide, by decide⟩, _, _, rfl, rfl, _, _, rfl, rfl, (by show (0 : Int) < 10 ^ Int.toNat 6 + 1; decide), (by show 2 ≤ sizeLine; decide), fun lv nv => ?_⟩
                have sv := s8.trans (same_new (o := .lst [V.int (xs.getD 3 0 % 3), V.int ((xs.getD 3 0 * 10 ^ Int.toNat 6 + xs.getD 4 0) % (10 ^ Int.toNat 6 + 1))]) nv)
                refine ⟨_, rfl, x, _, _, .int (xs.getD 5 0), rfl, rfl, SqL.of (sv _ _ hx), hat 5 (by decide), _, _, rfl, rfl, (by show (0 : Int) < 2; decide), lv, _, _, .int bv, rfl, rfl, SqL.of upd_same, hbv, (by show 3 ≤ sizeLine; decide), fun q nq => ?_⟩
                exact k q wd [] _ (sv.trans (same_new nq)) (sv.free nq) hwm ⟨_, upd_same, parts_plain ((by decide +kernel : ∀ u ∈ (["see", "put", "take"] : List Str), ¬ u = "table" ∧ ¬ u ∈ jcm ∧ ¬ u ∈ zb) wd c8)⟩ ⟨_, upd_same, .inr (.inr (.inr (.inr (.inr (.inl ⟨c8, _, _, hb, rfl⟩)))))⟩ (fun t ht => absurd ht (by simp)) (by simp)
              · have c8 : ¬ wd ∈ (["see", "put", "take"] : List Str) := fun e => c8 (decide_eq_true e)
                refine ⟨_, rfl, (by show 2 ≤ sizeLine; decide), fun t9 m9 => ⟨t9, (["zero", "below"] : List Str).map V.str, rfl, .inr (SqT.of upd_same), rfl, rfl, _, rfl, ?_⟩⟩
                have s9 := s8.trans (same_new (o := .tup ((["zero", "below"] : List Str).map V.str)) m9)
                rw [show inV (.str wd) ((["zero", "below"] : List Str).map V.str) = decide (wd ∈ (["zero", "below"] : List Str)) from inV_str _ _]
                refine ite2 (fun c9 => ?_) (fun c9 => ?_)
                · have c9 := of_decide_eq_true c9
                  refine ⟨_, rfl, _, rfl, _, rfl, _, rfl, x, _, _, .int (xs.getD 7 0), rfl, rfl, SqL.of (s9 _ _ hx), hat 7 (by decide), _, _, rfl, rfl, (by show (0 : Int) < 2; decide), (by show 4 ≤ sizeLine; decide), fun q nq => ?_⟩
                  exact k q wd [xs.getD 6 0 % n] _ (s9.trans (same_new nq)) (s9.free nq) hwm ⟨_, upd_same, parts_zb ((by decide +kernel : ∀ u ∈ (["zero", "below"] : List Str), ¬ u = "table" ∧ ¬ u ∈ jcm ∧ u ∈ zb) wd c9)⟩ ⟨_, upd_same, .inr (.inr (.inr (.inr (.inr (.inr (.inr (.inl ⟨c9, _, _, _, hb, rfl⟩)))))))⟩ (fun t ht => by rw [List.mem_singleton.mp ht]; exact ⟨tg0, tg1⟩) (by simp)
                · have c9 : ¬ wd ∈ (["zero", "below"] : List Str) := fun e => c9 (decide_eq_true e)
                  refine ⟨_, rfl, rfl, _, rfl, ?_⟩
                  refine ite2 (fun c10 => ?_) (fun c10 => ?_)
                  · have c10 := strEq c10
                    have r0 := Int.emod_nonneg (xs.getD 7 0) (show (16 : Int) ≠ 0 by decide)
                    have r1 := Int.emod_lt_of_pos (xs.getD 7 0) (show (0 : Int) < 16 by decide)
                    refine ⟨_, rfl, _, rfl, _, rfl, x, _, _, .int (xs.getD 7 0), rfl, rfl, SqL.of (s9 _ _ hx), hat 7 (by decide), _, _, rfl, rfl, (by show (0 : Int) < 16; decide), _, _, rfl, rfl, 1 + xs.getD 7 0 % 16, rfl, by omega, by omega, fun D nD => comp_range (n := (1 + xs.getD 7 0 % 16).toNat) (fun i σ ys H2 => ∃ (ts : List Int) (v : Option V), σ = [v, some (.ref x), some (.int n)] ∧ ys = ts.map V.int ∧ ts.length = i ∧ (∀ t ∈ ts, 0 ≤ t ∧ t < n) ∧ Same H H2 ∧ H2 D = some (.lst ys)) ?_ ?_ ?_⟩
                    · exact ⟨[], none, rfl, rfl, rfl, fun t ht => absurd ht (by simp), same_put s9 (s9.free nD), upd_same⟩
                    · rintro i σ ys H2 hi ⟨ts, v, rfl, rfl, hl, ht, s2', hD⟩
                      have hi' : 9 + i < 25 := by omega
                      have e9 : (9 : Int) + (0 + (i : Int)) = ((9 + i : Nat) : Int) := by omega
                      refine ⟨_, rfl, _, rfl, _, _, rfl, rfl, x, _, _, .int (xs.getD (9 + i) 0), rfl, rfl, SqL.of (s2' _ _ hx), (by rw [e9]; exact hat (9 + i) hi'), _, rfl, _, _, rfl, rfl, hn, hD, ?_, ?_⟩
                      · rw [List.length_map]; exact small1000 (by omega)
                      · refine ⟨ts ++ [xs.getD (9 + i) 0 % n], _, rfl, snoc_int _ _, by simp [hl], fun t h => ?_, same_put s2' (s9.free nD), upd_same⟩
                        rcases List.mem_append.mp h with h | h
                        · exact ht t h
                        · rw [List.mem_singleton.mp h]; exact ⟨Int.emod_nonneg _ (Int.ne_of_gt hn), Int.emod_lt_of_pos _ hn⟩
                    · rintro σ ys H2 ⟨ts, v, rfl, rfl, hl, ht, s2', hD⟩
                      refine ⟨D, ts.map V.int, rfl, .inl ⟨SqL.of hD, fun tq ntq => ⟨(by show 3 ≤ sizeLine; decide), fun q nq => ?_⟩⟩⟩
                      have st := s2'.trans (same_new (o := .tup (ts.map V.int)) ntq)
                      refine k q wd ts _ (st.trans (same_new nq)) (st.free nq) hwm ⟨_, upd_same, parts_table c10 ?_⟩ ⟨_, upd_same, .inr (.inr (.inr (.inr (.inr (.inr (.inr (.inr (⟨c10, _, _, hb, rfl⟩))))))))⟩ ht (by omega)
                      exact same_new nq _ _ upd_same
                  · have c10 := strNe c10
                    have cj : wd ∈ jcm := by
                      have z := (by decide +kernel : ∀ u ∈ all20, u ∈ (["stop", "back"] : List Str) ∨ u ∈ (["set", "more"] : List Str) ∨ u ∈ (["copy", "add", "less", "load", "keep"] : List Str) ∨ u = "tell" ∨ u = "halt" ∨ u ∈ (["see", "put", "take"] : List Str) ∨ u ∈ (["zero", "below"] : List Str) ∨ u = "table" ∨ u ∈ jcm) wd (hall wd hwm)
                      rcases z with z | z | z | z | z | z | z | z | z
                      · exact absurd z c3
                      · exact absurd z c4
                      · exact absurd z c5
                      · exact absurd z c6
                      · exact absurd z c7
                      · exact absurd z c8
                      · exact absurd z c9
                      · exact absurd z c10
                      · exact z
                    refine ⟨_, rfl, _, rfl, _, rfl, x, _, _, .int (xs.getD 7 0), rfl, rfl, SqL.of (s9 _ _ hx), hat 7 (by decide), _, _, rfl, rfl, (by show (0 : Int) < 2; decide), (by show 3 ≤ sizeLine; decide), fun q nq => ?_⟩
                    exact k q wd [xs.getD 6 0 % n] _ (s9.trans (same_new nq)) (s9.free nq) hwm ⟨_, upd_same, parts_jcm ⟨c10, cj⟩⟩ ⟨_, upd_same, .inr (.inr (.inr (.inr (.inr (.inr (.inl ⟨cj, _, _, rfl⟩))))))⟩ (fun t ht => by rw [List.mem_singleton.mp ht]; exact ⟨tg0, tg1⟩) (by simp)
end
end My

set_option Elab.async false
set_option linter.all false
set_option maxRecDepth 100000
set_option maxHeartbeats 8000000
namespace My
open PySem L2
/-- rows are tuples: what keeps these keeps rows -/
def SameT (H H' : Hp) : Prop := ∀ b xs, H b = some (.tup xs) → H' b = some (.tup xs)
theorem SameT.of {H H' : Hp} (e : Same H H') : SameT H H' := fun b xs h => e b _ h
theorem SameT.trans {H H1 H2 : Hp} (a : SameT H H1) (b : SameT H1 H2) : SameT H H2 := fun c xs h => b c xs (a c xs h)
theorem SameT.lst {H : Hp} {l : Addr} {xs : List V} {o : HO} (h : H l = some (.lst xs)) : SameT H (upd H l o) := fun b ys e => by
  rw [upd_ne (ne_of e h (by intro z; cases z))]
  exact e
theorem RowAt.tups {H H' : Hp} {r : Addr} {u : Str} {ts : List Int} (e : SameT H H') (h : RowAt H r u ts) : RowAt H' r u ts := by
  obtain ⟨items, h1, h2⟩ := h
  refine ⟨items, e _ _ h1, ?_⟩
  unfold Parts at h2 ⊢
  split
  · rename_i h3
    rw [if_pos h3] at h2
    obtain ⟨b, q, h4, h5⟩ := h2
    exact ⟨b, q, h4, e _ _ h5⟩
  · rename_i h3
    rw [if_neg h3] at h2
    exact h2
/-- a row whose targets are rows of n -/
def RowOk (H : Hp) (q : Addr) (n : Int) (u : Str) : Prop := ∃ ts, RowAt H q u ts ∧ (∀ t ∈ ts, 0 ≤ t ∧ t < n) ∧ ts.length ≤ 16
theorem RowOk.tups {H H' : Hp} {q : Addr} {n : Int} {u : Str} (e : SameT H H') (h : RowOk H q n u) : RowOk H' q n u := by
  obtain ⟨ts, h1, h2⟩ := h
  exact ⟨ts, h1.tups e, h2⟩
section
variable {P : Program} {w : World} {K : PySem.W.Frag} {mg : Str → Option Value} {base : Heap}
def spProg : Sp := fun vs H Q _ => ∃ (a : Addr) (ns : List Int) (k m : Int) (ws : Addr) (words : List Str), vs = [.ref a, .int k, .int m, .ref ws] ∧ SqL K H a (ns.map V.int) ∧ 0 ≤ k ∧ 0 < m ∧ m ≤ 100 ∧ H ws = some (.lst (words.map V.str)) ∧ 0 < words.length ∧ (∀ u ∈ words, u ∈ all20) ∧
  ∀ (l : Addr) (rows : List Addr) (H' : Hp), Same H H' → H l = none → H' l = some (.lst (rows.map V.ref)) → 0 < rows.length → (rows.length : Int) ≤ m → (∀ (i : Nat) q, rows[i]? = some q → ∃ u, RowOk H' q rows.length u ∧ (i + 1 = rows.length → u ∈ notOn)) → Q (.ref l) H'
theorem scProg : FnScope ["_law_script", "_law_at", "_law_most", "_law_words", "_law_size", "_law_rows", "_law_k", "_law_xs"] ["_law_script", "_law_at", "_law_most", "_law_words"] (defScope sProg) := ⟨rfl, rfl, rfl, by decide +kernel, rfl, by decide +kernel, by decide +kernel⟩
theorem ok_prog {f fC fD fR : Addr} {fd fdC fdD fdR : FuncData} (F : Fun K "_law_program" "_law_program" sProg f fd) (T : Txt K mg) (FC : Fun K "_law_cell_at" "_law_cell_at" sCell fC fdC) (bC : Binds K fdC ["_law_script", "_law_k"] []) (mC : mg "_law_cell_at" = some (.ref fC))
    (FD : Fun K "_law_draws" "_law_draws" sDraws fD fdD) (bD : Binds K fdD ["_law_cell", "_law_k", "_law_many"] []) (mD : mg "_law_draws" = some (.ref fD)) (FR : Fun K "_law_row" "_law_row" sRow fR fdR) (bR : Binds K fdR ["_law_xs", "_law_size", "_law_words"] []) (mR : mg "_law_row" = some (.ref fR)) :
    FnOk P w K mg base CX0 2 f fd ["_law_script", "_law_at", "_law_most", "_law_words"] (spProg (K := K)) := by
  have GC : FnOk P w K mg base CX0 1 fC fdC ["_law_script", "_law_k"] (spCell (K := K)) := ok_cell FC T
  have GD : FnOk P w K mg base CX0 1 fD fdD ["_law_cell", "_law_k", "_law_many"] spDraws := ok_draws FD T
  have GR : FnOk P w K mg base CX0 1 fR fdR ["_law_xs", "_law_size", "_law_words"] spRow := ok_row FR T
  refine F.ok scProg (fun vs H Q E h => ?_) (fun cdv A outer s H vs Q E hr h => ?_)
  · obtain ⟨a, ns, k, m, ws, words, rfl, _⟩ := h
    rfl
  · obtain ⟨a, ns, k, m, ws, words, rfl, hS, hk, hm, hm1, hw, hwl, hall, q⟩ := h
    refine ⟨_, pss_cons (ps_set (i := 4) scProg.nd rfl (Or.inl rfl) (pe_op op_add pe_int (pe_op op_mod (pe_call GC hr rfl mC FC.kp bC .nil pass0 (pa_cons (pv 0) (pa_cons (pv 1) pa_nil))) (pv 2))))
      (pss_cons (ps_set (i := 5) scProg.nd rfl (Or.inl rfl) (pe_lst pa_nil))
      (pss_cons (ps_for PassesOwn.never rfl (pi_range1 rfl T.range (pa_cons (pv 4) pa_nil)) (pg_name (i := 6) scProg.nd rfl (Or.inl rfl))
        (pss_one (ps_expr (pe_bm PySem.F.plainAttrs_list PySem.F.slot_list_append PySem.F.type_list_append mt_append (pv 5) (pa_cons
          (pe_call GR hr rfl mR FR.kp bR .nil pass0 (pa_cons (pe_call GD hr rfl mD FD.kp bD .nil pass0 (pa_cons (pe_call GC hr rfl mC FC.kp bC .nil pass0 (pa_cons (pv 0) (pa_cons (pe_op op_add (pe_op op_add (pv 1) pe_int) (pv 6)) pa_nil))) (pa_cons (pv 6) (pa_cons pe_int pa_nil)))) (pa_cons (pv 4) (pa_cons (pv 3) pa_nil)))) pa_nil)))))
      (pss_cons (ps_if (pt_cmpR op_notIn_seq (pe_ix ix_tup (pe_ix ix_list (pv 5) (pe_un un_neg pe_int) (fun _ _ => rfl)) pe_int (fun _ _ => rfl)) (pe_tup (pa_cons pe_str (pa_cons pe_str (pa_cons pe_str (pa_cons pe_str pa_nil))))) rfl)
        (pss_cons (ps_set (i := 7) scProg.nd rfl (Or.inl rfl) (pe_call GD hr rfl mD FD.kp bD .nil pass0 (pa_cons (pe_call GC hr rfl mC FC.kp bC .nil pass0 (pa_cons (pv 0) (pa_cons (pe_op op_add (pv 1) (pv 4)) pa_nil))) (pa_cons pe_int (pa_cons pe_int pa_nil)))))
        (pss_one (ps_asg (pe_call GR hr rfl mR FR.kp bR .nil pass0 (pa_cons (pv 7) (pa_cons (pv 4) (pa_cons (pe_lst (pa_cons pe_str (pa_cons pe_str (pa_cons pe_str (pa_cons pe_str pa_nil))))) pa_nil)))) (pg_sub (pv 5) (pe_un un_neg pe_int) set_list)))) pss_nil)
      (pss_one (ps_ret (pv 5)))))), ?_⟩
    refine ⟨_, rfl, _, rfl, a, ns, k, rfl, hS, hk, fun c => ?_⟩
    refine ⟨_, rfl, _, _, rfl, rfl, hm, _, _, rfl, rfl, ?_⟩
    have c0 := Int.emod_nonneg c (Int.ne_of_gt hm)
    have c1 := Int.emod_lt_of_pos c hm
    dsimp only
    generalize hn : 1 + c % m = n
    have n0 : 0 < n := by omega
    have n1 : n ≤ 100 := by omega
    have n2 : n ≤ m := by omega
    refine ⟨(by show 0 ≤ sizeLine; decide), fun l nl => ?_⟩
    refine ⟨_, rfl, n, rfl, by omega, by omega, for_range (n := n.toNat) (fun i σ H2 => ∃ (rs : List Addr) (v : Option V),
        σ = [some (.ref a), some (.int k), some (.int m), some (.ref ws), some (.int n), some (.ref l), v, none] ∧ Same H H2 ∧ H2 l = some (.lst (rs.map V.ref)) ∧ rs.length = i ∧ ∀ q ∈ rs, ∃ u, RowOk H2 q n u) ?_ ?_ ?_⟩
    · exact ⟨[], none, rfl, same_new nl, upd_same, rfl, fun q h => absurd h (by simp)⟩
    · rintro i σ H2 hi ⟨rs, v, rfl, s2, h2, hl2, ok2⟩
      refine ⟨_, rfl, .inl ⟨rfl, _, SqL.of h2⟩, _, rfl, _, rfl, _, _, rfl, rfl, _, rfl, _, _, rfl, rfl, a, ns, _, rfl, s2.seq hS, by omega, fun c2 => ?_⟩
      refine ⟨_, rfl, _, _, 25, rfl, by decide, by decide, fun ld xs H3 s3 nld hld hlen => ?_⟩
      have s23 := s2.trans s3
      refine ⟨_, rfl, _, rfl, ld, xs, n, ws, words, rfl, hld, hlen, n0, s23 _ _ hw, hwl, hall, fun q4 u ts H4 s4 nq hu hR _ ht hlt => ?_⟩
      have s24 := s3.trans s4
      have h4 := s24 _ _ h2
      refine ⟨l, _, _, rfl, rfl, h4, ?_, ?_⟩
      · rw [List.length_map]
        exact small1000 (by omega)
      · have e : rs.map V.ref ++ [V.ref q4] = (rs ++ [q4]).map V.ref := by simp
        rw [e]
        have tt : SameT H4 (upd H4 l (.lst ((rs ++ [q4]).map V.ref))) := SameT.lst h4
        refine ⟨rs ++ [q4], _, rfl, same_put (s2.trans s24) nl, upd_same, by simp [hl2], fun q5 h5 => ?_⟩
        rcases List.mem_append.mp h5 with h5 | h5
        · obtain ⟨u5, o5⟩ := ok2 q5 h5
          exact ⟨u5, o5.tups ((SameT.of s24).trans tt)⟩
        · rw [List.mem_singleton.mp h5]
          exact ⟨u, (show RowOk H4 q4 n u from ⟨ts, hR, ht, hlt⟩).tups tt⟩
    · rintro σ H2 ⟨rs, v, rfl, s2, h2, hl2, ok2⟩
      obtain ⟨rs', ql, rfl⟩ : ∃ rs' ql, rs = rs' ++ [ql] := by
        rcases List.eq_nil_or_concat rs with e | ⟨rs', ql, e⟩
        · rw [e] at hl2
          simp at hl2
          omega
        · exact ⟨rs', ql, by simpa using e⟩
      have hlen : ((rs' ++ [ql]).length : Int) = n := by omega
      obtain ⟨u, ts, ⟨items, hq, hP⟩, ht, hlt⟩ := ok2 ql (by simp)
      have e2 : (rs' ++ [ql]).map V.ref = rs'.map V.ref ++ [V.ref ql] := by simp
      refine ⟨_, rfl, _, rfl, l, _, _, .ref ql, rfl, rfl, SqL.of h2, (by rw [e2]; exact atI_last _ _), ql, _, _, .str u, rfl, rfl, SqT.of hq, at0 _ _, (by show 4 ≤ sizeLine; decide), fun t1 m1 => ⟨t1, notOn.map V.str, rfl, .inr (SqT.of upd_same), rfl, rfl, _, rfl, ?_⟩⟩
      have s3 := same_new (o := .tup (notOn.map V.str)) m1
      rw [show (if true = true then !inV (.str u) (notOn.map V.str) else inV (.str u) (notOn.map V.str)) = !decide (u ∈ notOn) from by rw [if_pos rfl, inV_str]]
      have nth : ∀ (i : Nat) q5, (rs' ++ [ql])[i]? = some q5 → q5 ∈ rs' ++ [ql] := fun i q5 h => List.mem_of_getElem? h
      refine ite2 (fun h1 => ?_) (fun h1 => ?_)
      · refine ⟨_, rfl, _, rfl, _, rfl, _, _, rfl, rfl, a, ns, _, rfl, (s2.trans s3).seq hS, by omega, fun c2 => ?_⟩
        refine ⟨_, _, 25, rfl, by decide, by decide, fun ld xs H4 s4 nld hld hlen4 => ?_⟩
        refine ⟨_, rfl, _, rfl, (by show 4 ≤ sizeLine; decide), fun lw nlw => ?_⟩
        have s5 := same_new (o := .lst (notOn.map V.str)) nlw
        refine ⟨ld, xs, n, lw, notOn, rfl, s5 _ _ hld, hlen4, n0, upd_same, by decide, (by decide +kernel), fun q6 u6 ts6 H6 s6 nq6 hu6 hR6 _ ht6 hlt6 => ?_⟩
        have s36 := s3.trans (s4.trans (s5.trans s6))
        have h6 := s36 _ _ h2
        refine ⟨_, rfl, _, rfl, l, _, _, rs'.length, rfl, rfl, h6, ?_, ?_⟩
        · rw [e2]
          unfold ixN
          rw [if_neg (by decide), if_pos (by simp; omega)]
          congr 1
          simp
          omega
        · have e3 : ((rs' ++ [ql]).map V.ref).set rs'.length (V.ref q6) = (rs' ++ [q6]).map V.ref := by simp
          rw [e3]
          have tt : SameT H6 (upd H6 l (.lst ((rs' ++ [q6]).map V.ref))) := SameT.lst h6
          have hlen6 : ((rs' ++ [q6]).length : Int) = n := by simp at hlen ⊢; omega
          refine ⟨_, rfl, q l (rs' ++ [q6]) _ (same_put (s2.trans s36) nl) nl upd_same (by simp) (by omega) fun i q7 h7 => ?_⟩
          rw [hlen6]
          rcases Nat.lt_or_ge i rs'.length with z | z
          · rw [List.getElem?_append_left z] at h7
            obtain ⟨u7, o7⟩ := ok2 q7 (List.mem_append_left _ (List.mem_of_getElem? h7))
            exact ⟨u7, o7.tups ((SameT.of s36).trans tt), fun e => by simp at e; omega⟩
          · rw [List.getElem?_append_right z] at h7
            have h8 : q7 = q6 := by
              cases hz : i - rs'.length with
              | zero => rw [hz] at h7; simpa using h7.symm
              | succ d => rw [hz] at h7; simp at h7
            rw [h8]
            exact ⟨u6, (show RowOk H6 q6 n u6 from ⟨ts6, hR6, ht6, hlt6⟩).tups tt, fun _ => hu6⟩
      · have h1 : u ∈ notOn := by simpa using h1
        refine ⟨_, rfl, q l (rs' ++ [ql]) _ (s2.trans s3) nl (s3 _ _ h2) (by simp) (by omega) fun i q7 h7 => ?_⟩
        rw [hlen]
        by_cases hi : i + 1 = (rs' ++ [ql]).length
        · have h8 : q7 = ql := by
            have : i = rs'.length := by simp at hi; omega
            rw [this] at h7
            simpa using h7.symm
          rw [h8]
          exact ⟨u, (show RowOk H2 ql n u from ⟨ts, ⟨items, hq, hP⟩, ht, hlt⟩).tups (SameT.of s3), fun _ => h1⟩
        · obtain ⟨u7, o7⟩ := ok2 q7 (List.mem_of_getElem? h7)
          exact ⟨u7, o7.tups (SameT.of s3), fun e => absurd e hi⟩
end
end My

set_option Elab.async false
set_option linter.all false
set_option maxRecDepth 100000
set_option maxHeartbeats 4000000
namespace My
open PySem L2
/-! ### attributes by their places -/
theorem look_zip : ∀ (ns : List Str) (vs : List V) (i : Nat) (x : Str), ns.Nodup → ns[i]? = some x → (ns.zip vs).lookup x = vs[i]?
  | [], _, i, x, _, h => by simp at h
  | n :: ns, [], i, x, _, h => by simp
  | n :: ns, v :: vs, 0, x, _, h => by
    have e : n = x := by simpa using h
    subst e
    rw [List.zip_cons_cons, List.lookup_cons_self]
    rfl
  | n :: ns, v :: vs, i + 1, x, hn, h => by
    have hn' := List.nodup_cons.mp hn
    have hm : x ∈ ns := List.mem_of_getElem? (by simpa using h)
    have ne : ¬ x = n := fun e => hn'.1 (e ▸ hm)
    rw [List.zip_cons_cons, List.lookup_cons, show (x == n) = false from beq_eq_false_iff_ne.mpr ne]
    exact look_zip ns vs i x hn'.2 (by simpa using h)
theorem look_no : ∀ (ns : List Str) (vs : List V) (x : Str), ¬ x ∈ ns → (ns.zip vs).lookup x = none
  | [], _, _, _ => by simp
  | _ :: _, [], _, _ => by simp
  | n :: ns, v :: vs, x, h => by
    have ne : ¬ x = n := fun e => h (by simp [e])
    rw [List.zip_cons_cons, List.lookup_cons, show (x == n) = false from beq_eq_false_iff_ne.mpr ne]
    exact look_no ns vs x fun z => h (by simp [z])
theorem put_zip (y : V) : ∀ (ns : List Str) (vs : List V) (i : Nat) (x : Str), ns.Nodup → ns[i]? = some x → i < vs.length → putF x y (ns.zip vs) = ns.zip (vs.set i y)
  | [], _, i, x, _, h, _ => by simp at h
  | n :: ns, [], i, x, _, h, l => by simp at l
  | n :: ns, v :: vs, 0, x, _, h, _ => by
    have e : n = x := by simpa using h
    subst e
    show (if n = n then _ else _) = _
    rw [if_pos rfl]
    rfl
  | n :: ns, v :: vs, i + 1, x, hn, h, l => by
    have hn' := List.nodup_cons.mp hn
    have hm : x ∈ ns := List.mem_of_getElem? (by simpa using h)
    have ne : ¬ n = x := fun e => hn'.1 (e ▸ hm)
    show (if n = x then _ else (n, v) :: putF x y (ns.zip vs)) = _
    rw [if_neg ne, put_zip y ns vs i x hn'.2 (by simpa using h) (by simpa using l)]
    rfl
theorem put_new (y : V) (x : Str) : ∀ (ns : List Str) (vs : List V), ¬ x ∈ ns → ns.length = vs.length → putF x y (ns.zip vs) = (ns ++ [x]).zip (vs ++ [y])
  | [], [], _, _ => rfl
  | [], _ :: _, _, h => by simp at h
  | _ :: _, [], _, h => by simp at h
  | n :: ns, v :: vs, h, l => by
    have ne : ¬ n = x := fun e => h (by simp [e])
    show (if n = x then _ else (n, v) :: putF x y (ns.zip vs)) = _
    rw [if_neg ne, put_new y x ns vs (fun z => h (by simp [z])) (by simpa using l)]
    rfl
def names : List Str := ["program", "in_boxes", "in_cells", "in_asides", "rung", "told_numbers", "seen_numbers", "pile", "marks_done", "here", "how_ended"]
theorem names_nd : names.Nodup := by decide +kernel
/-- where a machine keeps what -/
structure MA where
  (dx p1 p2 p3 p4 p5 p6 p7 p8 : Addr)
def vals (m : MA) (k : Int) (h w : V) : List V := [.ref m.p1, .ref m.p2, .ref m.p3, .ref m.p4, .ref m.p5, .ref m.p6, .ref m.p7, .ref m.p8, .int k, h, w]
abbrev flds (m : MA) (k : Int) (h w : V) : List (Str × V) := names.zip (vals m k h w)
section
variable {m : MA} {k : Int} {h w v : V}
theorem f_prog : (flds m k h w).lookup ("program" : Str) = some (V.ref m.p1) := look_zip names _ 0 _ names_nd rfl
theorem f_box : (flds m k h w).lookup ("in_boxes" : Str) = some (V.ref m.p2) := look_zip names _ 1 _ names_nd rfl
theorem f_cell : (flds m k h w).lookup ("in_cells" : Str) = some (V.ref m.p3) := look_zip names _ 2 _ names_nd rfl
theorem f_asd : (flds m k h w).lookup ("in_asides" : Str) = some (V.ref m.p4) := look_zip names _ 3 _ names_nd rfl
theorem f_rung : (flds m k h w).lookup ("rung" : Str) = some (V.ref m.p5) := look_zip names _ 4 _ names_nd rfl
theorem f_told : (flds m k h w).lookup ("told_numbers" : Str) = some (V.ref m.p6) := look_zip names _ 5 _ names_nd rfl
theorem f_seen : (flds m k h w).lookup ("seen_numbers" : Str) = some (V.ref m.p7) := look_zip names _ 6 _ names_nd rfl
theorem f_pile : (flds m k h w).lookup ("pile" : Str) = some (V.ref m.p8) := look_zip names _ 7 _ names_nd rfl
theorem f_marks : (flds m k h w).lookup ("marks_done" : Str) = some (V.int k) := look_zip names _ 8 _ names_nd rfl
theorem f_here : (flds m k h w).lookup ("here" : Str) = some h := look_zip names _ 9 _ names_nd rfl
theorem f_no {x : Str} (hx : ¬ x ∈ names) : (flds m k h w).lookup x = none := look_no names _ x hx
theorem s_here : putF "here" v (flds m k h w) = flds m k v w := (put_zip v names (vals m k h w) 9 _ names_nd rfl (by show 9 < 11; decide)).trans rfl
theorem s_how : putF "how_ended" v (flds m k h w) = flds m k h v := (put_zip v names (vals m k h w) 10 _ names_nd rfl (by show 10 < 11; decide)).trans rfl
theorem s_marks {j : Int} : putF "marks_done" (.int j) (flds m k h w) = flds m j h w := (put_zip (.int j) names (vals m k h w) 8 _ names_nd rfl (by show 8 < 11; decide)).trans rfl
theorem f_few : (flds m k h w).length < 1000 := by
  show 11 < 1000
  decide
end
/-- what a machine may change -/
def Own (m : MA) (x c : Addr) : Prop := c = x ∨ c = m.p2 ∨ c = m.p3 ∨ c = m.p4 ∨ c = m.p5 ∨ c = m.p6 ∨ c = m.p7 ∨ c = m.p8
def Fr (m : MA) (x : Addr) (H H' : Hp) : Prop := ∀ c o, ¬ Own m x c → H c = some o → H' c = some o
theorem Fr.refl {m : MA} {x : Addr} {H : Hp} : Fr m x H H := fun _ _ _ e => e
theorem Fr.trans {m : MA} {x : Addr} {H H1 H2 : Hp} (a : Fr m x H H1) (b : Fr m x H1 H2) : Fr m x H H2 := fun c o n e => b c o n (a c o n e)
theorem Fr.same {m : MA} {x : Addr} {H H1 : Hp} (e : Same H H1) : Fr m x H H1 := fun c o _ h => e c o h
theorem Fr.upd {m : MA} {x p : Addr} {H : Hp} {o : HO} (h : Own m x p) : Fr m x H (upd H p o) := fun c u n e => by
  have ne : c ≠ p := fun z => n (by rw [z]; exact h)
  rw [upd_ne ne]
  exact e
/-- where the machine at x stands -/
def Here (C : Addr) (H : Hp) (x : Addr) (v : V) : Prop := ∃ m k w, H x = some (.ins C m.dx (flds m k v w))
theorem Here.upd {C p x : Addr} {H : Hp} {v : V} {o : HO} (h : Here C H x v) (n : x ≠ p) : Here C (upd H p o) x v := by
  obtain ⟨m, k, w, h⟩ := h
  exact ⟨m, k, w, by rw [upd_ne n]; exact h⟩
structure MS (C : Addr) (H : Hp) (x : Addr) (m : MA) (rows : List V) (bs : List Int) (rung : List (Key × V)) (pile : List Int) (k : Int) (here how : V) : Prop where
  obj : H x = some (.ins C m.dx (flds m k here how))
  prog : H m.p1 = some (.lst rows)
  box : H m.p2 = some (.lst (bs.map V.int))
  b8 : bs.length = 8
  cell : H m.p3 = some (.dK [])
  asd : H m.p4 = some (.dK [])
  rg : H m.p5 = some (.dK rung)
  told : H m.p6 = some (.lst [])
  seen : H m.p7 = some (.lst [])
  pil : H m.p8 = some (.lst (pile.map V.int))
  n18 : m.p1 ≠ m.p8
  n28 : m.p2 ≠ m.p8
  n68 : m.p6 ≠ m.p8
  n78 : m.p7 ≠ m.p8
section
variable {C x : Addr} {H H' : Hp} {m : MA} {rows : List V} {bs : List Int} {rung : List (Key × V)} {pile : List Int} {k : Int} {here how : V}
theorem MS.stands (M : MS C H x m rows bs rung pile k here how) : Here C H x here := ⟨m, k, how, M.obj⟩
theorem MS.same (M : MS C H x m rows bs rung pile k here how) (e : Same H H') : MS C H' x m rows bs rung pile k here how :=
  ⟨e _ _ M.obj, e _ _ M.prog, e _ _ M.box, M.b8, e _ _ M.cell, e _ _ M.asd, e _ _ M.rg, e _ _ M.told, e _ _ M.seen, e _ _ M.pil, M.n18, M.n28, M.n68, M.n78⟩
theorem MS.x2 (M : MS C H x m rows bs rung pile k here how) : x ≠ m.p2 := ne_of M.obj M.box (by intro z; cases z)
theorem MS.x3 (M : MS C H x m rows bs rung pile k here how) : x ≠ m.p3 := ne_of M.obj M.cell (by intro z; cases z)
theorem MS.x4 (M : MS C H x m rows bs rung pile k here how) : x ≠ m.p4 := ne_of M.obj M.asd (by intro z; cases z)
theorem MS.x6 (M : MS C H x m rows bs rung pile k here how) : x ≠ m.p6 := ne_of M.obj M.told (by intro z; cases z)
theorem MS.x7 (M : MS C H x m rows bs rung pile k here how) : x ≠ m.p7 := ne_of M.obj M.seen (by intro z; cases z)
theorem MS.x8 (M : MS C H x m rows bs rung pile k here how) : x ≠ m.p8 := ne_of M.obj M.pil (by intro z; cases z)
/-- the object is written -/
theorem MS.put (M : MS C H x m rows bs rung pile k here how) {k' : Int} {here' how' : V} : MS C (upd H x (.ins C m.dx (flds m k' here' how'))) x m rows bs rung pile k' here' how' := by
  have e : ∀ {c o}, H c = some o → (∀ fs, o ≠ .ins C m.dx fs) → upd H x (.ins C m.dx (flds m k' here' how')) c = some o := fun {c o} h n => by
    rw [upd_ne (ne_of h M.obj (n _))]
    exact h
  exact ⟨upd_same, e M.prog (by intro _ z; cases z), e M.box (by intro _ z; cases z), M.b8, e M.cell (by intro _ z; cases z), e M.asd (by intro _ z; cases z), e M.rg (by intro _ z; cases z), e M.told (by intro _ z; cases z), e M.seen (by intro _ z; cases z), e M.pil (by intro _ z; cases z), M.n18, M.n28, M.n68, M.n78⟩
theorem MS.pushed (M : MS C H x m rows bs rung pile k here how) {pile' : List Int} : MS C (upd H m.p8 (.lst (pile'.map V.int))) x m rows bs rung pile' k here how := by
  have e : ∀ {c o}, H c = some o → c ≠ m.p8 → upd H m.p8 (.lst (pile'.map V.int)) c = some o := fun {c o} h n => by
    rw [upd_ne n]
    exact h
  exact ⟨e M.obj M.x8, e M.prog M.n18, e M.box M.n28, M.b8, e M.cell (ne_of M.cell M.pil (by intro z; cases z)), e M.asd (ne_of M.asd M.pil (by intro z; cases z)), e M.rg (ne_of M.rg M.pil (by intro z; cases z)), e M.told M.n68, e M.seen M.n78, upd_same, M.n18, M.n28, M.n68, M.n78⟩
theorem MS.at (M : MS C H x m rows bs rung pile k here how) {b : Int} (hb : Bx b) : atI (bs.map V.int) b = some (.int (bs.getD b.toNat 0)) := by
  obtain ⟨j, rfl⟩ := Int.eq_ofNat_of_zero_le hb.1
  have hj : j < bs.length := by have := hb.2; have := M.b8; omega
  refine atI_nat (j := j) ?_
  rw [List.getElem?_map, List.getElem?_eq_getElem hj, Int.toNat_natCast, List.getD_eq_getElem?_getD, List.getElem?_eq_getElem hj]
  rfl
theorem MS.ix (M : MS C H x m rows bs rung pile k here how) {b : Int} (hb : Bx b) : ixN (bs.map V.int).length b = some b.toNat := by
  obtain ⟨j, rfl⟩ := Int.eq_ofNat_of_zero_le hb.1
  rw [List.length_map, M.b8]
  have := hb.2
  unfold ixN
  rw [if_pos (by omega), if_pos (by omega)]
end
/-- what the walk asks of the class -/
structure MTx (K : PySem.W.Frag) (mg : Str → Option Value) (C : Addr) : Prop where
  cl : Cls K C
  nP : NoAttr K C "program"
  nB : NoAttr K C "in_boxes"
  nC : NoAttr K C "in_cells"
  nA : NoAttr K C "in_asides"
  nR : NoAttr K C "rung"
  nT : NoAttr K C "told_numbers"
  nS : NoAttr K C "seen_numbers"
  nL : NoAttr K C "pile"
  nM : NoAttr K C "marks_done"
  nH : NoAttr K C "here"
  nE : NoAttr K C "how_ended"
end My

set_option Elab.async false
set_option linter.all false
set_option maxRecDepth 100000
set_option maxHeartbeats 4000000
namespace My
open PySem L2
abbrev sEnd : Stmt := top 10
abbrev d_stop : Stmt := top 11
abbrev d_halt : Stmt := top 12
abbrev d_back : Stmt := top 13
abbrev d_set : Stmt := top 14
abbrev d_more : Stmt := top 15
abbrev d_copy : Stmt := top 16
abbrev d_add : Stmt := top 17
abbrev d_less : Stmt := top 18
abbrev d_load : Stmt := top 19
abbrev d_keep : Stmt := top 20
abbrev d_tell : Stmt := top 21
abbrev d_see : Stmt := top 22
abbrev d_put : Stmt := top 23
abbrev d_take : Stmt := top 24
abbrev d_jump : Stmt := top 25
abbrev d_zero : Stmt := top 26
abbrev d_below : Stmt := top 27
abbrev d_call : Stmt := top 28
abbrev d_mark : Stmt := top 29
abbrev d_table : Stmt := top 30
section
variable {P : Program} {w : World} {K : PySem.W.Frag} {mg : Str → Option Value} {base : Heap}
def spV (C : Addr) : Sp := fun vs H Q _ => ∃ (x q : Addr) (m : MA) (rows : List V) (bs : List Int) (rung : List (Key × V)) (pile : List Int) (k h : Int) (how : V) (u : Str) (b v : Int), vs = [.ref x, .ref q] ∧ MS C H x m rows bs rung pile k (.int h) how ∧ H q = some (.tup [.str u, .int b, .int v]) ∧ Bx b ∧ ∀ H', Fr m x H H' → Here C H' x (.int h) → Q .non H'
def spC (C : Addr) : Sp := fun vs H Q _ => ∃ (x q : Addr) (m : MA) (rows : List V) (bs : List Int) (rung : List (Key × V)) (pile : List Int) (k h : Int) (how : V) (u : Str) (b v : Int), vs = [.ref x, .ref q] ∧ MS C H x m rows bs rung pile k (.int h) how ∧ H q = some (.tup [.str u, .int b, .int v]) ∧ Bx b ∧ Bx v ∧ ∀ H', Fr m x H H' → Here C H' x (.int h) → Q .non H'
def spT (C : Addr) : Sp := fun vs H Q _ => ∃ (x q : Addr) (m : MA) (rows : List V) (bs : List Int) (rung : List (Key × V)) (pile : List Int) (k h : Int) (how : V) (u : Str) (b : Int), vs = [.ref x, .ref q] ∧ MS C H x m rows bs rung pile k (.int h) how ∧ H q = some (.tup [.str u, .int b]) ∧ Bx b ∧ ∀ H', Fr m x H H' → Here C H' x (.int h) → Q .non H'
def spS (C : Addr) : Sp := fun vs H Q _ => ∃ (x q : Addr) (m : MA) (rows : List V) (bs : List Int) (rung : List (Key × V)) (pile : List Int) (k h : Int) (how : V) (u : Str) (items : List V), vs = [.ref x, .ref q] ∧ MS C H x m rows bs rung pile k (.int h) how ∧ H q = some (.tup (.str u :: items)) ∧ ∀ H', Fr m x H H' → Here C H' x (.non) → Q .non H'
def spHalt (C : Addr) : Sp := fun vs H Q _ => ∃ (x q : Addr) (m : MA) (rows : List V) (bs : List Int) (rung : List (Key × V)) (pile : List Int) (k h : Int) (how : V) (u : Str) (v : Int), vs = [.ref x, .ref q] ∧ MS C H x m rows bs rung pile k (.int h) how ∧ H q = some (.tup [.str u, .int v]) ∧ ∀ H', Fr m x H H' → Here C H' x (.non) → Q .non H'
def spJ (C : Addr) : Sp := fun vs H Q _ => ∃ (x q : Addr) (m : MA) (rows : List V) (bs : List Int) (rung : List (Key × V)) (pile : List Int) (k h : Int) (how : V) (u : Str) (t f : Int), vs = [.ref x, .ref q] ∧ MS C H x m rows bs rung pile k (.int h) how ∧ H q = some (.tup [.str u, .int t, .int f]) ∧ ∀ H', Fr m x H H' → Here C H' x (.int t) → Q .non H'
def spZ (C : Addr) : Sp := fun vs H Q _ => ∃ (x q : Addr) (m : MA) (rows : List V) (bs : List Int) (rung : List (Key × V)) (pile : List Int) (k h : Int) (how : V) (u : Str) (b t f : Int), vs = [.ref x, .ref q] ∧ MS C H x m rows bs rung pile k (.int h) how ∧ H q = some (.tup [.str u, .int b, .int t, .int f]) ∧ Bx b ∧ ∀ H', Fr m x H H' → Here C H' x (.int (if bs.getD b.toNat 0 = 0 then t else h)) → Q .non H'
def spB (C : Addr) : Sp := fun vs H Q _ => ∃ (x q : Addr) (m : MA) (rows : List V) (bs : List Int) (rung : List (Key × V)) (pile : List Int) (k h : Int) (how : V) (u : Str) (b t f : Int), vs = [.ref x, .ref q] ∧ MS C H x m rows bs rung pile k (.int h) how ∧ H q = some (.tup [.str u, .int b, .int t, .int f]) ∧ Bx b ∧ ∀ H', Fr m x H H' → Here C H' x (.int (if bs.getD b.toNat 0 < 0 then t else h)) → Q .non H'
def spTab (C : Addr) : Sp := fun vs H Q _ => ∃ (x q : Addr) (m : MA) (rows : List V) (bs : List Int) (rung : List (Key × V)) (pile : List Int) (k h : Int) (how : V) (u : Str) (b : Int) (p : Addr) (ts : List Int), vs = [.ref x, .ref q] ∧ MS C H x m rows bs rung pile k (.int h) how ∧ H q = some (.tup [.str u, .int b, .ref p]) ∧ Bx b ∧ H p = some (.tup (ts.map V.int)) ∧ ∀ H', Fr m x H H' → Here C H' x (.int (if 0 ≤ bs.getD b.toNat 0 ∧ bs.getD b.toNat 0 < ts.length then ts.getD (bs.getD b.toNat 0).toNat 0 else h)) → Q .non H'
def spCall (C : Addr) : Sp := fun vs H Q _ => ∃ (x q : Addr) (m : MA) (rows : List V) (bs : List Int) (rung : List (Key × V)) (pile : List Int) (k h : Int) (how : V) (u : Str) (t f : Int), vs = [.ref x, .ref q] ∧ MS C H x m rows bs rung pile k (.int h) how ∧ H q = some (.tup [.str u, .int t, .int f]) ∧ pile.length ≤ 100 ∧ ∀ H', Fr m x H H' → MS C H' x m rows bs rung (pile ++ [h]) k (.int t) how → Q .non H'
def spMark (C : Addr) : Sp := fun vs H Q _ => ∃ (x q : Addr) (m : MA) (rows : List V) (bs : List Int) (rung : List (Key × V)) (pile : List Int) (k h : Int) (how : V) (u : Str) (t f : Int) (o : Option V), vs = [.ref x, .ref q] ∧ MS C H x m rows bs rung pile k (.int h) how ∧ H q = some (.tup [.str u, .int t, .int f]) ∧ pile.length ≤ 100 ∧ valV rung (Sum.inl k) = o ∧ (o.isSome = true → ∀ H', Fr m x H H' → MS C H' x m rows bs rung (pile ++ [h]) (k + 1) (.int t) how → Q .non H') ∧ (o.isSome = false → ∀ H', Fr m x H H' → MS C H' x m rows bs rung pile (k + 1) (.int h) how → Q .non H')
def spBack (C : Addr) : Sp := fun vs H Q _ => ∃ (x q : Addr) (m : MA) (rows : List V) (bs : List Int) (rung : List (Key × V)) (pile : List Int) (k h : Int) (how : V) (u : Str) (items : List V), vs = [.ref x, .ref q] ∧ MS C H x m rows bs rung pile k (.int h) how ∧ H q = some (.tup (.str u :: items)) ∧ (pile = [] → ∀ H', Fr m x H H' → Here C H' x .non → Q .non H') ∧ (∀ (r : List Int) (p : Int), pile = r ++ [p] → ∀ H', Fr m x H H' → Here C H' x (.int p) → Q .non H')
def spEnd (C : Addr) : Sp := fun vs H Q _ => ∃ (x : Addr) (v : V) (m : MA) (rows : List V) (bs : List Int) (rung : List (Key × V)) (pile : List Int) (k : Int) (here how : V), vs = [.ref x, v] ∧ MS C H x m rows bs rung pile k here how ∧ ∀ H', Fr m x H H' → Here C H' x .non → Q .non H'
theorem scEnd : FnScope ["machine", "how"] ["machine", "how"] (defScope sEnd) := ⟨rfl, rfl, rfl, by decide +kernel, rfl, by decide +kernel, by decide +kernel⟩
theorem ok_end {f C : Addr} {fd : FuncData} (F : Fun K "end" "end" sEnd f fd) (T : MTx K mg C) : FnOk P w K mg base CX0 1 f fd ["machine", "how"] (spEnd C) := by
  refine F.ok scEnd (fun vs H Q E h => ?_) (fun cdv A outer s H vs Q E hr h => ?_)
  · obtain ⟨x, v, m, rows, bs, rung, pile, k, here, how, rfl, _⟩ := h
    rfl
  · obtain ⟨x, v, m, rows, bs, rung, pile, k, here, how, rfl, M, z⟩ := h
    refine ⟨_, pss_cons (ps_fld (pv 0) pe_non rfl) (pss_one (ps_fld (pv 0) (pv 1) rfl)), ?_⟩
    refine ⟨_, rfl, x, C, m.dx, _, rfl, M.obj, T.cl, T.nH, f_few, ?_⟩
    rw [s_here]
    refine ⟨_, rfl, _, rfl, x, C, m.dx, _, rfl, upd_same, T.cl, T.nE, f_few, ?_⟩
    rw [s_how]
    exact z _ ((Fr.upd (.inl rfl)).trans (Fr.upd (.inl rfl))) ⟨m, k, v, upd_same⟩

theorem sc_set : FnScope ["machine", "row"] ["machine", "row"] (defScope d_set) := ⟨rfl, rfl, rfl, by decide +kernel, rfl, by decide +kernel, by decide +kernel⟩
theorem ok_set {f C : Addr} {fd : FuncData} (F : Fun K "do_set" "do_set" d_set f fd) (T : MTx K mg C) : FnOk P w K mg base CX0 1 f fd ["machine", "row"] (spV C) := by
  refine F.ok sc_set (fun vs H Q E h => ?_) (fun cdv A outer s H vs Q E hr h => ?_)
  · obtain ⟨x, q, m, rows, bs, rung, pile, k, h, how, u, b, v, rfl, _⟩ := h
    rfl
  · obtain ⟨x, q, m, rows, bs, rung, pile, k, h, how, u, b, v, rfl, M, hq, hb, z⟩ := h
    have hu := hu_of hr
    refine ⟨_, pss_one (ps_asg (pe_ix ix_tup (pv 1) pe_int (fun _ _ => rfl)) (pg_sub (pe_fld (pv 0) rfl) (pe_ix ix_tup (pv 1) pe_int (fun _ _ => rfl)) set_list)), ?_⟩
    refine ⟨_, rfl, q, _, _, .int v, rfl, rfl, SqT.of hq, at2 _ _ _ _, _, rfl, x, C, m.dx, _, _, rfl, M.obj, T.cl, T.nB, f_box, _, rfl, q, _, _, .int b, rfl, rfl, SqT.of hq, at1 _ _ _, m.p2, _, _, _, rfl, rfl, M.box, M.ix hb, ?_⟩
    exact z _ (Fr.upd (.inr (.inl rfl))) (M.stands.upd M.x2)
theorem sc_more : FnScope ["machine", "row"] ["machine", "row"] (defScope d_more) := ⟨rfl, rfl, rfl, by decide +kernel, rfl, by decide +kernel, by decide +kernel⟩
theorem ok_more {f C : Addr} {fd : FuncData} (F : Fun K "do_more" "do_more" d_more f fd) (T : MTx K mg C) : FnOk P w K mg base CX0 1 f fd ["machine", "row"] (spV C) := by
  refine F.ok sc_more (fun vs H Q E h => ?_) (fun cdv A outer s H vs Q E hr h => ?_)
  · obtain ⟨x, q, m, rows, bs, rung, pile, k, h, how, u, b, v, rfl, _⟩ := h
    rfl
  · obtain ⟨x, q, m, rows, bs, rung, pile, k, h, how, u, b, v, rfl, M, hq, hb, z⟩ := h
    have hu := hu_of hr
    refine ⟨_, pss_one (ps_asg (pe_op op_add (pe_ix ix_list (pe_fld (pv 0) rfl) (pe_ix ix_tup (pv 1) pe_int (fun _ _ => rfl)) (fun _ _ => rfl)) (pe_ix ix_tup (pv 1) pe_int (fun _ _ => rfl))) (pg_sub (pe_fld (pv 0) rfl) (pe_ix ix_tup (pv 1) pe_int (fun _ _ => rfl)) set_list)), ?_⟩
    refine ⟨_, rfl, x, C, m.dx, _, _, rfl, M.obj, T.cl, T.nB, f_box, _, rfl, q, _, _, .int b, rfl, rfl, SqT.of hq, at1 _ _ _, m.p2, _, _, _, rfl, rfl, SqL.of M.box, M.at hb, _, rfl, q, _, _, .int v, rfl, rfl, SqT.of hq, at2 _ _ _ _, _, _, rfl, rfl, _, rfl, x, C, m.dx, _, _, rfl, M.obj, T.cl, T.nB, f_box, _, rfl, q, _, _, .int b, rfl, rfl, SqT.of hq, at1 _ _ _, m.p2, _, _, _, rfl, rfl, M.box, M.ix hb, ?_⟩
    exact z _ (Fr.upd (.inr (.inl rfl))) (M.stands.upd M.x2)
theorem sc_copy : FnScope ["machine", "row"] ["machine", "row"] (defScope d_copy) := ⟨rfl, rfl, rfl, by decide +kernel, rfl, by decide +kernel, by decide +kernel⟩
theorem ok_copy {f C : Addr} {fd : FuncData} (F : Fun K "do_copy" "do_copy" d_copy f fd) (T : MTx K mg C) : FnOk P w K mg base CX0 1 f fd ["machine", "row"] (spC C) := by
  refine F.ok sc_copy (fun vs H Q E h => ?_) (fun cdv A outer s H vs Q E hr h => ?_)
  · obtain ⟨x, q, m, rows, bs, rung, pile, k, h, how, u, b, v, rfl, _⟩ := h
    rfl
  · obtain ⟨x, q, m, rows, bs, rung, pile, k, h, how, u, b, v, rfl, M, hq, hb, hv, z⟩ := h
    have hu := hu_of hr
    refine ⟨_, pss_one (ps_asg (pe_ix ix_list (pe_fld (pv 0) rfl) (pe_ix ix_tup (pv 1) pe_int (fun _ _ => rfl)) (fun _ _ => rfl)) (pg_sub (pe_fld (pv 0) rfl) (pe_ix ix_tup (pv 1) pe_int (fun _ _ => rfl)) set_list)), ?_⟩
    refine ⟨_, rfl, x, C, m.dx, _, _, rfl, M.obj, T.cl, T.nB, f_box, _, rfl, q, _, _, .int v, rfl, rfl, SqT.of hq, at2 _ _ _ _, m.p2, _, _, _, rfl, rfl, SqL.of M.box, M.at hv, _, rfl, x, C, m.dx, _, _, rfl, M.obj, T.cl, T.nB, f_box, _, rfl, q, _, _, .int b, rfl, rfl, SqT.of hq, at1 _ _ _, m.p2, _, _, _, rfl, rfl, M.box, M.ix hb, ?_⟩
    exact z _ (Fr.upd (.inr (.inl rfl))) (M.stands.upd M.x2)
theorem sc_add : FnScope ["machine", "row"] ["machine", "row"] (defScope d_add) := ⟨rfl, rfl, rfl, by decide +kernel, rfl, by decide +kernel, by decide +kernel⟩
theorem ok_add {f C : Addr} {fd : FuncData} (F : Fun K "do_add" "do_add" d_add f fd) (T : MTx K mg C) : FnOk P w K mg base CX0 1 f fd ["machine", "row"] (spC C) := by
  refine F.ok sc_add (fun vs H Q E h => ?_) (fun cdv A outer s H vs Q E hr h => ?_)
  · obtain ⟨x, q, m, rows, bs, rung, pile, k, h, how, u, b, v, rfl, _⟩ := h
    rfl
  · obtain ⟨x, q, m, rows, bs, rung, pile, k, h, how, u, b, v, rfl, M, hq, hb, hv, z⟩ := h
    have hu := hu_of hr
    refine ⟨_, pss_one (ps_asg (pe_op op_add (pe_ix ix_list (pe_fld (pv 0) rfl) (pe_ix ix_tup (pv 1) pe_int (fun _ _ => rfl)) (fun _ _ => rfl)) (pe_ix ix_list (pe_fld (pv 0) rfl) (pe_ix ix_tup (pv 1) pe_int (fun _ _ => rfl)) (fun _ _ => rfl))) (pg_sub (pe_fld (pv 0) rfl) (pe_ix ix_tup (pv 1) pe_int (fun _ _ => rfl)) set_list)), ?_⟩
    refine ⟨_, rfl, x, C, m.dx, _, _, rfl, M.obj, T.cl, T.nB, f_box, _, rfl, q, _, _, .int b, rfl, rfl, SqT.of hq, at1 _ _ _, m.p2, _, _, _, rfl, rfl, SqL.of M.box, M.at hb, _, rfl, x, C, m.dx, _, _, rfl, M.obj, T.cl, T.nB, f_box, _, rfl, q, _, _, .int v, rfl, rfl, SqT.of hq, at2 _ _ _ _, m.p2, _, _, _, rfl, rfl, SqL.of M.box, M.at hv, _, _, rfl, rfl, _, rfl, x, C, m.dx, _, _, rfl, M.obj, T.cl, T.nB, f_box, _, rfl, q, _, _, .int b, rfl, rfl, SqT.of hq, at1 _ _ _, m.p2, _, _, _, rfl, rfl, M.box, M.ix hb, ?_⟩
    exact z _ (Fr.upd (.inr (.inl rfl))) (M.stands.upd M.x2)
theorem sc_less : FnScope ["machine", "row"] ["machine", "row"] (defScope d_less) := ⟨rfl, rfl, rfl, by decide +kernel, rfl, by decide +kernel, by decide +kernel⟩
theorem ok_less {f C : Addr} {fd : FuncData} (F : Fun K "do_less" "do_less" d_less f fd) (T : MTx K mg C) : FnOk P w K mg base CX0 1 f fd ["machine", "row"] (spC C) := by
  refine F.ok sc_less (fun vs H Q E h => ?_) (fun cdv A outer s H vs Q E hr h => ?_)
  · obtain ⟨x, q, m, rows, bs, rung, pile, k, h, how, u, b, v, rfl, _⟩ := h
    rfl
  · obtain ⟨x, q, m, rows, bs, rung, pile, k, h, how, u, b, v, rfl, M, hq, hb, hv, z⟩ := h
    have hu := hu_of hr
    refine ⟨_, pss_one (ps_asg (pe_op op_sub (pe_ix ix_list (pe_fld (pv 0) rfl) (pe_ix ix_tup (pv 1) pe_int (fun _ _ => rfl)) (fun _ _ => rfl)) (pe_ix ix_list (pe_fld (pv 0) rfl) (pe_ix ix_tup (pv 1) pe_int (fun _ _ => rfl)) (fun _ _ => rfl))) (pg_sub (pe_fld (pv 0) rfl) (pe_ix ix_tup (pv 1) pe_int (fun _ _ => rfl)) set_list)), ?_⟩
    refine ⟨_, rfl, x, C, m.dx, _, _, rfl, M.obj, T.cl, T.nB, f_box, _, rfl, q, _, _, .int b, rfl, rfl, SqT.of hq, at1 _ _ _, m.p2, _, _, _, rfl, rfl, SqL.of M.box, M.at hb, _, rfl, x, C, m.dx, _, _, rfl, M.obj, T.cl, T.nB, f_box, _, rfl, q, _, _, .int v, rfl, rfl, SqT.of hq, at2 _ _ _ _, m.p2, _, _, _, rfl, rfl, SqL.of M.box, M.at hv, _, _, rfl, rfl, _, rfl, x, C, m.dx, _, _, rfl, M.obj, T.cl, T.nB, f_box, _, rfl, q, _, _, .int b, rfl, rfl, SqT.of hq, at1 _ _ _, m.p2, _, _, _, rfl, rfl, M.box, M.ix hb, ?_⟩
    exact z _ (Fr.upd (.inr (.inl rfl))) (M.stands.upd M.x2)
theorem sc_load : FnScope ["machine", "row"] ["machine", "row"] (defScope d_load) := ⟨rfl, rfl, rfl, by decide +kernel, rfl, by decide +kernel, by decide +kernel⟩
theorem ok_load {f C : Addr} {fd : FuncData} (F : Fun K "do_load" "do_load" d_load f fd) (T : MTx K mg C) : FnOk P w K mg base CX0 1 f fd ["machine", "row"] (spC C) := by
  refine F.ok sc_load (fun vs H Q E h => ?_) (fun cdv A outer s H vs Q E hr h => ?_)
  · obtain ⟨x, q, m, rows, bs, rung, pile, k, h, how, u, b, v, rfl, _⟩ := h
    rfl
  · obtain ⟨x, q, m, rows, bs, rung, pile, k, h, how, u, b, v, rfl, M, hq, hb, hv, z⟩ := h
    have hu := hu_of hr
    refine ⟨_, pss_one (ps_asg (pe_dget2 hu (pe_fld (pv 0) rfl) (pe_ix ix_list (pe_fld (pv 0) rfl) (pe_ix ix_tup (pv 1) pe_int (fun _ _ => rfl)) (fun _ _ => rfl)) pe_int ⟨rfl, rfl, rfl, rfl⟩) (pg_sub (pe_fld (pv 0) rfl) (pe_ix ix_tup (pv 1) pe_int (fun _ _ => rfl)) set_list)), ?_⟩
    refine ⟨_, rfl, x, C, m.dx, _, _, rfl, M.obj, T.cl, T.nC, f_cell, m.p3, rfl, .inl ⟨_, .of M.cell⟩, _, rfl, x, C, m.dx, _, _, rfl, M.obj, T.cl, T.nB, f_box, _, rfl, q, _, _, .int v, rfl, rfl, SqT.of hq, at2 _ _ _ _, m.p2, _, _, _, rfl, rfl, SqL.of M.box, M.at hv, _, DGet.k (k := Sum.inl (bs.getD v.toNat 0)) M.cell, _, rfl, x, C, m.dx, _, _, rfl, M.obj, T.cl, T.nB, f_box, _, rfl, q, _, _, .int b, rfl, rfl, SqT.of hq, at1 _ _ _, m.p2, _, _, _, rfl, rfl, M.box, M.ix hb, ?_⟩
    exact z _ (Fr.upd (.inr (.inl rfl))) (M.stands.upd M.x2)
theorem sc_take : FnScope ["machine", "row"] ["machine", "row"] (defScope d_take) := ⟨rfl, rfl, rfl, by decide +kernel, rfl, by decide +kernel, by decide +kernel⟩
theorem ok_take {f C : Addr} {fd : FuncData} (F : Fun K "do_take" "do_take" d_take f fd) (T : MTx K mg C) : FnOk P w K mg base CX0 1 f fd ["machine", "row"] (spV C) := by
  refine F.ok sc_take (fun vs H Q E h => ?_) (fun cdv A outer s H vs Q E hr h => ?_)
  · obtain ⟨x, q, m, rows, bs, rung, pile, k, h, how, u, b, v, rfl, _⟩ := h
    rfl
  · obtain ⟨x, q, m, rows, bs, rung, pile, k, h, how, u, b, v, rfl, M, hq, hb, z⟩ := h
    have hu := hu_of hr
    refine ⟨_, pss_one (ps_asg (pe_dget2 hu (pe_fld (pv 0) rfl) (pe_ix ix_tup (pv 1) pe_int (fun _ _ => rfl)) pe_int ⟨rfl, rfl, rfl, rfl⟩) (pg_sub (pe_fld (pv 0) rfl) (pe_ix ix_tup (pv 1) pe_int (fun _ _ => rfl)) set_list)), ?_⟩
    refine ⟨_, rfl, x, C, m.dx, _, _, rfl, M.obj, T.cl, T.nA, f_asd, m.p4, rfl, .inl ⟨_, .of M.asd⟩, _, rfl, q, _, _, .int v, rfl, rfl, SqT.of hq, at2 _ _ _ _, _, DGet.k (k := Sum.inl v) M.asd, _, rfl, x, C, m.dx, _, _, rfl, M.obj, T.cl, T.nB, f_box, _, rfl, q, _, _, .int b, rfl, rfl, SqT.of hq, at1 _ _ _, m.p2, _, _, _, rfl, rfl, M.box, M.ix hb, ?_⟩
    exact z _ (Fr.upd (.inr (.inl rfl))) (M.stands.upd M.x2)
theorem sc_keep : FnScope ["machine", "row"] ["machine", "row"] (defScope d_keep) := ⟨rfl, rfl, rfl, by decide +kernel, rfl, by decide +kernel, by decide +kernel⟩
theorem ok_keep {f C : Addr} {fd : FuncData} (F : Fun K "do_keep" "do_keep" d_keep f fd) (T : MTx K mg C) : FnOk P w K mg base CX0 1 f fd ["machine", "row"] (spC C) := by
  refine F.ok sc_keep (fun vs H Q E h => ?_) (fun cdv A outer s H vs Q E hr h => ?_)
  · obtain ⟨x, q, m, rows, bs, rung, pile, k, h, how, u, b, v, rfl, _⟩ := h
    rfl
  · obtain ⟨x, q, m, rows, bs, rung, pile, k, h, how, u, b, v, rfl, M, hq, hb, hv, z⟩ := h
    have hu := hu_of hr
    refine ⟨_, pss_one (ps_dput hu (pe_fld (pv 0) rfl) (pe_ix ix_list (pe_fld (pv 0) rfl) (pe_ix ix_tup (pv 1) pe_int (fun _ _ => rfl)) (fun _ _ => rfl)) (pe_ix ix_list (pe_fld (pv 0) rfl) (pe_ix ix_tup (pv 1) pe_int (fun _ _ => rfl)) (fun _ _ => rfl)) rfl), ?_⟩
    refine ⟨_, rfl, x, C, m.dx, _, _, rfl, M.obj, T.cl, T.nB, f_box, _, rfl, q, _, _, .int v, rfl, rfl, SqT.of hq, at2 _ _ _ _, m.p2, _, _, _, rfl, rfl, SqL.of M.box, M.at hv, _, rfl, x, C, m.dx, _, _, rfl, M.obj, T.cl, T.nC, f_cell, _, rfl, x, C, m.dx, _, _, rfl, M.obj, T.cl, T.nB, f_box, _, rfl, q, _, _, .int b, rfl, rfl, SqT.of hq, at1 _ _ _, m.p2, _, _, _, rfl, rfl, SqL.of M.box, M.at hb, m.p3, _, rfl, DPut.k (k := Sum.inl (bs.getD b.toNat 0)) M.cell (by show 0 < sizeLine; decide), ?_⟩
    exact z _ (Fr.upd (.inr (.inr (.inl rfl)))) (M.stands.upd M.x3)
theorem sc_put : FnScope ["machine", "row"] ["machine", "row"] (defScope d_put) := ⟨rfl, rfl, rfl, by decide +kernel, rfl, by decide +kernel, by decide +kernel⟩
theorem ok_put {f C : Addr} {fd : FuncData} (F : Fun K "do_put" "do_put" d_put f fd) (T : MTx K mg C) : FnOk P w K mg base CX0 1 f fd ["machine", "row"] (spV C) := by
  refine F.ok sc_put (fun vs H Q E h => ?_) (fun cdv A outer s H vs Q E hr h => ?_)
  · obtain ⟨x, q, m, rows, bs, rung, pile, k, h, how, u, b, v, rfl, _⟩ := h
    rfl
  · obtain ⟨x, q, m, rows, bs, rung, pile, k, h, how, u, b, v, rfl, M, hq, hb, z⟩ := h
    have hu := hu_of hr
    refine ⟨_, pss_one (ps_dput hu (pe_fld (pv 0) rfl) (pe_ix ix_tup (pv 1) pe_int (fun _ _ => rfl)) (pe_ix ix_list (pe_fld (pv 0) rfl) (pe_ix ix_tup (pv 1) pe_int (fun _ _ => rfl)) (fun _ _ => rfl)) rfl), ?_⟩
    refine ⟨_, rfl, x, C, m.dx, _, _, rfl, M.obj, T.cl, T.nB, f_box, _, rfl, q, _, _, .int b, rfl, rfl, SqT.of hq, at1 _ _ _, m.p2, _, _, _, rfl, rfl, SqL.of M.box, M.at hb, _, rfl, x, C, m.dx, _, _, rfl, M.obj, T.cl, T.nA, f_asd, _, rfl, q, _, _, .int v, rfl, rfl, SqT.of hq, at2 _ _ _ _, m.p4, _, rfl, DPut.k (k := Sum.inl v) M.asd (by show 0 < sizeLine; decide), ?_⟩
    exact z _ (Fr.upd (.inr (.inr (.inr (.inl rfl))))) (M.stands.upd M.x4)
theorem sc_tell : FnScope ["machine", "row"] ["machine", "row"] (defScope d_tell) := ⟨rfl, rfl, rfl, by decide +kernel, rfl, by decide +kernel, by decide +kernel⟩
theorem ok_tell {f C : Addr} {fd : FuncData} (F : Fun K "do_tell" "do_tell" d_tell f fd) (T : MTx K mg C) : FnOk P w K mg base CX0 1 f fd ["machine", "row"] (spT C) := by
  refine F.ok sc_tell (fun vs H Q E h => ?_) (fun cdv A outer s H vs Q E hr h => ?_)
  · obtain ⟨x, q, m, rows, bs, rung, pile, k, h, how, u, b, rfl, _⟩ := h
    rfl
  · obtain ⟨x, q, m, rows, bs, rung, pile, k, h, how, u, b, rfl, M, hq, hb, z⟩ := h
    have hu := hu_of hr
    refine ⟨_, pss_one (ps_expr (pe_bm PySem.F.plainAttrs_list PySem.F.slot_list_append PySem.F.type_list_append mt_append (pe_fld (pv 0) rfl) (pa_cons (pe_ix ix_list (pe_fld (pv 0) rfl) (pe_ix ix_tup (pv 1) pe_int (fun _ _ => rfl)) (fun _ _ => rfl)) pa_nil))), ?_⟩
    refine ⟨_, rfl, x, C, m.dx, _, _, rfl, M.obj, T.cl, T.nT, f_told, .inl ⟨rfl, _, SqL.of M.told⟩, _, rfl, x, C, m.dx, _, _, rfl, M.obj, T.cl, T.nB, f_box, _, rfl, q, _, _, .int b, rfl, rfl, SqT.of hq, at1 _ _ _, m.p2, _, _, _, rfl, rfl, SqL.of M.box, M.at hb, m.p6, _, _, rfl, rfl, M.told, (by show 0 < sizeLine; decide), ?_⟩
    exact z _ (Fr.upd (.inr (.inr (.inr (.inr (.inr (.inl rfl))))))) (M.stands.upd M.x6)
theorem sc_see : FnScope ["machine", "row"] ["machine", "row"] (defScope d_see) := ⟨rfl, rfl, rfl, by decide +kernel, rfl, by decide +kernel, by decide +kernel⟩
theorem ok_see {f C : Addr} {fd : FuncData} (F : Fun K "do_see" "do_see" d_see f fd) (T : MTx K mg C) : FnOk P w K mg base CX0 1 f fd ["machine", "row"] (spV C) := by
  refine F.ok sc_see (fun vs H Q E h => ?_) (fun cdv A outer s H vs Q E hr h => ?_)
  · obtain ⟨x, q, m, rows, bs, rung, pile, k, h, how, u, b, v, rfl, _⟩ := h
    rfl
  · obtain ⟨x, q, m, rows, bs, rung, pile, k, h, how, u, b, v, rfl, M, hq, hb, z⟩ := h
    have hu := hu_of hr
    refine ⟨_, pss_one (ps_expr (pe_bm PySem.F.plainAttrs_list PySem.F.slot_list_append PySem.F.type_list_append mt_append (pe_fld (pv 0) rfl) (pa_cons (pe_tup (pa_cons (pe_ix ix_tup (pv 1) pe_int (fun _ _ => rfl)) (pa_cons (pe_ix ix_list (pe_fld (pv 0) rfl) (pe_ix ix_tup (pv 1) pe_int (fun _ _ => rfl)) (fun _ _ => rfl)) pa_nil))) pa_nil))), ?_⟩
    refine ⟨_, rfl, x, C, m.dx, _, _, rfl, M.obj, T.cl, T.nS, f_seen, .inl ⟨rfl, _, SqL.of M.seen⟩, _, rfl, q, _, _, .int v, rfl, rfl, SqT.of hq, at2 _ _ _ _, _, rfl, x, C, m.dx, _, _, rfl, M.obj, T.cl, T.nB, f_box, _, rfl, q, _, _, .int b, rfl, rfl, SqT.of hq, at1 _ _ _, m.p2, _, _, _, rfl, rfl, SqL.of M.box, M.at hb, (by show 2 ≤ sizeLine; decide), fun t nt => ?_⟩
    have s1 := same_new (o := .tup [.int v, .int (bs.getD b.toNat 0)]) nt
    refine ⟨m.p7, _, _, rfl, rfl, s1 _ _ M.seen, (by show 0 < sizeLine; decide), ?_⟩
    exact z _ ((Fr.same s1).trans (Fr.upd (.inr (.inr (.inr (.inr (.inr (.inr (.inl rfl))))))))) ((M.same s1).stands.upd M.x7)
theorem sc_jump : FnScope ["machine", "row"] ["machine", "row"] (defScope d_jump) := ⟨rfl, rfl, rfl, by decide +kernel, rfl, by decide +kernel, by decide +kernel⟩
theorem ok_jump {f C : Addr} {fd : FuncData} (F : Fun K "do_jump" "do_jump" d_jump f fd) (T : MTx K mg C) : FnOk P w K mg base CX0 1 f fd ["machine", "row"] (spJ C) := by
  refine F.ok sc_jump (fun vs H Q E h => ?_) (fun cdv A outer s H vs Q E hr h => ?_)
  · obtain ⟨x, q, m, rows, bs, rung, pile, k, h, how, u, t, f, rfl, _⟩ := h
    rfl
  · obtain ⟨x, q, m, rows, bs, rung, pile, k, h, how, u, t, f, rfl, M, hq, z⟩ := h
    have hu := hu_of hr
    refine ⟨_, pss_one (ps_fld (pv 0) (pe_ix ix_tup (pv 1) pe_int (fun _ _ => rfl)) rfl), ?_⟩
    refine ⟨_, rfl, q, _, _, .int t, rfl, rfl, SqT.of hq, at1 _ _ _, _, rfl, x, C, m.dx, _, rfl, M.obj, T.cl, T.nH, f_few, ?_⟩
    rw [s_here]
    exact z _ (Fr.upd (.inl rfl)) ⟨m, k, how, upd_same⟩
theorem sc_zero : FnScope ["machine", "row"] ["machine", "row"] (defScope d_zero) := ⟨rfl, rfl, rfl, by decide +kernel, rfl, by decide +kernel, by decide +kernel⟩
theorem ok_zero {f C : Addr} {fd : FuncData} (F : Fun K "do_zero" "do_zero" d_zero f fd) (T : MTx K mg C) : FnOk P w K mg base CX0 1 f fd ["machine", "row"] (spZ C) := by
  refine F.ok sc_zero (fun vs H Q E h => ?_) (fun cdv A outer s H vs Q E hr h => ?_)
  · obtain ⟨x, q, m, rows, bs, rung, pile, k, h, how, u, b, t, f, rfl, _⟩ := h
    rfl
  · obtain ⟨x, q, m, rows, bs, rung, pile, k, h, how, u, b, t, f, rfl, M, hq, hb, z⟩ := h
    have hu := hu_of hr
    refine ⟨_, pss_one (ps_if (pt_cmpR op_eq (pe_ix ix_list (pe_fld (pv 0) rfl) (pe_ix ix_tup (pv 1) pe_int (fun _ _ => rfl)) (fun _ _ => rfl)) pe_int (nomark _)) (pss_one (ps_fld (pv 0) (pe_ix ix_tup (pv 1) pe_int (fun _ _ => rfl)) rfl)) pss_nil), ?_⟩
    refine ⟨_, rfl, x, C, m.dx, _, _, rfl, M.obj, T.cl, T.nB, f_box, _, rfl, q, _, _, .int b, rfl, rfl, SqT.of hq, at1 _ _ _, m.p2, _, _, _, rfl, rfl, SqL.of M.box, M.at hb, rfl, _, rfl, ?_⟩
    refine ite2 (fun e => ?_) (fun e => ?_)
    · have e := V.int.inj (of_decide_eq_true e)
      refine ⟨_, rfl, q, _, _, .int t, rfl, rfl, SqT.of hq, at2 _ _ _ _, _, rfl, x, C, m.dx, _, rfl, M.obj, T.cl, T.nH, f_few, ?_⟩
      rw [s_here]
      rw [if_pos e] at z
      exact z _ (Fr.upd (.inl rfl)) ⟨m, k, how, upd_same⟩
    · rw [if_neg (fun c => e (decide_eq_true (by rw [c])))] at z
      exact z _ Fr.refl M.stands
theorem sc_below : FnScope ["machine", "row"] ["machine", "row"] (defScope d_below) := ⟨rfl, rfl, rfl, by decide +kernel, rfl, by decide +kernel, by decide +kernel⟩
theorem ok_below {f C : Addr} {fd : FuncData} (F : Fun K "do_below" "do_below" d_below f fd) (T : MTx K mg C) : FnOk P w K mg base CX0 1 f fd ["machine", "row"] (spB C) := by
  refine F.ok sc_below (fun vs H Q E h => ?_) (fun cdv A outer s H vs Q E hr h => ?_)
  · obtain ⟨x, q, m, rows, bs, rung, pile, k, h, how, u, b, t, f, rfl, _⟩ := h
    rfl
  · obtain ⟨x, q, m, rows, bs, rung, pile, k, h, how, u, b, t, f, rfl, M, hq, hb, z⟩ := h
    have hu := hu_of hr
    refine ⟨_, pss_one (ps_if (pt_cmpR op_lt (pe_ix ix_list (pe_fld (pv 0) rfl) (pe_ix ix_tup (pv 1) pe_int (fun _ _ => rfl)) (fun _ _ => rfl)) pe_int (nomark _)) (pss_one (ps_fld (pv 0) (pe_ix ix_tup (pv 1) pe_int (fun _ _ => rfl)) rfl)) pss_nil), ?_⟩
    refine ⟨_, rfl, x, C, m.dx, _, _, rfl, M.obj, T.cl, T.nB, f_box, _, rfl, q, _, _, .int b, rfl, rfl, SqT.of hq, at1 _ _ _, m.p2, _, _, _, rfl, rfl, SqL.of M.box, M.at hb, _, _, rfl, rfl, _, rfl, ?_⟩
    refine ite2 (fun e => ?_) (fun e => ?_)
    · have e := of_decide_eq_true e
      refine ⟨_, rfl, q, _, _, .int t, rfl, rfl, SqT.of hq, at2 _ _ _ _, _, rfl, x, C, m.dx, _, rfl, M.obj, T.cl, T.nH, f_few, ?_⟩
      rw [s_here]
      rw [if_pos e] at z
      exact z _ (Fr.upd (.inl rfl)) ⟨m, k, how, upd_same⟩
    · rw [if_neg (fun c => e (decide_eq_true c))] at z
      exact z _ Fr.refl M.stands
theorem sc_stop : FnScope ["machine", "row"] ["machine", "row"] (defScope d_stop) := ⟨rfl, rfl, rfl, by decide +kernel, rfl, by decide +kernel, by decide +kernel⟩
theorem ok_stop {f C : Addr} {fd : FuncData} (F : Fun K "do_stop" "do_stop" d_stop f fd) (T : MTx K mg C)
    {fE : Addr} {fdE : FuncData} (GE : FnOk P w K mg base CX0 1 fE fdE ["machine", "how"] (spEnd C)) (kE : PySem.W.keepIn K (.ref fE) = true) (bE : Binds K fdE ["machine", "how"] []) (mE : mg "end" = some (.ref fE)) : FnOk P w K mg base CX0 2 f fd ["machine", "row"] (spS C) := by
  refine F.ok sc_stop (fun vs H Q E h => ?_) (fun cdv A outer s H vs Q E hr h => ?_)
  · obtain ⟨x, q, m, rows, bs, rung, pile, k, h, how, u, items, rfl, _⟩ := h
    rfl
  · obtain ⟨x, q, m, rows, bs, rung, pile, k, h, how, u, items, rfl, M, hq, z⟩ := h
    have hu := hu_of hr
    refine ⟨_, pss_one (ps_expr (pe_call GE hr rfl mE kE bE .nil pass0 (pa_cons (pv 0) (pa_cons (pe_tup (pa_cons pe_str pa_nil)) pa_nil)))), ?_⟩
    refine ⟨_, rfl, (by show 1 ≤ sizeLine; decide), fun t nt => ?_⟩
    have s1 := same_new (o := .tup [.str "stop"]) nt
    exact ⟨x, _, m, rows, bs, rung, pile, k, _, how, rfl, M.same s1, fun H' e => z H' ((Fr.same s1).trans e)⟩
theorem sc_halt : FnScope ["machine", "row"] ["machine", "row"] (defScope d_halt) := ⟨rfl, rfl, rfl, by decide +kernel, rfl, by decide +kernel, by decide +kernel⟩
theorem ok_halt {f C : Addr} {fd : FuncData} (F : Fun K "do_halt" "do_halt" d_halt f fd) (T : MTx K mg C)
    {fE : Addr} {fdE : FuncData} (GE : FnOk P w K mg base CX0 1 fE fdE ["machine", "how"] (spEnd C)) (kE : PySem.W.keepIn K (.ref fE) = true) (bE : Binds K fdE ["machine", "how"] []) (mE : mg "end" = some (.ref fE)) : FnOk P w K mg base CX0 2 f fd ["machine", "row"] (spHalt C) := by
  refine F.ok sc_halt (fun vs H Q E h => ?_) (fun cdv A outer s H vs Q E hr h => ?_)
  · obtain ⟨x, q, m, rows, bs, rung, pile, k, h, how, u, v, rfl, _⟩ := h
    rfl
  · obtain ⟨x, q, m, rows, bs, rung, pile, k, h, how, u, v, rfl, M, hq, z⟩ := h
    have hu := hu_of hr
    refine ⟨_, pss_one (ps_expr (pe_call GE hr rfl mE kE bE .nil pass0 (pa_cons (pv 0) (pa_cons (pe_tup (pa_cons pe_str (pa_cons (pe_ix ix_tup (pv 1) pe_int (fun _ _ => rfl)) pa_nil))) pa_nil)))), ?_⟩
    refine ⟨_, rfl, _, rfl, q, _, _, .int v, rfl, rfl, SqT.of hq, at1 _ _ _, (by show 2 ≤ sizeLine; decide), fun t nt => ?_⟩
    have s1 := same_new (o := .tup [.str "halt", .int v]) nt
    exact ⟨x, _, m, rows, bs, rung, pile, k, _, how, rfl, M.same s1, fun H' e => z H' ((Fr.same s1).trans e)⟩
theorem sc_back : FnScope ["machine", "row"] ["machine", "row"] (defScope d_back) := ⟨rfl, rfl, rfl, by decide +kernel, rfl, by decide +kernel, by decide +kernel⟩
theorem ok_back {f C : Addr} {fd : FuncData} (F : Fun K "do_back" "do_back" d_back f fd) (T : MTx K mg C)
    {fE : Addr} {fdE : FuncData} (GE : FnOk P w K mg base CX0 1 fE fdE ["machine", "how"] (spEnd C)) (kE : PySem.W.keepIn K (.ref fE) = true) (bE : Binds K fdE ["machine", "how"] []) (mE : mg "end" = some (.ref fE)) (ln : mg "len" = none) : FnOk P w K mg base CX0 2 f fd ["machine", "row"] (spBack C) := by
  refine F.ok sc_back (fun vs H Q E h => ?_) (fun cdv A outer s H vs Q E hr h => ?_)
  · obtain ⟨x, q, m, rows, bs, rung, pile, k, h, how, u, items, rfl, _⟩ := h
    rfl
  · obtain ⟨x, q, m, rows, bs, rung, pile, k, h, how, u, items, rfl, M, hq, z⟩ := h
    have hu := hu_of hr
    refine ⟨_, pss_one (ps_if (pt_cmpR op_eq (pe_callB call_len_seq (by rfl) ln bt_len (pa_cons (pe_fld (pv 0) rfl) pa_nil)) pe_int (nomark _)) (pss_one (ps_expr (pe_call GE hr (by rfl) mE kE bE .nil pass0 (pa_cons (pv 0) (pa_cons (pe_tup (pa_cons pe_str pa_nil)) pa_nil))))) (pss_one (ps_fld (pv 0) (pe_bm0 PySem.F.plainAttrs_list PySem.F.slot_list_pop PySem.F.type_list_pop mt_pop (pe_fld (pv 0) rfl)) rfl))), ?_⟩
    refine ⟨_, rfl, x, C, m.dx, _, _, rfl, M.obj, T.cl, T.nL, f_pile, m.p8, _, rfl, .inl (SqL.of M.pil), rfl, _, rfl, ?_⟩
    refine ite2 (fun e => ?_) (fun e => ?_)
    · have e := V.int.inj (of_decide_eq_true e)
      rw [List.length_map] at e
      have e2 : pile = [] := List.eq_nil_of_length_eq_zero (by omega)
      refine ⟨_, rfl, (by show 1 ≤ sizeLine; decide), fun t nt => ?_⟩
      have s1 := same_new (o := .tup [.str "home"]) nt
      exact ⟨x, _, m, rows, bs, rung, pile, k, _, how, rfl, M.same s1, fun H' e => z.1 e2 H' ((Fr.same s1).trans e)⟩
    · have e2 : pile ≠ [] := fun c => e (by rw [c]; exact decide_eq_true rfl)
      obtain ⟨r, p, e3⟩ : ∃ r p, pile = r ++ [p] := ⟨pile.dropLast, pile.getLast e2, (List.dropLast_concat_getLast e2).symm⟩
      have hl : (pile.map V.int)[(pile.map V.int).length - 1]? = some (V.int p) := by
        rw [e3]
        simp
      refine ⟨_, rfl, x, C, m.dx, _, _, rfl, M.obj, T.cl, T.nL, f_pile, .inl ⟨rfl, _, SqL.of M.pil⟩, m.p8, _, V.int p, rfl, rfl, M.pil, hl, ?_⟩
      refine ⟨_, rfl, x, C, m.dx, _, rfl, (by rw [upd_ne M.x8]; exact M.obj), T.cl, T.nH, f_few, ?_⟩
      rw [s_here]
      exact z.2 r p e3 _ ((Fr.upd (.inr (.inr (.inr (.inr (.inr (.inr (.inr rfl)))))))).trans (Fr.upd (.inl rfl))) ⟨m, k, how, upd_same⟩
theorem sc_call : FnScope ["machine", "row"] ["machine", "row"] (defScope d_call) := ⟨rfl, rfl, rfl, by decide +kernel, rfl, by decide +kernel, by decide +kernel⟩
theorem ok_call {f C : Addr} {fd : FuncData} (F : Fun K "do_call" "do_call" d_call f fd) (T : MTx K mg C) : FnOk P w K mg base CX0 1 f fd ["machine", "row"] (spCall C) := by
  refine F.ok sc_call (fun vs H Q E h => ?_) (fun cdv A outer s H vs Q E hr h => ?_)
  · obtain ⟨x, q, m, rows, bs, rung, pile, k, h, how, u, t, f, rfl, _⟩ := h
    rfl
  · obtain ⟨x, q, m, rows, bs, rung, pile, k, h, how, u, t, f, rfl, M, hq, hp, z⟩ := h
    have hu := hu_of hr
    refine ⟨_, pss_cons (ps_expr (pe_bm PySem.F.plainAttrs_list PySem.F.slot_list_append PySem.F.type_list_append mt_append (pe_fld (pv 0) rfl) (pa_cons (pe_fld (pv 0) rfl) pa_nil))) (pss_one (ps_fld (pv 0) (pe_ix ix_tup (pv 1) pe_int (fun _ _ => rfl)) rfl)), ?_⟩
    refine ⟨_, rfl, x, C, m.dx, _, _, rfl, M.obj, T.cl, T.nL, f_pile, .inl ⟨rfl, _, SqL.of M.pil⟩, _, rfl, x, C, m.dx, _, _, rfl, M.obj, T.cl, T.nH, f_here, m.p8, _, _, rfl, rfl, M.pil, (by rw [List.length_map]; exact small1000 (by omega)), ?_⟩
    rw [show pile.map V.int ++ [V.int h] = (pile ++ [h]).map V.int by simp]
    have M2 := M.pushed (pile' := pile ++ [h])
    have hq2 : upd H m.p8 (.lst ((pile ++ [h]).map V.int)) q = some (.tup [.str u, .int t, .int f]) := by
      rw [upd_ne (ne_of hq M.pil (by intro z; cases z))]
      exact hq
    refine ⟨_, rfl, q, _, _, .int t, rfl, rfl, SqT.of hq2, at1 _ _ _, _, rfl, x, C, m.dx, _, rfl, M2.obj, T.cl, T.nH, f_few, ?_⟩
    rw [s_here]
    exact z _ ((Fr.upd (.inr (.inr (.inr (.inr (.inr (.inr (.inr rfl)))))))).trans (Fr.upd (.inl rfl))) M2.put
theorem sc_mark : FnScope ["machine", "row", "number"] ["machine", "row"] (defScope d_mark) := ⟨rfl, rfl, rfl, by decide +kernel, rfl, by decide +kernel, by decide +kernel⟩
theorem ok_mark {f C : Addr} {fd : FuncData} (F : Fun K "do_mark" "do_mark" d_mark f fd) (T : MTx K mg C)
    {fC : Addr} {fdC : FuncData} (GC : FnOk P w K mg base CX0 1 fC fdC ["machine", "row"] (spCall C)) (kC : PySem.W.keepIn K (.ref fC) = true) (bC : Binds K fdC ["machine", "row"] []) (mC : mg "do_call" = some (.ref fC)) : FnOk P w K mg base CX0 2 f fd ["machine", "row"] (spMark C) := by
  refine F.ok sc_mark (fun vs H Q E h => ?_) (fun cdv A outer s H vs Q E hr h => ?_)
  · obtain ⟨x, q, m, rows, bs, rung, pile, k, h, how, u, t, f, o, rfl, _⟩ := h
    rfl
  · obtain ⟨x, q, m, rows, bs, rung, pile, k, h, how, u, t, f, o, rfl, M, hq, hp, ho, z⟩ := h
    have hu := hu_of hr
    refine ⟨_, pss_cons (ps_set (i := 2) sc_mark.nd rfl (Or.inl rfl) (pe_fld (pv 0) rfl)) (pss_cons (ps_fld (pv 0) (pe_op op_add (pv 2) pe_int) rfl) (pss_one (ps_if (pt_cmp (pc_din hu (pv 2) (pe_fld (pv 0) rfl))) (pss_one (ps_expr (pe_call GC hr (by rfl) mC kC bC .nil pass0 (pa_cons (pv 0) (pa_cons (pv 1) pa_nil))))) pss_nil))), ?_⟩
    refine ⟨_, rfl, x, C, m.dx, _, _, rfl, M.obj, T.cl, T.nM, f_marks, ?_⟩
    refine ⟨_, rfl, _, _, rfl, rfl, _, rfl, x, C, m.dx, _, rfl, M.obj, T.cl, T.nM, f_few, ?_⟩
    rw [s_marks]
    have M2 := M.put (k' := k + 1) (here' := .int h) (how' := how)
    refine ⟨_, rfl, _, rfl, x, C, m.dx, _, _, rfl, M2.obj, T.cl, T.nR, f_rung, m.p5, _, rfl, DGet.k (k := Sum.inl k) M2.rg, _, rfl, ?_⟩
    rw [ho]
    refine ite2 (fun e => ?_) (fun e => ?_)
    · have hq2 : upd H x (.ins C m.dx (flds m (k + 1) (.int h) how)) q = some (.tup [.str u, .int t, .int f]) := by
        rw [upd_ne (ne_of hq M.obj (by intro z; cases z))]
        exact hq
      exact ⟨_, rfl, _, rfl, x, q, m, rows, bs, rung, pile, k + 1, h, how, u, t, f, rfl, M2, hq2, hp, fun H' e1 e2 => z.1 e H' ((Fr.upd (.inl rfl)).trans e1) e2⟩
    · exact z.2 (by simpa using e) _ (Fr.upd (.inl rfl)) M2
theorem sc_table : FnScope ["machine", "row", "k"] ["machine", "row"] (defScope d_table) := ⟨rfl, rfl, rfl, by decide +kernel, rfl, by decide +kernel, by decide +kernel⟩
theorem ok_table {f C : Addr} {fd : FuncData} (F : Fun K "do_table" "do_table" d_table f fd) (T : MTx K mg C) (ln : mg "len" = none) : FnOk P w K mg base CX0 1 f fd ["machine", "row"] (spTab C) := by
  refine F.ok sc_table (fun vs H Q E h => ?_) (fun cdv A outer s H vs Q E hr h => ?_)
  · obtain ⟨x, q, m, rows, bs, rung, pile, k, h, how, u, b, p, ts, rfl, _⟩ := h
    rfl
  · obtain ⟨x, q, m, rows, bs, rung, pile, k, h, how, u, b, p, ts, rfl, M, hq, hb, hp, z⟩ := h
    have hu := hu_of hr
    refine ⟨_, pss_cons (ps_set (i := 2) sc_table.nd rfl (Or.inl rfl) (pe_ix ix_list (pe_fld (pv 0) rfl) (pe_ix ix_tup (pv 1) pe_int (fun _ _ => rfl)) (fun _ _ => rfl))) (pss_one (ps_if (pt_chain op_le op_lt pe_int (pv 2) (pe_callB call_len_seq (by rfl) ln bt_len (pa_cons (pe_ix ix_tup (pv 1) pe_int (fun _ _ => rfl)) pa_nil))) (pss_one (ps_fld (pv 0) (pe_ix ix_tup (pe_ix ix_tup (pv 1) pe_int (fun _ _ => rfl)) (pv 2) (fun _ _ => rfl)) rfl)) pss_nil)), ?_⟩
    refine ⟨_, rfl, x, C, m.dx, _, _, rfl, M.obj, T.cl, T.nB, f_box, _, rfl, q, _, _, .int b, rfl, rfl, SqT.of hq, at1 _ _ _, m.p2, _, _, _, rfl, rfl, SqL.of M.box, M.at hb, ?_⟩
    generalize bs.getD b.toNat 0 = c at z
    refine ⟨_, rfl, _, _, rfl, rfl, _, rfl, ?_⟩
    refine ite2 (fun e1 => ?_) (fun e1 => ?_)
    · have e1 := of_decide_eq_true e1
      refine ⟨_, rfl, q, _, _, .ref p, rfl, rfl, SqT.of hq, at2 _ _ _ _, p, _, rfl, .inr (SqT.of hp), _, _, rfl, rfl, _, rfl, ?_⟩
      refine ite2 (fun e2 => ?_) (fun e2 => ?_)
      · have e2 := of_decide_eq_true e2
        rw [List.length_map] at e2
        obtain ⟨j, rfl⟩ := Int.eq_ofNat_of_zero_le e1
        have hj : j < ts.length := by omega
        have hat : atI (ts.map V.int) (j : Int) = some (.int (ts.getD j 0)) := by
          refine atI_nat (j := j) ?_
          rw [List.getElem?_map, List.getElem?_eq_getElem hj, List.getD_eq_getElem?_getD, List.getElem?_eq_getElem hj]
          rfl
        refine ⟨_, rfl, q, _, _, .ref p, rfl, rfl, SqT.of hq, at2 _ _ _ _, _, rfl, p, _, _, _, rfl, rfl, SqT.of hp, hat, _, rfl, x, C, m.dx, _, rfl, M.obj, T.cl, T.nH, f_few, ?_⟩
        rw [s_here]
        rw [if_pos ⟨e1, e2⟩, Int.toNat_natCast] at z
        exact z _ (Fr.upd (.inl rfl)) ⟨m, k, how, upd_same⟩
      · rw [if_neg (fun c => e2 (decide_eq_true (by rw [List.length_map]; exact c.2)))] at z
        exact z _ Fr.refl M.stands
    · rw [if_neg (fun c => e1 (decide_eq_true c.1))] at z
      exact ⟨_, rfl, iteF (z _ Fr.refl M.stands)⟩
end
end My

set_option Elab.async false
set_option linter.all false
set_option maxRecDepth 100000
set_option maxHeartbeats 4000000
namespace L2
open PySem
theorem call_dict_of {X : Cx} : CallR X (.type "dict") (fun xs H Q => ∃ (p : Addr) (kvs : List (Key × V)), xs = [.ref p] ∧ H p = some (.dK kvs) ∧ ∀ l, H l = none → Q (.ref l) (upd H l (.dK kvs))) := by
  intro pins s σ H xs us0 Q I r h
  obtain ⟨p, kvs, rfl, hp, q⟩ := h
  obtain ⟨u, rfl, ru⟩ := vals1 r
  cases ru
  exact d_copyOf I (.of hp) fun l s' hl I' => ⟨.ref l, _, I', rfl, q l hl⟩
end L2
namespace My
open PySem L2
abbrev sInit : Stmt := inClass (top 33) 0
abbrev sRowM : Stmt := inClass (top 33) 1
abbrev sStep : Stmt := inClass (top 33) 10
theorem bt_dict : bootBuiltins "dict" = some (.type "dict") := by decide +kernel
def SameX (a : Addr) (H H' : Hp) : Prop := ∀ c o, c ≠ a → H c = some o → H' c = some o
theorem SameX.refl {a : Addr} {H : Hp} : SameX a H H := fun _ _ _ e => e
theorem SameX.trans {a : Addr} {H H' H'' : Hp} (e : SameX a H H') (e' : SameX a H' H'') : SameX a H H'' := fun c o n h => e' c o n (e c o n h)
theorem SameX.put {a : Addr} {H : Hp} {o : HO} : SameX a H (upd H a o) := fun c u n h => by rw [upd_ne n]; exact h
theorem SameX.same {a : Addr} {H H' : Hp} (e : Same H H') : SameX a H H' := fun c o _ h => e c o h
theorem SameX.free {l : Addr} {H H1 : Hp} {q : Addr} (x : SameX l H H1) (h : q ≠ l) (n : H1 q = none) : H q = none := by
  cases e : H q with
  | none => rfl
  | some o => rw [x q o h e] at n; exact absurd n (by simp)
section
variable {P : Program} {w : World} {K : PySem.W.Frag} {mg : Str → Option Value} {base : Heap}
/-! ### row() -/
def spRowM (C : Addr) : Sp := fun vs H Q _ => ∃ (x : Addr) (v : V), vs = [.ref x] ∧ Here C H x v ∧ Q v H
theorem scRowM : FnScope ["self"] ["self"] (defScope sRowM) := ⟨rfl, rfl, rfl, by decide +kernel, rfl, by decide +kernel, by decide +kernel⟩
theorem ok_rowM {f C : Addr} {fd : FuncData} (F : Fun K "row" "Machine.row" sRowM f fd) (T : MTx K mg C) : FnOk P w K mg base CX0 1 f fd ["self"] (spRowM C) := by
  refine F.ok scRowM (fun vs H Q E h => ?_) (fun cdv A outer s H vs Q E hr h => ?_)
  · obtain ⟨x, v, rfl, _⟩ := h
    rfl
  · obtain ⟨x, v, rfl, ⟨m, k, how, hx⟩, z⟩ := h
    refine ⟨_, pss_one (ps_ret (pe_fld (pv 0) rfl)), ?_⟩
    exact ⟨_, rfl, x, C, m.dx, _, _, rfl, hx, T.cl, T.nH, f_here, z⟩
/-! ### a machine is made -/
def spInit (C : Addr) : Sp := fun vs H Q _ => ∃ (x dx a1 a2 a3 a4 : Addr) (rows : List V) (bs bells : List Int), vs = [.ref x, .ref a1, .ref a2, .ref a3, .ref a4] ∧ H x = some (.ins C dx []) ∧ H a1 = some (.lst rows) ∧ H a2 = some (.lst (bs.map V.int)) ∧ bs.length = 8 ∧
  H a3 = some (.dK []) ∧ H a4 = some (.lst (bells.map V.int)) ∧ bells.length ≤ 100 ∧ ∀ (m : MA) (rung : List (Key × V)) (H' : Hp), (∀ j : Int, (valV rung (Sum.inl j)).isSome = decide (j ∈ bells)) → MS C H' x m rows bs rung [] 0 (.int 0) .non → SameX x H H' → (∀ c, Own m x c → c ≠ x → H c = none) → Q .non H'
theorem scInit : FnScope ["self", "rows", "boxes", "cells", "bells", "bell"] ["self", "rows", "boxes", "cells", "bells"] (defScope sInit) := ⟨rfl, rfl, rfl, by decide +kernel, rfl, by decide +kernel, by decide +kernel⟩
theorem ok_init {f C : Addr} {fd : FuncData} (F : Fun K "__init__" "Machine.__init__" sInit f fd) (TT : Txt K mg) (T : MTx K mg C) : FnOk P w K mg base CX0 1 f fd ["self", "rows", "boxes", "cells", "bells"] (spInit C) := by
  refine F.ok scInit (fun vs H Q E h => ?_) (fun cdv A outer s H vs Q E hr h => ?_)
  · obtain ⟨x, dx, a1, a2, a3, a4, rows, bs, bells, rfl, _⟩ := h
    rfl
  · obtain ⟨x, dx, a1, a2, a3, a4, rows, bs, bells, rfl, hx, h1, h2, b8, h3, h4, bl, z⟩ := h
    have hu := hu_of hr
    refine ⟨_, pss_cons (ps_fld (pv 0) (pe_callTy call_list_of (by rfl) TT.list bt_list (pa_cons (pv 1) pa_nil)) rfl)
      (pss_cons (ps_fld (pv 0) (pe_callTy call_list_of (by rfl) TT.list bt_list (pa_cons (pv 2) pa_nil)) rfl)
      (pss_cons (ps_fld (pv 0) (pe_callTy call_dict_of (by rfl) TT.dict bt_dict (pa_cons (pv 3) pa_nil)) rfl)
      (pss_cons (ps_fld (pv 0) pe_dnewK rfl) (pss_cons (ps_fld (pv 0) pe_dnewK rfl)
      (pss_cons (ps_for PassesOwn.never rfl (pi_list (pv 4)) (pg_name (i := 5) scInit.nd rfl (Or.inl rfl)) (pss_one (ps_dput hu (pe_fld (pv 0) rfl) (pv 5) pe_bl rfl)))
      (pss_cons (ps_fld (pv 0) (pe_lst pa_nil) rfl) (pss_cons (ps_fld (pv 0) (pe_lst pa_nil) rfl) (pss_cons (ps_fld (pv 0) (pe_lst pa_nil) rfl)
      (pss_cons (ps_fld (pv 0) pe_int rfl) (pss_cons (ps_fld (pv 0) pe_int rfl) (pss_one (ps_fld (pv 0) pe_non rfl)))))))))))), ?_⟩
    have xa : ∀ {a o}, H a = some o → (∀ fs, o ≠ .ins C dx fs) → a ≠ x := fun {a o} e n => ne_of e hx (n _)
    have x1 := xa h1 (by intro _ z; cases z)
    have x2 := xa h2 (by intro _ z; cases z)
    have x3 := xa h3 (by intro _ z; cases z)
    have x4 := xa h4 (by intro _ z; cases z)
    have S0 : SameX x H H := SameX.refl
    have O0 := hx
    refine ⟨_, rfl, a1, _, rfl, .inl (SqL.of h1), fun p1 n1 => ?_⟩
    have y1 : p1 ≠ x := (ne_of_none O0 n1).symm
    have f1 : H p1 = none := S0.free y1 n1
    refine ⟨_, rfl, x, C, dx, ([] : List (Str × V)), rfl, same_new n1 _ _ O0, T.cl, T.nP, (by show 0 < 1000; decide), ?_⟩
    rw [show putF ("program" : Str) (V.ref p1) ([] : List (Str × V)) = (List.zip ["program"] [V.ref p1] : List (Str × V)) from rfl]
    obtain ⟨G1, E1⟩ : ∃ G, G = upd (upd H p1 (.lst rows)) x (.ins C dx (List.zip ["program"] [V.ref p1] : List (Str × V))) := ⟨_, rfl⟩
    have R1 : SameX x H G1 := by rw [E1]; exact (SameX.same (same_new n1)).trans SameX.put
    have K1 : G1 p1 = some (.lst rows) := by rw [E1, upd_ne y1]; exact upd_same
    have O1 : G1 x = some (.ins C dx (List.zip ["program"] [V.ref p1] : List (Str × V))) := by rw [E1]; exact upd_same
    have S1 : SameX x H G1 := S0.trans R1
    rw [← E1]
    clear E1
    refine ⟨_, rfl, a2, _, rfl, .inl (SqL.of (S1 _ _ x2 h2)), fun p2 n2 => ?_⟩
    have y2 : p2 ≠ x := (ne_of_none O1 n2).symm
    have f2 : H p2 = none := S1.free y2 n2
    refine ⟨_, rfl, x, C, dx, (List.zip ["program"] [V.ref p1] : List (Str × V)), rfl, same_new n2 _ _ O1, T.cl, T.nB, (by show 1 < 1000; decide), ?_⟩
    rw [show putF ("in_boxes" : Str) (V.ref p2) (List.zip ["program"] [V.ref p1] : List (Str × V)) = (List.zip ["program", "in_boxes"] [V.ref p1, V.ref p2] : List (Str × V)) from put_new _ _ _ _ (by decide +kernel) rfl]
    obtain ⟨G2, E2⟩ : ∃ G, G = upd (upd G1 p2 (.lst (bs.map V.int))) x (.ins C dx (List.zip ["program", "in_boxes"] [V.ref p1, V.ref p2] : List (Str × V))) := ⟨_, rfl⟩
    have R2 : SameX x G1 G2 := by rw [E2]; exact (SameX.same (same_new n2)).trans SameX.put
    have K2 : G2 p2 = some (.lst (bs.map V.int)) := by rw [E2, upd_ne y2]; exact upd_same
    have O2 : G2 x = some (.ins C dx (List.zip ["program", "in_boxes"] [V.ref p1, V.ref p2] : List (Str × V))) := by rw [E2]; exact upd_same
    have S2 : SameX x H G2 := S1.trans R2
    rw [← E2]
    clear E2
    refine ⟨_, rfl, a3, _, rfl, S2 _ _ x3 h3, fun p3 n3 => ?_⟩
    have y3 : p3 ≠ x := (ne_of_none O2 n3).symm
    have f3 : H p3 = none := S2.free y3 n3
    refine ⟨_, rfl, x, C, dx, (List.zip ["program", "in_boxes"] [V.ref p1, V.ref p2] : List (Str × V)), rfl, same_new n3 _ _ O2, T.cl, T.nC, (by show 2 < 1000; decide), ?_⟩
    rw [show putF ("in_cells" : Str) (V.ref p3) (List.zip ["program", "in_boxes"] [V.ref p1, V.ref p2] : List (Str × V)) = (List.zip ["program", "in_boxes", "in_cells"] [V.ref p1, V.ref p2, V.ref p3] : List (Str × V)) from put_new _ _ _ _ (by decide +kernel) rfl]
    obtain ⟨G3, E3⟩ : ∃ G, G = upd (upd G2 p3 (.dK [])) x (.ins C dx (List.zip ["program", "in_boxes", "in_cells"] [V.ref p1, V.ref p2, V.ref p3] : List (Str × V))) := ⟨_, rfl⟩
    have R3 : SameX x G2 G3 := by rw [E3]; exact (SameX.same (same_new n3)).trans SameX.put
    have K3 : G3 p3 = some (.dK []) := by rw [E3, upd_ne y3]; exact upd_same
    have O3 : G3 x = some (.ins C dx (List.zip ["program", "in_boxes", "in_cells"] [V.ref p1, V.ref p2, V.ref p3] : List (Str × V))) := by rw [E3]; exact upd_same
    have S3 : SameX x H G3 := S2.trans R3
    rw [← E3]
    clear E3
    intro p4 n4
    have y4 : p4 ≠ x := (ne_of_none O3 n4).symm
    have f4 : H p4 = none := S3.free y4 n4
    refine ⟨_, rfl, x, C, dx, (List.zip ["program", "in_boxes", "in_cells"] [V.ref p1, V.ref p2, V.ref p3] : List (Str × V)), rfl, same_new n4 _ _ O3, T.cl, T.nA, (by show 3 < 1000; decide), ?_⟩
    rw [show putF ("in_asides" : Str) (V.ref p4) (List.zip ["program", "in_boxes", "in_cells"] [V.ref p1, V.ref p2, V.ref p3] : List (Str × V)) = (List.zip ["program", "in_boxes", "in_cells", "in_asides"] [V.ref p1, V.ref p2, V.ref p3, V.ref p4] : List (Str × V)) from put_new _ _ _ _ (by decide +kernel) rfl]
    obtain ⟨G4, E4⟩ : ∃ G, G = upd (upd G3 p4 (.dK [])) x (.ins C dx (List.zip ["program", "in_boxes", "in_cells", "in_asides"] [V.ref p1, V.ref p2, V.ref p3, V.ref p4] : List (Str × V))) := ⟨_, rfl⟩
    have R4 : SameX x G3 G4 := by rw [E4]; exact (SameX.same (same_new n4)).trans SameX.put
    have K4 : G4 p4 = some (.dK []) := by rw [E4, upd_ne y4]; exact upd_same
    have O4 : G4 x = some (.ins C dx (List.zip ["program", "in_boxes", "in_cells", "in_asides"] [V.ref p1, V.ref p2, V.ref p3, V.ref p4] : List (Str × V))) := by rw [E4]; exact upd_same
    have S4 : SameX x H G4 := S3.trans R4
    rw [← E4]
    clear E4
    intro p5 n5
    have y5 : p5 ≠ x := (ne_of_none O4 n5).symm
    have f5 : H p5 = none := S4.free y5 n5
    refine ⟨_, rfl, x, C, dx, (List.zip ["program", "in_boxes", "in_cells", "in_asides"] [V.ref p1, V.ref p2, V.ref p3, V.ref p4] : List (Str × V)), rfl, same_new n5 _ _ O4, T.cl, T.nR, (by show 4 < 1000; decide), ?_⟩
    rw [show putF ("rung" : Str) (V.ref p5) (List.zip ["program", "in_boxes", "in_cells", "in_asides"] [V.ref p1, V.ref p2, V.ref p3, V.ref p4] : List (Str × V)) = (List.zip ["program", "in_boxes", "in_cells", "in_asides", "rung"] [V.ref p1, V.ref p2, V.ref p3, V.ref p4, V.ref p5] : List (Str × V)) from put_new _ _ _ _ (by decide +kernel) rfl]
    obtain ⟨G5, E5⟩ : ∃ G, G = upd (upd G4 p5 (.dK [])) x (.ins C dx (List.zip ["program", "in_boxes", "in_cells", "in_asides", "rung"] [V.ref p1, V.ref p2, V.ref p3, V.ref p4, V.ref p5] : List (Str × V))) := ⟨_, rfl⟩
    have R5 : SameX x G4 G5 := by rw [E5]; exact (SameX.same (same_new n5)).trans SameX.put
    have K5 : G5 p5 = some (.dK []) := by rw [E5, upd_ne y5]; exact upd_same
    have O5 : G5 x = some (.ins C dx (List.zip ["program", "in_boxes", "in_cells", "in_asides", "rung"] [V.ref p1, V.ref p2, V.ref p3, V.ref p4, V.ref p5] : List (Str × V))) := by rw [E5]; exact upd_same
    have S5 : SameX x H G5 := S4.trans R5
    rw [← E5]
    clear E5
    refine ⟨_, rfl, a4, rfl, ⟨_, SqL.of (S5 _ _ x4 h4)⟩, for_list (xs := bells.map V.int) (fun i σ Hc => ∃ (v : Option V) (rung : List (Key × V)), σ = [some (.ref x), some (.ref a1), some (.ref a2), some (.ref a3), some (.ref a4), v] ∧ (∀ c o, c ≠ p5 → G5 c = some o → Hc c = some o) ∧ Hc p5 = some (.dK rung) ∧ rung.length ≤ i ∧ ∀ j : Int, (valV rung (Sum.inl j)).isSome = decide (j ∈ bells.take i)) ?_ ?_ ?_ ?_⟩
    · exact ⟨none, [], rfl, fun _ _ _ e => e, K5, Nat.le_refl _, fun j => by simp [valV]⟩
    · rintro i σ Hc _ ⟨v, rung, rfl, e5, _⟩
      have q5 : a4 ≠ p5 := ne_of_none h4 f5
      exact SqL.of (e5 _ _ q5 (S5 _ _ x4 h4))
    · rintro i y σ Hc hy ⟨v, rung, rfl, e5, k5, rl, rv⟩
      rw [List.getElem?_map] at hy
      obtain ⟨b, hb, rfl⟩ := Option.map_eq_some_iff.mp hy
      have hil := (List.getElem?_eq_some_iff.mp hb).1
      refine ⟨_, rfl, x, C, dx, _, _, rfl, e5 _ _ y5.symm O5, T.cl, T.nR, (look_zip ["program", "in_boxes", "in_cells", "in_asides", "rung"] _ 4 _ (by decide +kernel) rfl), _, rfl, p5, _, rfl, DPut.k (k := Sum.inl b) k5 (small1000 (by omega)), ?_⟩
      refine ⟨_, _, rfl, fun c o n e => ?_, upd_same, ?_, fun j => ?_⟩
      · rw [upd_ne n]
        exact e5 c o n e
      · have := length_putK rung (Sum.inl b : Key) (V.bl true)
        omega
      · rw [valV_put, List.take_succ, hb]
        by_cases hj : j = b
        · subst hj
          rw [if_pos rfl]
          simp
        · rw [if_neg (by intro e; exact hj (Sum.inl.inj e)), rv j]
          simp [hj]
    · rintro σ G6' ⟨v, rung, rfl, e5, k5, rl, rv⟩
      rw [List.length_map, List.take_length] at rv
      have O5' := e5 _ _ y5.symm O5
      have S5' : SameX x H G6' := fun c o n e => by
        have hc : c ≠ p5 := ne_of_none e f5
        exact e5 c o hc (S5 c o n e)
      refine ⟨(by show 0 ≤ sizeLine; decide), fun p6 n6 => ?_⟩
      have y6 : p6 ≠ x := (ne_of_none O5' n6).symm
      have f6 : H p6 = none := S5'.free y6 n6
      refine ⟨_, rfl, x, C, dx, (List.zip ["program", "in_boxes", "in_cells", "in_asides", "rung"] [V.ref p1, V.ref p2, V.ref p3, V.ref p4, V.ref p5] : List (Str × V)), rfl, same_new n6 _ _ O5', T.cl, T.nT, (by show 5 < 1000; decide), ?_⟩
      rw [show putF ("told_numbers" : Str) (V.ref p6) (List.zip ["program", "in_boxes", "in_cells", "in_asides", "rung"] [V.ref p1, V.ref p2, V.ref p3, V.ref p4, V.ref p5] : List (Str × V)) = (List.zip ["program", "in_boxes", "in_cells", "in_asides", "rung", "told_numbers"] [V.ref p1, V.ref p2, V.ref p3, V.ref p4, V.ref p5, V.ref p6] : List (Str × V)) from put_new _ _ _ _ (by decide +kernel) rfl]
      obtain ⟨G6, E6⟩ : ∃ G, G = upd (upd G6' p6 (.lst [])) x (.ins C dx (List.zip ["program", "in_boxes", "in_cells", "in_asides", "rung", "told_numbers"] [V.ref p1, V.ref p2, V.ref p3, V.ref p4, V.ref p5, V.ref p6] : List (Str × V))) := ⟨_, rfl⟩
      have R6 : SameX x G6' G6 := by rw [E6]; exact (SameX.same (same_new n6)).trans SameX.put
      have K6 : G6 p6 = some (.lst []) := by rw [E6, upd_ne y6]; exact upd_same
      have O6 : G6 x = some (.ins C dx (List.zip ["program", "in_boxes", "in_cells", "in_asides", "rung", "told_numbers"] [V.ref p1, V.ref p2, V.ref p3, V.ref p4, V.ref p5, V.ref p6] : List (Str × V))) := by rw [E6]; exact upd_same
      have S6 : SameX x H G6 := S5'.trans R6
      rw [← E6]
      clear E6
      refine ⟨(by show 0 ≤ sizeLine; decide), fun p7 n7 => ?_⟩
      have y7 : p7 ≠ x := (ne_of_none O6 n7).symm
      have f7 : H p7 = none := S6.free y7 n7
      refine ⟨_, rfl, x, C, dx, (List.zip ["program", "in_boxes", "in_cells", "in_asides", "rung", "told_numbers"] [V.ref p1, V.ref p2, V.ref p3, V.ref p4, V.ref p5, V.ref p6] : List (Str × V)), rfl, same_new n7 _ _ O6, T.cl, T.nS, (by show 6 < 1000; decide), ?_⟩
      rw [show putF ("seen_numbers" : Str) (V.ref p7) (List.zip ["program", "in_boxes", "in_cells", "in_asides", "rung", "told_numbers"] [V.ref p1, V.ref p2, V.ref p3, V.ref p4, V.ref p5, V.ref p6] : List (Str × V)) = (List.zip ["program", "in_boxes", "in_cells", "in_asides", "rung", "told_numbers", "seen_numbers"] [V.ref p1, V.ref p2, V.ref p3, V.ref p4, V.ref p5, V.ref p6, V.ref p7] : List (Str × V)) from put_new _ _ _ _ (by decide +kernel) rfl]
      obtain ⟨G7, E7⟩ : ∃ G, G = upd (upd G6 p7 (.lst [])) x (.ins C dx (List.zip ["program", "in_boxes", "in_cells", "in_asides", "rung", "told_numbers", "seen_numbers"] [V.ref p1, V.ref p2, V.ref p3, V.ref p4, V.ref p5, V.ref p6, V.ref p7] : List (Str × V))) := ⟨_, rfl⟩
      have R7 : SameX x G6 G7 := by rw [E7]; exact (SameX.same (same_new n7)).trans SameX.put
      have K7 : G7 p7 = some (.lst []) := by rw [E7, upd_ne y7]; exact upd_same
      have O7 : G7 x = some (.ins C dx (List.zip ["program", "in_boxes", "in_cells", "in_asides", "rung", "told_numbers", "seen_numbers"] [V.ref p1, V.ref p2, V.ref p3, V.ref p4, V.ref p5, V.ref p6, V.ref p7] : List (Str × V))) := by rw [E7]; exact upd_same
      have S7 : SameX x H G7 := S6.trans R7
      rw [← E7]
      clear E7
      refine ⟨(by show 0 ≤ sizeLine; decide), fun p8 n8 => ?_⟩
      have y8 : p8 ≠ x := (ne_of_none O7 n8).symm
      have f8 : H p8 = none := S7.free y8 n8
      refine ⟨_, rfl, x, C, dx, (List.zip ["program", "in_boxes", "in_cells", "in_asides", "rung", "told_numbers", "seen_numbers"] [V.ref p1, V.ref p2, V.ref p3, V.ref p4, V.ref p5, V.ref p6, V.ref p7] : List (Str × V)), rfl, same_new n8 _ _ O7, T.cl, T.nL, (by show 7 < 1000; decide), ?_⟩
      rw [show putF ("pile" : Str) (V.ref p8) (List.zip ["program", "in_boxes", "in_cells", "in_asides", "rung", "told_numbers", "seen_numbers"] [V.ref p1, V.ref p2, V.ref p3, V.ref p4, V.ref p5, V.ref p6, V.ref p7] : List (Str × V)) = (List.zip ["program", "in_boxes", "in_cells", "in_asides", "rung", "told_numbers", "seen_numbers", "pile"] [V.ref p1, V.ref p2, V.ref p3, V.ref p4, V.ref p5, V.ref p6, V.ref p7, V.ref p8] : List (Str × V)) from put_new _ _ _ _ (by decide +kernel) rfl]
      obtain ⟨G8, E8⟩ : ∃ G, G = upd (upd G7 p8 (.lst [])) x (.ins C dx (List.zip ["program", "in_boxes", "in_cells", "in_asides", "rung", "told_numbers", "seen_numbers", "pile"] [V.ref p1, V.ref p2, V.ref p3, V.ref p4, V.ref p5, V.ref p6, V.ref p7, V.ref p8] : List (Str × V))) := ⟨_, rfl⟩
      have R8 : SameX x G7 G8 := by rw [E8]; exact (SameX.same (same_new n8)).trans SameX.put
      have K8 : G8 p8 = some (.lst []) := by rw [E8, upd_ne y8]; exact upd_same
      have O8 : G8 x = some (.ins C dx (List.zip ["program", "in_boxes", "in_cells", "in_asides", "rung", "told_numbers", "seen_numbers", "pile"] [V.ref p1, V.ref p2, V.ref p3, V.ref p4, V.ref p5, V.ref p6, V.ref p7, V.ref p8] : List (Str × V))) := by rw [E8]; exact upd_same
      have S8 : SameX x H G8 := S7.trans R8
      rw [← E8]
      clear E8
      refine ⟨_, rfl, x, C, dx, (List.zip ["program", "in_boxes", "in_cells", "in_asides", "rung", "told_numbers", "seen_numbers", "pile"] [V.ref p1, V.ref p2, V.ref p3, V.ref p4, V.ref p5, V.ref p6, V.ref p7, V.ref p8] : List (Str × V)), rfl, O8, T.cl, T.nM, (by show 8 < 1000; decide), ?_⟩
      rw [show putF ("marks_done" : Str) (V.int 0) (List.zip ["program", "in_boxes", "in_cells", "in_asides", "rung", "told_numbers", "seen_numbers", "pile"] [V.ref p1, V.ref p2, V.ref p3, V.ref p4, V.ref p5, V.ref p6, V.ref p7, V.ref p8] : List (Str × V)) = (List.zip ["program", "in_boxes", "in_cells", "in_asides", "rung", "told_numbers", "seen_numbers", "pile", "marks_done"] [V.ref p1, V.ref p2, V.ref p3, V.ref p4, V.ref p5, V.ref p6, V.ref p7, V.ref p8, V.int 0] : List (Str × V)) from put_new _ _ _ _ (by decide +kernel) rfl]
      obtain ⟨G9, E9⟩ : ∃ G, G = upd G8 x (.ins C dx (List.zip ["program", "in_boxes", "in_cells", "in_asides", "rung", "told_numbers", "seen_numbers", "pile", "marks_done"] [V.ref p1, V.ref p2, V.ref p3, V.ref p4, V.ref p5, V.ref p6, V.ref p7, V.ref p8, V.int 0] : List (Str × V))) := ⟨_, rfl⟩
      have R9 : SameX x G8 G9 := by rw [E9]; exact SameX.put
      have O9 : G9 x = some (.ins C dx (List.zip ["program", "in_boxes", "in_cells", "in_asides", "rung", "told_numbers", "seen_numbers", "pile", "marks_done"] [V.ref p1, V.ref p2, V.ref p3, V.ref p4, V.ref p5, V.ref p6, V.ref p7, V.ref p8, V.int 0] : List (Str × V))) := by rw [E9]; exact upd_same
      have S9 : SameX x H G9 := S8.trans R9
      rw [← E9]
      clear E9
      refine ⟨_, rfl, x, C, dx, (List.zip ["program", "in_boxes", "in_cells", "in_asides", "rung", "told_numbers", "seen_numbers", "pile", "marks_done"] [V.ref p1, V.ref p2, V.ref p3, V.ref p4, V.ref p5, V.ref p6, V.ref p7, V.ref p8, V.int 0] : List (Str × V)), rfl, O9, T.cl, T.nH, (by show 9 < 1000; decide), ?_⟩
      rw [show putF ("here" : Str) (V.int 0) (List.zip ["program", "in_boxes", "in_cells", "in_asides", "rung", "told_numbers", "seen_numbers", "pile", "marks_done"] [V.ref p1, V.ref p2, V.ref p3, V.ref p4, V.ref p5, V.ref p6, V.ref p7, V.ref p8, V.int 0] : List (Str × V)) = (List.zip ["program", "in_boxes", "in_cells", "in_asides", "rung", "told_numbers", "seen_numbers", "pile", "marks_done", "here"] [V.ref p1, V.ref p2, V.ref p3, V.ref p4, V.ref p5, V.ref p6, V.ref p7, V.ref p8, V.int 0, V.int 0] : List (Str × V)) from put_new _ _ _ _ (by decide +kernel) rfl]
      obtain ⟨G10, E10⟩ : ∃ G, G = upd G9 x (.ins C dx (List.zip ["program", "in_boxes", "in_cells", "in_asides", "rung", "told_numbers", "seen_numbers", "pile", "marks_done", "here"] [V.ref p1, V.ref p2, V.ref p3, V.ref p4, V.ref p5, V.ref p6, V.ref p7, V.ref p8, V.int 0, V.int 0] : List (Str × V))) := ⟨_, rfl⟩
      have R10 : SameX x G9 G10 := by rw [E10]; exact SameX.put
      have O10 : G10 x = some (.ins C dx (List.zip ["program", "in_boxes", "in_cells", "in_asides", "rung", "told_numbers", "seen_numbers", "pile", "marks_done", "here"] [V.ref p1, V.ref p2, V.ref p3, V.ref p4, V.ref p5, V.ref p6, V.ref p7, V.ref p8, V.int 0, V.int 0] : List (Str × V))) := by rw [E10]; exact upd_same
      have S10 : SameX x H G10 := S9.trans R10
      rw [← E10]
      clear E10
      refine ⟨_, rfl, x, C, dx, (List.zip ["program", "in_boxes", "in_cells", "in_asides", "rung", "told_numbers", "seen_numbers", "pile", "marks_done", "here"] [V.ref p1, V.ref p2, V.ref p3, V.ref p4, V.ref p5, V.ref p6, V.ref p7, V.ref p8, V.int 0, V.int 0] : List (Str × V)), rfl, O10, T.cl, T.nE, (by show 10 < 1000; decide), ?_⟩
      rw [show putF ("how_ended" : Str) (V.non) (List.zip ["program", "in_boxes", "in_cells", "in_asides", "rung", "told_numbers", "seen_numbers", "pile", "marks_done", "here"] [V.ref p1, V.ref p2, V.ref p3, V.ref p4, V.ref p5, V.ref p6, V.ref p7, V.ref p8, V.int 0, V.int 0] : List (Str × V)) = (List.zip ["program", "in_boxes", "in_cells", "in_asides", "rung", "told_numbers", "seen_numbers", "pile", "marks_done", "here", "how_ended"] [V.ref p1, V.ref p2, V.ref p3, V.ref p4, V.ref p5, V.ref p6, V.ref p7, V.ref p8, V.int 0, V.int 0, V.non] : List (Str × V)) from put_new _ _ _ _ (by decide +kernel) rfl]
      obtain ⟨G11, E11⟩ : ∃ G, G = upd G10 x (.ins C dx (List.zip ["program", "in_boxes", "in_cells", "in_asides", "rung", "told_numbers", "seen_numbers", "pile", "marks_done", "here", "how_ended"] [V.ref p1, V.ref p2, V.ref p3, V.ref p4, V.ref p5, V.ref p6, V.ref p7, V.ref p8, V.int 0, V.int 0, V.non] : List (Str × V))) := ⟨_, rfl⟩
      have R11 : SameX x G10 G11 := by rw [E11]; exact SameX.put
      have O11 : G11 x = some (.ins C dx (List.zip ["program", "in_boxes", "in_cells", "in_asides", "rung", "told_numbers", "seen_numbers", "pile", "marks_done", "here", "how_ended"] [V.ref p1, V.ref p2, V.ref p3, V.ref p4, V.ref p5, V.ref p6, V.ref p7, V.ref p8, V.int 0, V.int 0, V.non] : List (Str × V))) := by rw [E11]; exact upd_same
      have S11 : SameX x H G11 := S10.trans R11
      rw [← E11]
      clear E11
      have P58 : SameX x G6' G11 := R6.trans (R7.trans (R8.trans (R9.trans (R10.trans R11))))
      have n15 : p1 ≠ p5 := ne_of_none (R4 _ _ y1 (R3 _ _ y1 (R2 _ _ y1 K1))) n5
      have n25 : p2 ≠ p5 := ne_of_none (R4 _ _ y2 (R3 _ _ y2 K2)) n5
      have n35 : p3 ≠ p5 := ne_of_none (R4 _ _ y3 K3) n5
      have n45 : p4 ≠ p5 := ne_of_none K4 n5
      have g1 := e5 _ _ n15 (R5 _ _ y1 (R4 _ _ y1 (R3 _ _ y1 (R2 _ _ y1 K1))))
      have g2 := e5 _ _ n25 (R5 _ _ y2 (R4 _ _ y2 (R3 _ _ y2 K2)))
      have g3 := e5 _ _ n35 (R5 _ _ y3 (R4 _ _ y3 K3))
      have g4 := e5 _ _ n45 (R5 _ _ y4 K4)
      have R67 := R6.trans R7
      have n18 : p1 ≠ p8 := ne_of_none (R67 _ _ y1 g1) n8
      have n28 : p2 ≠ p8 := ne_of_none (R67 _ _ y2 g2) n8
      have n68 : p6 ≠ p8 := ne_of_none (R7 _ _ y6 K6) n8
      have n78 : p7 ≠ p8 := ne_of_none K7 n8
      refine z ⟨dx, p1, p2, p3, p4, p5, p6, p7, p8⟩ rung G11 rv ⟨O11, P58 _ _ y1 g1, P58 _ _ y2 g2, b8, P58 _ _ y3 g3, P58 _ _ y4 g4, P58 _ _ y5 k5, (R7.trans (R8.trans (R9.trans (R10.trans R11)))) _ _ y6 K6, (R8.trans (R9.trans (R10.trans R11))) _ _ y7 K7, (R9.trans (R10.trans R11)) _ _ y8 K8, n18, n28, n68, n78⟩ S11 ?_
      rintro c (rfl | rfl | rfl | rfl | rfl | rfl | rfl | rfl) hc
      · exact absurd rfl hc
      · exact f2
      · exact f3
      · exact f4
      · exact f5
      · exact f6
      · exact f7
      · exact f8
end
end My

set_option Elab.async false
set_option linter.all false
set_option maxRecDepth 100000
set_option maxHeartbeats 4000000
namespace My
open PySem L2
/-- where a machine stands behind a row -/
def nxt (u : Str) (bv : Int) (ts : List Int) (ring : Bool) (pile : List Int) (h : Int) : V :=
  if u = "stop" ∨ u = "halt" then .non
  else if u = "back" then (match pile.getLast? with | none => .non | some p => .int p)
  else if u ∈ jcm then (if u = "mark" ∧ ring = false then .int h else .int (ts.getD 0 0))
  else if u = "zero" then .int (if bv = 0 then ts.getD 0 0 else h)
  else if u = "below" then .int (if bv < 0 then ts.getD 0 0 else h)
  else if u = "table" then .int (if 0 ≤ bv ∧ bv < ts.length then ts.getD bv.toNat 0 else h)
  else .int h
def straight : List Str := ["set", "more", "copy", "add", "less", "load", "keep", "tell", "see", "put", "take"]
theorem nxt_go {u : Str} {bv : Int} {ts : List Int} {ring : Bool} {pile : List Int} {h : Int} (hu : u ∈ straight) : nxt u bv ts ring pile h = .int h := by
  obtain ⟨h1, h2, h3, h4, h5, h6⟩ := (by decide +kernel : ∀ u ∈ straight, ¬ (u = "stop" ∨ u = "halt") ∧ ¬ u = "back" ∧ ¬ u ∈ jcm ∧ ¬ u = "zero" ∧ ¬ u = "below" ∧ ¬ u = "table") u hu
  unfold nxt
  rw [if_neg h1, if_neg h2, if_neg h3, if_neg h4, if_neg h5, if_neg h6]
theorem nxt_end {u : Str} {bv : Int} {ts : List Int} {ring : Bool} {pile : List Int} {h : Int} (hu : u = "stop" ∨ u = "halt") : nxt u bv ts ring pile h = .non := by
  unfold nxt
  rw [if_pos hu]
theorem nxt_back0 {bv : Int} {ts : List Int} {ring : Bool} {h : Int} : nxt "back" bv ts ring [] h = .non := by
  unfold nxt
  rw [if_neg (by decide +kernel), if_pos rfl]
  rfl
theorem nxt_back {bv p : Int} {ts r : List Int} {ring : Bool} {h : Int} : nxt "back" bv ts ring (r ++ [p]) h = .int p := by
  unfold nxt
  rw [if_neg (by decide +kernel), if_pos rfl, List.getLast?_append]
  rfl
theorem nxt_j {u : Str} {bv t : Int} {ring : Bool} {pile : List Int} {h : Int} (hu : u ∈ jcm) (hm : u = "mark" → ring = true) : nxt u bv [t] ring pile h = .int t := by
  obtain ⟨h1, h2⟩ := (by decide +kernel : ∀ u ∈ jcm, ¬ (u = "stop" ∨ u = "halt") ∧ ¬ u = "back") u hu
  unfold nxt
  rw [if_neg h1, if_neg h2, if_pos hu, if_neg (fun e => by rw [hm e.1] at e; exact absurd e.2 (by decide))]
  rfl
theorem nxt_m {bv : Int} {ts : List Int} {pile : List Int} {h : Int} : nxt "mark" bv ts false pile h = .int h := by
  unfold nxt
  rw [if_neg (by decide +kernel), if_neg (by decide +kernel), if_pos (by decide +kernel), if_pos ⟨rfl, rfl⟩]
theorem nxt_z {bv t : Int} {ring : Bool} {pile : List Int} {h : Int} : nxt "zero" bv [t] ring pile h = .int (if bv = 0 then t else h) := by
  unfold nxt
  rw [if_neg (by decide +kernel), if_neg (by decide +kernel), if_neg (by decide +kernel), if_pos rfl]
  rfl
theorem nxt_b {bv t : Int} {ring : Bool} {pile : List Int} {h : Int} : nxt "below" bv [t] ring pile h = .int (if bv < 0 then t else h) := by
  unfold nxt
  rw [if_neg (by decide +kernel), if_neg (by decide +kernel), if_neg (by decide +kernel), if_neg (by decide +kernel), if_pos rfl]
  rfl
theorem nxt_t {bv : Int} {ts : List Int} {ring : Bool} {pile : List Int} {h : Int} : nxt "table" bv ts ring pile h = .int (if 0 ≤ bv ∧ bv < ts.length then ts.getD bv.toNat 0 else h) := by
  unfold nxt
  rw [if_neg (by decide +kernel), if_neg (by decide +kernel), if_neg (by decide +kernel), if_neg (by decide +kernel), if_neg (by decide +kernel), if_pos rfl]
def boxOf (bs : List Int) (items : List V) : Int := match items with
  | .int b :: _ => bs.getD b.toNat 0
  | _ => 0
section
variable {P : Program} {w : World} {K : PySem.W.Frag} {mg : Str → Option Value} {base : Heap}
/-- a deed that the table of deeds has -/
def DAt (P : Program) (w : World) (K : PySem.W.Frag) (mg : Str → Option Value) (base : Heap) (pD : Addr) (u : Str) (sp : Sp) : Prop := ∃ (f : Addr) (fd : FuncData), KHas K w.params pD u (some (.ref f)) ∧ FnOk P w K mg base CX0 2 f fd ["machine", "row"] sp ∧ Binds K fd ["machine", "row"] [] ∧ PySem.W.keepIn K (.ref f) = true
structure Deeds (P : Program) (w : World) (K : PySem.W.Frag) (mg : Str → Option Value) (base : Heap) (C pD : Addr) : Prop where
  stop : DAt P w K mg base pD "stop" (spS C)
  halt : DAt P w K mg base pD "halt" (spHalt C)
  back : DAt P w K mg base pD "back" (spBack C)
  vs : ∀ u ∈ (["set", "more", "see", "put", "take"] : List Str), DAt P w K mg base pD u (spV C)
  cs : ∀ u ∈ (["copy", "add", "less", "load", "keep"] : List Str), DAt P w K mg base pD u (spC C)
  tell : DAt P w K mg base pD "tell" (spT C)
  jump : DAt P w K mg base pD "jump" (spJ C)
  zero : DAt P w K mg base pD "zero" (spZ C)
  below : DAt P w K mg base pD "below" (spB C)
  call : DAt P w K mg base pD "call" (spCall C)
  mark : DAt P w K mg base pD "mark" (spMark C)
  table : DAt P w K mg base pD "table" (spTab C)
def spStep (C : Addr) : Sp := fun vs H Q _ => ∃ (x q : Addr) (m : MA) (rows : List V) (bs : List Int) (rung : List (Key × V)) (pile : List Int) (k : Int) (r : Nat) (how : V) (u : Str) (items : List V) (ts : List Int), vs = [.ref x] ∧ MS C H x m rows bs rung pile k (.int r) how ∧
  rows[r]? = some (.ref q) ∧ H q = some (.tup (.str u :: items)) ∧ Shape u items ∧ Parts H u items ts ∧ pile.length ≤ 100 ∧
  ∀ H', Fr m x H H' → Here C H' x (nxt u (boxOf bs items) ts (valV rung (Sum.inl k)).isSome pile (r + 1)) → (u = "call" ∨ u = "mark" ∧ (valV rung (Sum.inl k)).isSome = true → ∃ k', MS C H' x m rows bs rung (pile ++ [(r : Int) + 1]) k' (.int (ts.getD 0 0)) how) → Q .non H'
theorem scStep : FnScope ["self", "row"] ["self"] (defScope sStep) := ⟨rfl, rfl, rfl, by decide +kernel, rfl, by decide +kernel, by decide +kernel⟩
theorem ok_step {f C pD : Addr} {fd : FuncData} (F : Fun K "step" "Machine.step" sStep f fd) (T : MTx K mg C) (mD : mg "DEEDS" = some (.ref pD)) (D : Deeds P w K mg base C pD) : FnOk P w K mg base CX0 3 f fd ["self"] (spStep C) := by
  refine F.ok scStep (fun vs H Q E h => ?_) (fun cdv A outer s H vs Q E hr h => ?_)
  · obtain ⟨x, q, m, rows, bs, rung, pile, k, r, how, u, items, ts, rfl, _⟩ := h
    rfl
  · obtain ⟨x, q, m, rows, bs, rung, pile, k, r, how, u, items, ts, rfl, M, hrow, hq, hsh, hP, hpl, z⟩ := h
    refine ⟨_, pss_cons (ps_if (pt_cmpR op_isN (pe_fld (pv 0) rfl) pe_non (nomark _)) pss_never pss_nil)
      (pss_cons (ps_set (i := 1) scStep.nd rfl (Or.inl rfl) (pe_ix ix_list (pe_fld (pv 0) rfl) (pe_fld (pv 0) rfl) (fun _ _ => rfl)))
      (pss_cons (ps_fld (pv 0) (pe_op op_add (pe_fld (pv 0) rfl) pe_int) rfl)
      (pss_one (ps_expr (pe_callE (k := 2) (pe_kget (pe_glob (v := .ref pD) (by rfl) mD rfl) (pe_ix ix_tup (pv 1) pe_int (fun _ _ => rfl)) (fun _ _ => rfl)) hr (pa_cons (pv 0) (pa_cons (pv 1) pa_nil))))))), ?_⟩
    refine ⟨_, rfl, x, C, m.dx, _, _, rfl, M.obj, T.cl, T.nH, f_here, rfl, _, rfl, ?_⟩
    refine iteF ?_
    refine ⟨_, rfl, x, C, m.dx, _, _, rfl, M.obj, T.cl, T.nP, f_prog, _, rfl, x, C, m.dx, _, _, rfl, M.obj, T.cl, T.nH, f_here, m.p1, _, _, .ref q, rfl, rfl, SqL.of M.prog, atI_nat (j := r) hrow, ?_⟩
    refine ⟨_, rfl, x, C, m.dx, _, _, rfl, M.obj, T.cl, T.nH, f_here, _, _, rfl, rfl, _, rfl, x, C, m.dx, _, rfl, M.obj, T.cl, T.nH, f_few, ?_⟩
    rw [s_here]
    have M2 := M.put (k' := k) (here' := .int ((r : Int) + 1)) (how' := how)
    have fr : Fr m x H (upd H x (.ins C m.dx (flds m k (.int ((r : Int) + 1)) how))) := Fr.upd (.inl rfl)
    have hq2 : upd H x (.ins C m.dx (flds m k (.int ((r : Int) + 1)) how)) q = some (.tup (.str u :: items)) := by
      rw [upd_ne (ne_of hq M.obj (by intro z; cases z))]
      exact hq
    have tup : ∀ p xs, H p = some (.tup xs) → upd H x (.ins C m.dx (flds m k (.int ((r : Int) + 1)) how)) p = some (.tup xs) := fun p xs e => by
      rw [upd_ne (ne_of e M.obj (by intro z; cases z))]
      exact e
    refine ⟨_, rfl, q, _, 0, .str u, rfl, rfl, SqT.of hq2, at0 _ _, pD, u, ?_⟩
    have go : ∀ {sp : Sp}, DAt P w K mg base pD u sp → sp ([.ref x, .ref q] ++ []) (upd H x (.ins C m.dx (flds m k (.int ((r : Int) + 1)) how))) (fun _ H1 => Q .non H1) E0 →
        ∃ v, V.ref pD = .ref pD ∧ V.str u = .str u ∧ KHas K w.params pD u (some v) ∧ ∃ (f : Addr) (fd : FuncData) (ps : List Str) (sp : Sp), v = .ref f ∧ FnOk P w K mg base CX0 2 f fd ps sp ∧ Binds K fd ps [] ∧ PySem.W.keepIn K (.ref f) = true ∧ sp ([.ref x, .ref q] ++ []) (upd H x (.ins C m.dx (flds m k (.int ((r : Int) + 1)) how))) (fun _ H1 => Q .non H1) E0 := fun {sp} d hs => by
      obtain ⟨f, fd, a1, a2, a3, a4⟩ := d
      exact ⟨.ref f, rfl, rfl, a1, f, fd, _, _, rfl, a2, a3, a4, hs⟩
    suffices hh : ∃ sp : Sp, DAt P w K mg base pD u sp ∧ sp ([.ref x, .ref q] ++ []) (upd H x (.ins C m.dx (flds m k (.int ((r : Int) + 1)) how))) (fun _ H1 => Q .non H1) E0 by
      obtain ⟨sp, d, hs⟩ := hh
      obtain ⟨v, e1, e2, e3, f, fd, ps, sp', e4, e5, e6, e7, e8⟩ := go d hs
      exact ⟨v, rfl, rfl, e3, f, fd, ps, sp', e4, e5, e6, e7, _, rfl, _, rfl, e8⟩
    have nocm : ¬ u ∈ (["call", "mark"] : List Str) → ∀ H', (u = "call" ∨ u = "mark" ∧ (valV rung (Sum.inl k)).isSome = true → ∃ k', MS C H' x m rows bs rung (pile ++ [(r : Int) + 1]) k' (.int (ts.getD 0 0)) how) := fun n H' e => by
      exfalso
      rcases e with e | ⟨e, _⟩ <;> exact n (by rw [e]; decide +kernel)
    rcases hsh with ⟨hu, rfl⟩ | ⟨hu, v, rfl⟩ | ⟨hu, b, v, hb, rfl⟩ | ⟨hu, b, c, hb, hc, rfl⟩ | ⟨hu, b, hb, rfl⟩ | ⟨hu, b, v, hb, rfl⟩ | ⟨hu, t, f', rfl⟩ | ⟨hu, b, t, f', hb, rfl⟩ | ⟨hu, b, p, hb, rfl⟩
    · rcases (show u = "stop" ∨ u = "back" by simpa using hu) with rfl | rfl
      · refine ⟨_, D.stop, x, q, m, rows, bs, rung, pile, k, _, how, _, _, rfl, M2, hq2, fun H' e1 e2 => z H' (fr.trans e1) ?_ (nocm (by decide +kernel) H')⟩
        rw [nxt_end (.inl rfl)]
        exact e2
      · refine ⟨_, D.back, x, q, m, rows, bs, rung, pile, k, _, how, _, _, rfl, M2, hq2, fun ep H' e1 e2 => z H' (fr.trans e1) ?_ (nocm (by decide +kernel) H'), fun r' p ep H' e1 e2 => z H' (fr.trans e1) ?_ (nocm (by decide +kernel) H')⟩
        · rw [ep, nxt_back0]
          exact e2
        · rw [ep, nxt_back]
          exact e2
    · subst hu
      refine ⟨_, D.halt, x, q, m, rows, bs, rung, pile, k, _, how, _, _, rfl, M2, hq2, fun H' e1 e2 => z H' (fr.trans e1) ?_ (nocm (by decide +kernel) H')⟩
      rw [nxt_end (.inr rfl)]
      exact e2
    · refine ⟨_, D.vs u ((by decide +kernel : ∀ u ∈ (["set", "more"] : List Str), u ∈ (["set", "more", "see", "put", "take"] : List Str)) u hu), x, q, m, rows, bs, rung, pile, k, _, how, _, b, v, rfl, M2, hq2, hb, fun H' e1 e2 => z H' (fr.trans e1) ?_ (nocm ((by decide +kernel : ∀ u ∈ (["set", "more"] : List Str), ¬ u ∈ (["call", "mark"] : List Str)) u hu) H')⟩
      rw [nxt_go ((by decide +kernel : ∀ u ∈ (["set", "more"] : List Str), u ∈ straight) u hu)]
      exact e2
    · refine ⟨_, D.cs u hu, x, q, m, rows, bs, rung, pile, k, _, how, _, b, c, rfl, M2, hq2, hb, hc, fun H' e1 e2 => z H' (fr.trans e1) ?_ (nocm ((by decide +kernel : ∀ u ∈ (["copy", "add", "less", "load", "keep"] : List Str), ¬ u ∈ (["call", "mark"] : List Str)) u hu) H')⟩
      rw [nxt_go ((by decide +kernel : ∀ u ∈ (["copy", "add", "less", "load", "keep"] : List Str), u ∈ straight) u hu)]
      exact e2
    · subst hu
      refine ⟨_, D.tell, x, q, m, rows, bs, rung, pile, k, _, how, _, b, rfl, M2, hq2, hb, fun H' e1 e2 => z H' (fr.trans e1) ?_ (nocm (by decide +kernel) H')⟩
      rw [nxt_go (by decide +kernel)]
      exact e2
    · refine ⟨_, D.vs u ((by decide +kernel : ∀ u ∈ (["see", "put", "take"] : List Str), u ∈ (["set", "more", "see", "put", "take"] : List Str)) u hu), x, q, m, rows, bs, rung, pile, k, _, how, _, b, v, rfl, M2, hq2, hb, fun H' e1 e2 => z H' (fr.trans e1) ?_ (nocm ((by decide +kernel : ∀ u ∈ (["see", "put", "take"] : List Str), ¬ u ∈ (["call", "mark"] : List Str)) u hu) H')⟩
      rw [nxt_go ((by decide +kernel : ∀ u ∈ (["see", "put", "take"] : List Str), u ∈ straight) u hu)]
      exact e2
    · have ht : ts = [t] := by
        unfold Parts at hP
        rw [if_neg ((by decide +kernel : ∀ u ∈ jcm, ¬ u = "table") u hu), if_pos hu] at hP
        obtain ⟨t', f'', e1, e2⟩ := hP
        injection e1 with e1 _
        injection e1 with e1
        rw [e2, e1]
      subst ht
      rcases (show u = "jump" ∨ u = "call" ∨ u = "mark" by simpa [jcm] using hu) with rfl | rfl | rfl
      · refine ⟨_, D.jump, x, q, m, rows, bs, rung, pile, k, _, how, _, t, f', rfl, M2, hq2, fun H' e1 e2 => z H' (fr.trans e1) ?_ (nocm (by decide +kernel) H')⟩
        rw [nxt_j hu (fun e => absurd e (by decide +kernel))]
        exact e2
      · refine ⟨_, D.call, x, q, m, rows, bs, rung, pile, k, _, how, _, t, f', rfl, M2, hq2, hpl, fun H' e1 e2 => z H' (fr.trans e1) ?_ fun _ => ⟨k, e2⟩⟩
        rw [nxt_j hu (fun e => absurd e (by decide +kernel))]
        exact e2.stands
      · refine ⟨_, D.mark, x, q, m, rows, bs, rung, pile, k, _, how, _, t, f', _, rfl, M2, hq2, hpl, rfl, fun er H' e1 e2 => z H' (fr.trans e1) ?_ fun _ => ⟨k + 1, e2⟩, fun er H' e1 e2 => z H' (fr.trans e1) ?_ fun e => ?_⟩
        · rw [nxt_j hu (fun _ => er)]
          exact e2.stands
        · rw [er, nxt_m]
          exact e2.stands
        · exfalso
          rcases e with e | ⟨_, e⟩
          · exact absurd e (by decide +kernel)
          · rw [er] at e
            exact absurd e (by decide)
    · have ht : ts = [t] := by
        unfold Parts at hP
        rw [if_neg ((by decide +kernel : ∀ u ∈ zb, ¬ u = "table") u hu), if_neg ((by decide +kernel : ∀ u ∈ zb, ¬ u ∈ jcm) u hu), if_pos hu] at hP
        obtain ⟨b', t', f'', e1, e2⟩ := hP
        injection e1 with _ e1
        injection e1 with e1 _
        injection e1 with e1
        rw [e2, e1]
      subst ht
      rcases (show u = "zero" ∨ u = "below" by simpa [zb] using hu) with rfl | rfl
      · refine ⟨_, D.zero, x, q, m, rows, bs, rung, pile, k, _, how, _, b, t, f', rfl, M2, hq2, hb, fun H' e1 e2 => z H' (fr.trans e1) ?_ (nocm (by decide +kernel) H')⟩
        rw [nxt_z]
        exact e2
      · refine ⟨_, D.below, x, q, m, rows, bs, rung, pile, k, _, how, _, b, t, f', rfl, M2, hq2, hb, fun H' e1 e2 => z H' (fr.trans e1) ?_ (nocm (by decide +kernel) H')⟩
        rw [nxt_b]
        exact e2
    · subst hu
      have ht : H p = some (.tup (ts.map V.int)) := by
        unfold Parts at hP
        rw [if_pos rfl] at hP
        obtain ⟨b', q', e1, e2⟩ := hP
        injection e1 with _ e1
        injection e1 with e1 _
        injection e1 with e1
        rw [e1]
        exact e2
      refine ⟨_, D.table, x, q, m, rows, bs, rung, pile, k, _, how, _, b, p, ts, rfl, M2, hq2, hb, tup _ _ ht, fun H' e1 e2 => z H' (fr.trans e1) ?_ (nocm (by decide +kernel) H')⟩
      rw [nxt_t]
      exact e2
end
end My

set_option Elab.async false
set_option linter.all false
set_option maxRecDepth 100000
set_option maxHeartbeats 8000000
namespace L2
open PySem PySem.Spec PyProof.Rows
theorem comp_tup {K : PySem.W.Frag} {a : Addr} {xs : List V} {g : TG} {tt : TT} {te : TE} {R : Hp → Prop} {D : Addr} {σ0 : St} {H0 : Hp} (Pv : Nat → St → List V → Hp → Prop) (h0 : Pv 0 σ0 [] H0) (hl : ∀ i σ ys H, i ≤ xs.length → Pv i σ ys H → SqT K H a xs)
    (hs : ∀ i x σ ys H, xs[i]? = some x → Pv i σ ys H → g x σ H fun σ2 H2 => tt σ2 H2 fun b H3 =>
      if b = true then te σ2 H3 fun v H4 => H4 D = some (.lst ys) ∧ ys.length < sizeLine ∧ Pv (i + 1) σ2 (ys ++ [v]) (upd H4 D (.lst (ys ++ [v]))) else Pv (i + 1) σ2 ys H3)
    (hd : ∀ σ ys H, Pv xs.length σ ys H → R H) :
    ∃ W : Nat → Nat → St → List V → Hp → Prop, (∃ m, W 0 m σ0 [] H0) ∧ ∀ i m σ ys H, W i m σ ys H →
      ((Itt K a).stop i H ∧ R H) ∨ ((Itt K a).go i H ∧ ∃ N : St → List V → Hp → Prop, (∀ σ' ys' H', N σ' ys' H' → ∃ m', m' < m ∧ W (i + 1) m' σ' ys' H') ∧ ∀ x H', (Itt K a).yld i H x H' → g x σ H' fun σ2 H2 => tt σ2 H2 fun b H3 =>
        if b = true then te σ2 H3 fun v H4 => H4 D = some (.lst ys) ∧ ys.length < sizeLine ∧ N σ2 (ys ++ [v]) (upd H4 D (.lst (ys ++ [v]))) else N σ2 ys H3) := by
  refine ⟨fun i m σ ys H => m = xs.length - i ∧ i ≤ xs.length ∧ Pv i σ ys H, ⟨xs.length, by simp, Nat.zero_le _, h0⟩, ?_⟩
  rintro i m σ ys H ⟨rfl, hi, p⟩
  have q := hl i σ ys H hi p
  by_cases hlt : i < xs.length
  · refine .inr ⟨⟨xs, xs[i], q, by simp [hlt]⟩, Pv (i + 1), fun σ' ys' H' p' => ⟨xs.length - (i + 1), by omega, rfl, hlt, p'⟩, fun x H' y => ?_⟩
    obtain ⟨e, y⟩ := y
    subst e
    exact hs i x σ ys _ (y xs q) p
  · have e : i = xs.length := by omega
    subst e
    exact .inl ⟨⟨xs, q, Nat.le_refl _⟩, hd σ ys H p⟩
end L2
namespace My
open PySem L2
theorem rise_ext : ∀ (a b : List Int), a.Pairwise (· < ·) → b.Pairwise (· < ·) → (∀ x, x ∈ a ↔ x ∈ b) → a = b
  | [], [], _, _, _ => rfl
  | [], y :: b, _, _, h => absurd ((h y).mpr List.mem_cons_self) (by simp)
  | x :: a, [], _, _, h => absurd ((h x).mp List.mem_cons_self) (by simp)
  | x :: a, y :: b, ha, hb, h => by
    obtain ⟨a1, a2⟩ := List.pairwise_cons.mp ha
    obtain ⟨b1, b2⟩ := List.pairwise_cons.mp hb
    have e : x = y := by
      rcases List.mem_cons.mp ((h x).mp List.mem_cons_self) with z | z
      · exact z
      · rcases List.mem_cons.mp ((h y).mpr List.mem_cons_self) with z' | z'
        · exact z'.symm
        · have := a1 y z'
          have := b1 x z
          omega
    subst e
    refine congrArg (x :: ·) (rise_ext a b a2 b2 fun u => ?_)
    constructor
    · intro hu
      rcases List.mem_cons.mp ((h u).mp (List.mem_cons_of_mem _ hu)) with z | z
      · have := a1 u hu
        omega
      · exact z
    · intro hu
      rcases List.mem_cons.mp ((h u).mpr (List.mem_cons_of_mem _ hu)) with z | z
      · have := b1 u hu
        omega
      · exact z
theorem rise_of {ms : List Int} (h1 : ms.Pairwise (· ≤ ·)) (h2 : ms.Nodup) : ms.Pairwise (· < ·) := (h1.and h2).imp fun {x y} h => by have a := h.1; have b := h.2; omega
theorem same_ms {a b : List Int} (a1 : a.Pairwise (· ≤ ·)) (a2 : a.Nodup) (b1 : b.Pairwise (· ≤ ·)) (b2 : b.Nodup) (h : ∀ x, x ∈ a ↔ x ∈ b) : a = b := rise_ext a b (rise_of a1 a2) (rise_of b1 b2) h
def jz : List Str := ["jump", "zero", "below", "call", "mark"]
theorem jz_cases {u : Str} (h : u ∈ jz) : (¬ u = "table") ∧ (u ∈ jcm ∨ (¬ u ∈ jcm ∧ u ∈ zb)) := (by decide +kernel : ∀ u ∈ jz, (¬ u = "table") ∧ (u ∈ jcm ∨ (¬ u ∈ jcm ∧ u ∈ zb))) u h
theorem cut1 (a : V) (l : List V) : cutV (a :: l) (some 1) none = l := by
  unfold cutV
  simp [HT.sIx]
section
variable {P : Program} {w : World} {K : PySem.W.Frag} {mg : Str → Option Value} {base : Heap}
/-! ### a row led by one -/
def spLed : Sp := fun vs H Q _ => ∃ (q : Addr) (u : Str) (ts : List Int), vs = [.ref q] ∧ RowAt H q u ts ∧ ts.length ≤ 16 ∧ ∀ (q' : Addr) (H' : Hp), Same H H' → Q (.ref q') H'
theorem scLed : FnScope ["_law_row_here"] ["_law_row_here"] (defScope sLed) := ⟨rfl, rfl, rfl, by decide +kernel, rfl, by decide +kernel, by decide +kernel⟩
def cScLed : Scope := { kind := .function, names := [(".0", .local), ("_law_target", .local)], isGenerator := false, isCoroutine := false, more := [] }
theorem scLedC : CompSc (defScope sLed) cScLed ["_law_row_here"] ["_law_target"] [none] :=
  ⟨rfl, by decide +kernel, by decide +kernel, by decide +kernel, by decide +kernel, by decide +kernel⟩
theorem ok_led {f : Addr} {fd : FuncData} (F : Fun K "_law_led" "_law_led" sLed f fd) (T : Txt K mg) : FnOk P w K mg base CX0 1 f fd ["_law_row_here"] spLed := by
  refine F.ok scLed (fun vs H Q E h => ?_) (fun cdv A outer s H vs Q E hr h => ?_)
  · obtain ⟨q, u, ts, rfl, _⟩ := h
    rfl
  · obtain ⟨q, u, ts, rfl, hR, hlt, k⟩ := h
    obtain ⟨items, hi, hP⟩ := id hR
    refine ⟨_, pss_cons (ps_if (pt_cmpR op_eq (pe_ix ix_tup (pv 0) pe_int (fun _ _ => rfl)) pe_str (nomark _))
        (pss_one (ps_ret (pe_op op_catT (pe_slice sl_tup (pv 0) po_none (po_some pe_int)) (pe_tup (pa_cons (pe_callTy call_tuple_of (by rfl) T.tuple bt_tuple (pa_cons
          (pe_comp (N' := ["_law_target"]) (fr := [none]) scLedC rfl (pi_tup (pe_ix ix_tup (pv 0) pe_int (fun _ _ => rfl))) (fun C s0 H0 fp => pg_name (i := 0) scLedC.nd rfl (Or.inl rfl)) (fun C s0 H0 fp => pts_nil) (fun C s0 H0 fp => pe_op op_add (pv 0) pe_int)) pa_nil)) pa_nil))))) pss_nil)
      (pss_cons (ps_if (pt_cmpR op_in_seq (pe_ix ix_tup (pv 0) pe_int (fun _ _ => rfl)) (pe_tup (pa_cons pe_str (pa_cons pe_str (pa_cons pe_str (pa_cons pe_str (pa_cons pe_str pa_nil)))))) rfl)
        (pss_one (ps_ret (pe_op op_catT (pe_slice sl_tup (pv 0) po_none (po_some (pe_un un_neg pe_int))) (pe_tup (pa_cons (pe_op op_add (pe_ix ix_tup (pv 0) (pe_un un_neg pe_int) (fun _ _ => rfl)) pe_int) (pa_cons (pe_ix ix_tup (pv 0) (pe_un un_neg pe_int) (fun _ _ => rfl)) pa_nil)))))) pss_nil)
      (pss_one (ps_ret (pv 0)))), ?_⟩
    refine ⟨_, rfl, q, _, _, .str u, rfl, rfl, SqT.of hi, at0 _ _, rfl, _, rfl, ?_⟩
    unfold Parts at hP
    refine ite2 (fun c1 => ?_) (fun c1 => ?_)
    · have c1 := strEq c1
      rw [if_pos c1] at hP
      obtain ⟨b, tq, rfl, htq⟩ := hP
      refine ⟨_, rfl, _, rfl, q, _, rfl, SqT.of hi, (by show ¬ (HT.sIx 3 0 none = 0 ∧ HT.sIx 3 3 (some 2) = 3); decide), fun p1 n1 => ?_⟩
      have s1 := same_new (o := .tup [V.str u, b]) n1
      refine ⟨_, rfl, q, _, _, .ref tq, rfl, rfl, SqT.of (s1 _ _ hi), at2 _ _ _ _, tq, rfl, ⟨_, SqT.of (s1 _ _ htq)⟩, fun D nD => comp_tup (K := K) (a := tq) (xs := ts.map V.int) (fun i σ ys H2 => ∃ (v : Option V), σ = [v] ∧ ys.length = i ∧ Same (upd H p1 (.tup [V.str u, b])) H2 ∧ H2 D = some (.lst ys)) ?_ ?_ ?_ ?_⟩
      · exact ⟨none, rfl, rfl, same_new nD, upd_same⟩
      · rintro i σ ys H2 _ ⟨v, rfl, _, s2, _⟩
        exact SqT.of (s2 _ _ (s1 _ _ htq))
      · rintro i x σ ys H2 hx ⟨v, rfl, hl, s2, hD⟩
        have hil : i < (ts.map V.int).length := (List.getElem?_eq_some_iff.mp hx).1
        rw [List.length_map] at hil
        rw [List.getElem?_map, List.getElem?_eq_getElem hil] at hx
        have hx : x = V.int ts[i] := (Option.some.inj hx).symm
        subst hx
        refine ⟨_, rfl, _, _, rfl, rfl, hD, small1000 (by omega), ?_⟩
        exact ⟨_, rfl, by simp [hl], same_put s2 nD, upd_same⟩
      · rintro σ ys H2 ⟨v, rfl, hl, s2, hD⟩
        refine ⟨D, _, rfl, .inl ⟨SqL.of hD, fun tq' n2 => ⟨(by show 1 ≤ sizeLine; decide), fun t1 n3 => ?_⟩⟩⟩
        have s3 := s2.trans (same_new (o := .tup ys) n2)
        have s4 := s3.trans (same_new (o := .tup [V.ref tq']) n3)
        refine ⟨p1, t1, [V.str u, b], [V.ref tq'], rfl, rfl, SqT.of (s4 _ _ upd_same), SqT.of upd_same, (by intro z; cases z), (by show 3 ≤ sizeLine; decide), (fun z => by cases z), fun _ q' n4 => ?_⟩
        exact k q' _ (s1.trans (s4.trans (same_new n4)))
    · have c1 := strNe c1
      rw [if_neg c1] at hP
      refine ⟨_, rfl, q, _, _, .str u, rfl, rfl, SqT.of hi, at0 _ _, (by show 5 ≤ sizeLine; decide), fun t m => ⟨t, jz.map V.str, rfl, .inr (SqT.of upd_same), rfl, rfl, _, rfl, ?_⟩⟩
      have s1 := same_new (o := .tup (jz.map V.str)) m
      have hi1 := s1 _ _ hi
      rw [show inV (.str u) (jz.map V.str) = decide (u ∈ jz) from inV_str _ _]
      refine ite2 (fun c2 => ?_) (fun c2 => ?_)
      · have c2 := of_decide_eq_true c2
        rcases (jz_cases c2).2 with c3 | ⟨c3, c4⟩
        · rw [if_pos c3] at hP
          obtain ⟨t0, f0, rfl, rfl⟩ := hP
          refine ⟨_, rfl, _, rfl, _, rfl, q, _, rfl, SqT.of hi1, (by show ¬ (HT.sIx 3 0 none = 0 ∧ HT.sIx 3 3 (some (-2)) = 3); decide), fun p1 n1 => ?_⟩
          have s2 := s1.trans (same_new (o := .tup [V.str u]) n1)
          refine ⟨_, rfl, _, rfl, q, _, _, .int t0, rfl, rfl, SqT.of (s2 _ _ hi), rfl, _, _, rfl, rfl, _, rfl, _, rfl, q, _, _, .int f0, rfl, rfl, SqT.of (s2 _ _ hi), rfl, (by show 2 ≤ sizeLine; decide), fun t1 n2 => ?_⟩
          refine ⟨p1, t1, [V.str u], [V.int (t0 + 1), V.int f0], rfl, rfl, SqT.of (same_new n2 _ _ upd_same), SqT.of upd_same, (by intro z; cases z), (by show 3 ≤ sizeLine; decide), (fun z => by cases z), fun _ q' n3 => ?_⟩
          exact k q' _ (s2.trans ((same_new n2).trans (same_new n3)))
        · rw [if_neg c3, if_pos c4] at hP
          obtain ⟨b, t0, f0, rfl, rfl⟩ := hP
          refine ⟨_, rfl, _, rfl, _, rfl, q, _, rfl, SqT.of hi1, (by show ¬ (HT.sIx 4 0 none = 0 ∧ HT.sIx 4 4 (some (-2)) = 4); decide), fun p1 n1 => ?_⟩
          have s2 := s1.trans (same_new (o := .tup [V.str u, b]) n1)
          refine ⟨_, rfl, _, rfl, q, _, _, .int t0, rfl, rfl, SqT.of (s2 _ _ hi), rfl, _, _, rfl, rfl, _, rfl, _, rfl, q, _, _, .int f0, rfl, rfl, SqT.of (s2 _ _ hi), rfl, (by show 2 ≤ sizeLine; decide), fun t1 n2 => ?_⟩
          refine ⟨p1, t1, [V.str u, b], [V.int (t0 + 1), V.int f0], rfl, rfl, SqT.of (same_new n2 _ _ upd_same), SqT.of upd_same, (by intro z; cases z), (by show 4 ≤ sizeLine; decide), (fun z => by cases z), fun _ q' n3 => ?_⟩
          exact k q' _ (s2.trans ((same_new n2).trans (same_new n3)))
      · exact ⟨_, rfl, k q _ s1⟩
end
end My

set_option Elab.async false
set_option linter.all false
set_option maxRecDepth 100000
set_option maxHeartbeats 8000000
namespace My
open PySem L2
section
variable {C x : Addr} {H H' : Hp} {m : MA} {rows : List V} {bs : List Int} {rung : List (Key × V)} {pile : List Int} {k : Int} {here how : V}
theorem MS.notOwn (M : MS C H x m rows bs rung pile k here how) {q : Addr} {xs : List V} (h : H q = some (.tup xs)) : ¬ Own m x q := by
  rintro (rfl | rfl | rfl | rfl | rfl | rfl | rfl | rfl)
  · rw [M.obj] at h; cases h
  · rw [M.box] at h; cases h
  · rw [M.cell] at h; cases h
  · rw [M.asd] at h; cases h
  · rw [M.rg] at h; cases h
  · rw [M.told] at h; cases h
  · rw [M.seen] at h; cases h
  · rw [M.pil] at h; cases h
theorem MS.tups (M : MS C H x m rows bs rung pile k here how) (f : Fr m x H H') {q : Addr} {xs : List V} (h : H q = some (.tup xs)) : H' q = some (.tup xs) := f q _ (M.notOwn h) h
end
/-- of a new machine nothing else is touched -/
theorem keeps {H H0 H1 H2 H3 : Hp} {x dx : Addr} {m : MA} {C : Addr} (e0 : Same H H0) (nx : H0 x = none) (nd : H0 dx = none) (S : SameX x (upd (upd H0 dx (.own x)) x (.ins C dx [])) H1) (own : ∀ c, Own m x c → c ≠ x → upd (upd H0 dx (.own x)) x (.ins C dx []) c = none) (f : Fr m x H1 H2) (g : Fr m x H2 H3) : Same H H3 := fun c o h => by
  have h0 := e0 c o h
  have cx : c ≠ x := ne_of_none h0 nx
  have cd : c ≠ dx := ne_of_none h0 nd
  have h1 : upd (upd H0 dx (.own x)) x (.ins C dx []) c = some o := by
    rw [upd_ne cx, upd_ne cd]
    exact h0
  have no : ¬ Own m x c := fun z => by rw [own c z cx] at h1; cases h1
  exact g c o no (f c o no (S c o cx h1))
section
variable {P : Program} {w : World} {K : PySem.W.Frag} {mg : Str → Option Value} {base : Heap}
/-- what is asked of the class, its methods and its making -/
structure Mch (P : Program) (w : World) (K : PySem.W.Frag) (mg : Str → Option Value) (base : Heap) (C : Addr) : Prop where
  T : MTx K mg C
  mC : mg "Machine" = some (.ref C)
  mkk : ∃ (f : Addr) (fd : FuncData), Mk K C f ∧ FnOk P w K mg base CX0 1 f fd ["self", "rows", "boxes", "cells", "bells"] (spInit C) ∧ Binds K fd ["self", "rows", "boxes", "cells", "bells"] []
  st : ∃ (f : Addr) (fd : FuncData), Meth K C "step" f ∧ FnOk P w K mg base CX0 3 f fd ["self"] (spStep C) ∧ Binds K fd ["self"] []
  rw_ : ∃ (f : Addr) (fd : FuncData), Meth K C "row" f ∧ FnOk P w K mg base CX0 1 f fd ["self"] (spRowM C) ∧ Binds K fd ["self"] []
theorem no_step : ¬ ("step" : Str) ∈ names := by decide +kernel
theorem no_row : ¬ ("row" : Str) ∈ names := by decide +kernel
def spCome : Sp := fun vs H Q _ => ∃ (a q bl bx : Addr) (b n : Int) (rows : List V) (bs bells : List Int) (u : Str) (items : List V) (ts : List Int), vs = [.ref a, .int b, .int n, .ref bl, .ref bx] ∧ H a = some (.lst rows) ∧ rows[0]? = some (.ref q) ∧ H q = some (.tup (.str u :: items)) ∧ Shape u items ∧ Parts H u items ts ∧
  H bl = some (.lst (bells.map V.int)) ∧ bells.length ≤ 100 ∧ H bx = some (.lst (bs.map V.int)) ∧ bs.length = 8 ∧ Bx b ∧ ∀ H', Same H H' → Q (nxt u (boxOf (bs.set b.toNat n) items) ts (decide ((0 : Int) ∈ bells)) [] 1) H'
theorem scCome : FnScope ["_law_rows", "_law_box", "_law_number", "_law_bells", "_law_boxes", "_law_beginning", "_law_machine"] ["_law_rows", "_law_box", "_law_number", "_law_bells", "_law_boxes"] (defScope sCome) := ⟨rfl, rfl, rfl, by decide +kernel, rfl, by decide +kernel, by decide +kernel⟩
theorem ok_come {f C : Addr} {fd : FuncData} (F : Fun K "_law_come_to" "_law_come_to" sCome f fd) (TT : Txt K mg) (Z : Mch P w K mg base C) : FnOk P w K mg base CX0 4 f fd ["_law_rows", "_law_box", "_law_number", "_law_bells", "_law_boxes"] spCome := by
  obtain ⟨T, mC, ⟨fI, fdI, Mk, GI, bI⟩, ⟨fS, fdS, MS_, GS, bS⟩, ⟨fR, fdR, MR, GR, bR⟩⟩ := Z
  refine F.ok scCome (fun vs H Q E h => ?_) (fun cdv A outer s H vs Q E hr h => ?_)
  · obtain ⟨a, q, bl, bx, b, n, rows, bs, bells, u, items, ts, rfl, _⟩ := h
    rfl
  · obtain ⟨a, q, bl, bx, b, n, rows, bs, bells, u, items, ts, rfl, ha, h0, hq, hsh, hP, hbl, hbn, hbx, b8, hb, z⟩ := h
    have hr1 := hr.mono (show 1 ≤ 3 by decide)
    have hr2 := hr.mono (show 2 ≤ 3 by decide)
    refine ⟨_, pss_cons (ps_set (i := 5) scCome.nd rfl (Or.inl rfl) (pe_callTy call_list_of (by rfl) TT.list bt_list (pa_cons (pv 4) pa_nil)))
      (pss_cons (ps_asg (pv 2) (pg_sub (pv 5) (pv 1) set_list))
      (pss_cons (ps_set (i := 6) scCome.nd rfl (Or.inl rfl) (pe_make Mk GI hr2 rfl mC bI .nil pass0 (pa_cons (pv 0) (pa_cons (pv 5) (pa_cons pe_dnewK (pa_cons (pv 3) pa_nil))))))
      (pss_cons (ps_expr (pe_meth0 (pv 6) T.cl MS_ GS hr bS .nil pass0))
      (pss_one (ps_ret (pe_meth0 (pv 6) T.cl MR GR hr1 bR .nil pass0)))))), ?_⟩
    refine ⟨_, rfl, bx, _, rfl, .inl (SqL.of hbx), fun l nl => ?_⟩
    have hix : ixN (bs.map V.int).length b = some b.toNat := by
      obtain ⟨j, rfl⟩ := Int.eq_ofNat_of_zero_le hb.1
      rw [List.length_map, b8]
      have := hb.2
      unfold ixN
      rw [if_pos (by omega), if_pos (by omega)]
    refine ⟨_, rfl, _, rfl, _, rfl, l, _, _, _, rfl, rfl, upd_same, hix, ?_⟩
    rw [show (bs.map V.int).set b.toNat (V.int n) = (bs.set b.toNat n).map V.int from (List.map_set ..).symm]
    generalize hbs : bs.set b.toNat n = bs' at z
    have b8' : bs'.length = 8 := by rw [← hbs, List.length_set]; exact b8
    have s1 : Same H (upd (upd H l (.lst (bs.map V.int))) l (.lst (bs'.map V.int))) := same_put (same_new nl) nl
    generalize hH1 : upd (upd H l (.lst (bs.map V.int))) l (.lst (bs'.map V.int)) = H1 at s1
    have hl1 : H1 l = some (.lst (bs'.map V.int)) := by rw [← hH1]; exact upd_same
    refine ⟨_, rfl, _, rfl, fun d nd => ⟨_, rfl, fun x dx nx ndx ne => ?_⟩⟩
    have s2 := s1.trans (same_new (o := .dK []) nd)
    have hd2 : upd H1 d (.dK []) d = some (.dK []) := upd_same
    have hl2 := same_new (o := .dK []) nd _ _ hl1
    generalize upd H1 d (.dK []) = H2 at nx ndx s2 hd2 hl2
    have s3 : ∀ {c o}, H2 c = some o → upd (upd H2 dx (.own x)) x (.ins C dx []) c = some o := fun {c o} h => by
      rw [upd_ne (ne_of_none h nx), upd_ne (ne_of_none h ndx)]
      exact h
    refine ⟨x, dx, a, l, d, bl, rows, bs', bells, rfl, upd_same, s3 (s2 _ _ ha), s3 hl2, b8', s3 hd2, s3 (s2 _ _ hbl), hbn, fun m rung H3 hrg M SX own => ⟨rfl, ?_⟩⟩
    have hq3 : H3 q = some (.tup (.str u :: items)) := SX _ _ (ne_of_none (s2 _ _ hq) nx) (s3 (s2 _ _ hq))
    have hP3 : Parts H3 u items ts := by
      unfold Parts at hP ⊢
      split
      · rename_i h8
        rw [if_pos h8] at hP
        obtain ⟨b', q', g1, g2⟩ := hP
        exact ⟨b', q', g1, SX _ _ (ne_of_none (s2 _ _ g2) nx) (s3 (s2 _ _ g2))⟩
      · rename_i h8
        rw [if_neg h8] at hP
        exact hP
    refine ⟨_, rfl, x, m.dx, _, rfl, M.obj, f_no no_step, ?_⟩
    refine ⟨x, q, m, rows, bs', rung, [], 0, 0, .non, u, items, ts, rfl, M, h0, hq3, hsh, hP3, (by decide), fun H4 f4 hh _ => ?_⟩
    rw [hrg 0] at hh
    obtain ⟨m', k', w', ho⟩ := id hh
    exact ⟨_, rfl, x, m'.dx, _, rfl, ho, f_no no_row, x, _, rfl, hh, z H4 (keeps s2 nx ndx SX own f4 Fr.refl)⟩
/-! ### coming home -/
def spHome : Sp := fun vs H Q _ => ∃ (a q : Addr) (rows : List V) (u : Str) (t f : Int), vs = [.ref a, .int 0] ∧ H a = some (.lst (.ref q :: rows)) ∧ H q = some (.tup [.str u, .int t, .int f]) ∧ (u = "call" ∨ u = "mark") ∧ 0 ≤ t ∧ t < (rows.length : Int) + 1 ∧ rows.length ≤ 100 ∧ ∀ H', Same H H' → Q (.int 1) H'
theorem scHome : FnScope ["_law_rows", "_law_number", "_law_row_here", "_law_home", "_law_machine"] ["_law_rows", "_law_number"] (defScope sHome) := ⟨rfl, rfl, rfl, by decide +kernel, rfl, by decide +kernel, by decide +kernel⟩
theorem ok_home {f C : Addr} {fd : FuncData} (F : Fun K "_law_comes_home" "_law_comes_home" sHome f fd) (TT : Txt K mg) (Z : Mch P w K mg base C) : FnOk P w K mg base CX0 4 f fd ["_law_rows", "_law_number"] spHome := by
  obtain ⟨T, mC, ⟨fI, fdI, Mk, GI, bI⟩, ⟨fS, fdS, MS_, GS, bS⟩, ⟨fR, fdR, MR, GR, bR⟩⟩ := Z
  refine F.ok scHome (fun vs H Q E h => ?_) (fun cdv A outer s H vs Q E hr h => ?_)
  · obtain ⟨a, q, rows, u, t, f, rfl, _⟩ := h
    rfl
  · obtain ⟨a, q, rows, u, t, f', rfl, ha, hq, hu, t0, t1, hrl, z⟩ := h
    have hr1 := hr.mono (show 1 ≤ 3 by decide)
    have hr2 := hr.mono (show 2 ≤ 3 by decide)
    refine ⟨_, pss_cons (ps_set (i := 2) scHome.nd rfl (Or.inl rfl) (pe_ix ix_list (pv 0) pe_int (fun _ _ => rfl)))
      (pss_cons (ps_set (i := 3) scHome.nd rfl (Or.inl rfl) (pe_op op_cat (pe_lst (pa_cons (pv 2) pa_nil)) (pe_callTy call_list_of (by rfl) TT.list bt_list (pa_cons (pe_slice sl_list (pv 0) (po_some pe_int) po_none) pa_nil))))
      (pss_cons (ps_asg (pe_tup (pa_cons pe_str pa_nil)) (pg_sub (pv 3) (pe_ix ix_tup (pv 2) pe_int (fun _ _ => rfl)) set_list))
      (pss_cons (ps_if (pt_cmpR op_eq (pe_ix ix_tup (pv 2) pe_int (fun _ _ => rfl)) pe_int (nomark _)) (pss_one (ps_ret (pe_op op_add (pv 1) pe_int))) pss_nil)
      (pss_cons (ps_set (i := 4) scHome.nd rfl (Or.inl rfl) (pe_make Mk GI hr2 (by rfl) mC bI .nil pass0 (pa_cons (pv 3) (pa_cons (pe_op op_rep (pe_lst (pa_cons pe_int pa_nil)) pe_int) (pa_cons pe_dnewK (pa_cons (pe_lst (pa_cons pe_int pa_nil)) pa_nil))))))
      (pss_cons (ps_expr (pe_meth0 (pv 4) T.cl MS_ GS hr bS .nil pass0))
      (pss_cons (ps_expr (pe_meth0 (pv 4) T.cl MS_ GS hr bS .nil pass0))
      (pss_one (ps_ret (pe_meth0 (pv 4) T.cl MR GR hr1 bR .nil pass0))))))))), ?_⟩
    refine ⟨_, rfl, a, _, _, .ref q, rfl, rfl, SqL.of ha, at0 _ _, ?_⟩
    refine ⟨_, rfl, (by show 1 ≤ sizeLine; decide), fun l1 n1 => ?_⟩
    have s1 := same_new (o := .lst [V.ref q]) n1
    refine ⟨_, rfl, _, rfl, a, _, rfl, SqL.of (s1 _ _ ha), fun l2 n2 => ?_⟩
    rw [cut1]
    have s2 := s1.trans (same_new (o := .lst rows) n2)
    refine ⟨l2, _, rfl, .inl (SqL.of upd_same), fun l3 n3 => ?_⟩
    have s3 := s2.trans (same_new (o := .lst rows) n3)
    refine ⟨l1, l3, [V.ref q], rows, rfl, rfl, (same_new n3) _ _ ((same_new n2) _ _ upd_same), upd_same, Nat.le_of_lt (small1000 (by show 1 + rows.length ≤ 1000; omega)), fun l4 n4 => ?_⟩
    have s4 := s3.trans (same_new (o := .lst ([V.ref q] ++ rows)) n4)
    generalize hG : upd _ l4 (HO.lst ([V.ref q] ++ rows)) = G at s4 ⊢
    have hl4 : G l4 = some (.lst (.ref q :: rows)) := by rw [← hG]; exact upd_same
    have hf4 : H l4 = none := s3.free n4
    clear hG n1 n2 n3 n4 s1 s2 s3
    refine ⟨(by show 1 ≤ sizeLine; decide), fun pb nb => ?_⟩
    have s5 := s4.trans (same_new (o := .tup [.str "back"]) nb)
    have hpb : upd G pb (.tup [.str "back"]) pb = some (.tup [.str "back"]) := upd_same
    have hl5 := same_new (o := .tup [.str "back"]) nb _ _ hl4
    generalize upd G pb (.tup [.str "back"]) = G2 at s5 hpb hl5
    have hix : ixN (V.ref q :: rows).length t = some t.toNat := by
      obtain ⟨j, rfl⟩ := Int.eq_ofNat_of_zero_le t0
      rw [List.length_cons]
      unfold ixN
      rw [if_pos (by omega), if_pos (by omega)]
    refine ⟨_, rfl, _, rfl, q, _, _, .int t, rfl, rfl, SqT.of (s5 _ _ hq), at1 _ _ _, l4, _, _, _, rfl, rfl, hl5, hix, ?_⟩
    have s6 : Same H (upd G2 l4 (.lst ((V.ref q :: rows).set t.toNat (.ref pb)))) := same_put s5 hf4
    have hl6 : upd G2 l4 (.lst ((V.ref q :: rows).set t.toNat (.ref pb))) l4 = some (.lst ((V.ref q :: rows).set t.toNat (.ref pb))) := upd_same
    have hp6 : upd G2 l4 (.lst ((V.ref q :: rows).set t.toNat (.ref pb))) pb = some (.tup [.str "back"]) := by
      rw [upd_ne (ne_of hpb hl5 (by intro z; cases z))]
      exact hpb
    generalize upd G2 l4 (.lst ((V.ref q :: rows).set t.toNat (.ref pb))) = G3 at s6 hl6 hp6
    refine ⟨_, rfl, q, _, _, .int t, rfl, rfl, SqT.of (s6 _ _ hq), at1 _ _ _, rfl, _, rfl, ?_⟩
    refine ite2 (fun e => ?_) (fun e => ?_)
    · exact ⟨_, rfl, _, _, rfl, rfl, z _ s6⟩
    have e : ¬ t = 0 := fun c => e (by rw [c]; exact decide_eq_true rfl)
    refine ⟨_, rfl, (by show 1 ≤ sizeLine; decide), fun l7 n7 => ?_⟩
    have s7 := s6.trans (same_new (o := .lst [V.int 0]) n7)
    have k7 := same_new (o := .lst [V.int 0]) n7
    refine ⟨l7, 8, [V.int 0], rfl, rfl, upd_same, by decide, by decide, (by show 1 * 8 ≤ sizeLine; decide), fun l8 n8 => ?_⟩
    have k8 := k7.trans (same_new (o := .lst (List.replicate (8 : Int).toNat [V.int 0]).flatten) n8)
    have hl8 : upd (upd G3 l7 (.lst [V.int 0])) l8 (.lst (List.replicate (8 : Int).toNat [V.int 0]).flatten) l8 = some (.lst ([0, 0, 0, 0, 0, 0, 0, 0].map V.int)) := upd_same
    refine fun d nd => ⟨(by show 1 ≤ sizeLine; decide), fun l9 n9 => ?_⟩
    have k9 := same_new (o := .dK []) nd
    have k10 := same_new (o := .lst [V.int 0]) n9
    have kk := k8.trans (k9.trans k10)
    have hd9 := k10 _ _ (upd_same (H := upd (upd G3 l7 (.lst [V.int 0])) l8 (.lst (List.replicate (8 : Int).toNat [V.int 0]).flatten)) (a := d) (o := .dK []))
    have hl8' := (k9.trans k10) _ _ hl8
    have hl9 : upd (upd (upd (upd G3 l7 (.lst [V.int 0])) l8 (.lst (List.replicate (8 : Int).toNat [V.int 0]).flatten)) d (.dK [])) l9 (.lst [V.int 0]) l9 = some (.lst (([0] : List Int).map V.int)) := upd_same
    have s10 := s6.trans kk
    have hl10 := kk _ _ hl6
    have hp10 := kk _ _ hp6
    generalize hG4 : upd (upd (upd (upd G3 l7 (.lst [V.int 0])) l8 (.lst (List.replicate (8 : Int).toNat [V.int 0]).flatten)) d (.dK [])) l9 (.lst [V.int 0]) = G4 at s10 hl10 hp10 hd9 hl8' hl9
    refine fun x dx nx ndx ne => ?_
    have s3 : ∀ {c o}, G4 c = some o → upd (upd G4 dx (.own x)) x (.ins C dx []) c = some o := fun {c o} h => by
      rw [upd_ne (ne_of_none h nx), upd_ne (ne_of_none h ndx)]
      exact h
    refine ⟨x, dx, l4, l8, d, l9, (V.ref q :: rows).set t.toNat (.ref pb), [0, 0, 0, 0, 0, 0, 0, 0], [0], rfl, upd_same, s3 hl10, s3 hl8', rfl, s3 hd9, s3 hl9, (by decide), fun m rung H3 hrg M SX own => ⟨rfl, ?_⟩⟩
    have up : ∀ {c : Addr} {xs : List V}, G4 c = some (.tup xs) → H3 c = some (.tup xs) := fun {c xs} h => SX _ _ (ne_of_none h nx) (s3 h)
    have hq3 := up (s10 _ _ hq)
    have hp3 := up hp10
    obtain ⟨j, rfl⟩ := Int.eq_ofNat_of_zero_le t0
    have hj0 : j ≠ 0 := fun c => e (by rw [c]; rfl)
    have hj1 : j < rows.length + 1 := by omega
    have row0 : ((V.ref q :: rows).set (j : Int).toNat (.ref pb))[0]? = some (.ref q) := by
      rw [Int.toNat_natCast]
      cases j with
      | zero => exact absurd rfl hj0
      | succ j => rfl
    have rowj : ((V.ref q :: rows).set (j : Int).toNat (.ref pb))[j]? = some (.ref pb) := by
      rw [Int.toNat_natCast, List.getElem?_set_self (by rw [List.length_cons]; exact hj1)]
    have huj : u ∈ jcm := by rcases hu with rfl | rfl <;> decide +kernel
    have hP3 : Parts H3 u [.int (j : Int), .int f'] [(j : Int)] := parts_jcm ⟨(by rcases hu with rfl | rfl <;> decide +kernel), huj⟩
    refine ⟨_, rfl, x, m.dx, _, rfl, M.obj, f_no no_step, ?_⟩
    refine ⟨x, q, m, _, _, rung, [], 0, 0, .non, u, [.int (j : Int), .int f'], [(j : Int)], rfl, M, row0, hq3, .inr (.inr (.inr (.inr (.inr (.inr (.inl ⟨huj, _, _, rfl⟩)))))), hP3, (by decide), fun H4 f4 _ hM => ?_⟩
    have hring : (valV rung (Sum.inl (0 : Int))).isSome = true := by rw [hrg 0]; decide
    obtain ⟨k', M4⟩ := hM (by rcases hu with rfl | rfl; exact .inl rfl; exact .inr ⟨rfl, hring⟩)
    have hp4 := M.tups f4 hp3
    refine ⟨_, rfl, x, m.dx, _, rfl, M4.obj, f_no no_step, ?_⟩
    refine ⟨x, pb, m, _, _, rung, [] ++ [((0 : Nat) : Int) + 1], k', j, .non, "back", [], [], rfl, M4, rowj, hp4, .inl ⟨by decide +kernel, rfl⟩, parts_plain (by decide +kernel), (by decide), fun H5 f5 hh _ => ?_⟩
    rw [nxt_back] at hh
    obtain ⟨m', k'', w', ho⟩ := id hh
    exact ⟨_, rfl, x, m'.dx, _, rfl, ho, f_no no_row, x, _, rfl, hh, z H5 (keeps s10 nx ndx SX own f4 f5)⟩
end
end My

set_option Elab.async false
set_option linter.all false
set_option maxRecDepth 100000
set_option maxHeartbeats 4000000
namespace My
open PySem L2
def zbt : List Str := ["zero", "below", "table"]
def cm : List Str := ["call", "mark"]
def sbh : List Str := ["stop", "back", "halt"]
theorem nxt_bv {u : Str} {bv n : Int} {ts : List Int} {ring : Bool} {pile : List Int} {h : Int} (e : u ∈ zbt → bv = n) : nxt u bv ts ring pile h = nxt u n ts ring pile h := by
  by_cases hm : u ∈ zbt
  · rw [e hm]
  · have h1 : ¬ u = "zero" := fun z => hm (by rw [z]; decide +kernel)
    have h2 : ¬ u = "below" := fun z => hm (by rw [z]; decide +kernel)
    have h3 : ¬ u = "table" := fun z => hm (by rw [z]; decide +kernel)
    unfold nxt
    rw [if_neg h1, if_neg h2, if_neg h3, if_neg h1, if_neg h2, if_neg h3]
def nxtO (u : Str) (n : Int) (ts : List Int) (ring : Bool) : Option Int := match nxt u n ts ring [] 1 with
  | .int i => some i
  | _ => none
theorem nxt_or (u : Str) (n : Int) (ts : List Int) (ring : Bool) : nxt u n ts ring [] 1 = .non ∨ ∃ i, nxt u n ts ring [] 1 = .int i := by
  unfold nxt
  split
  · exact .inl rfl
  split
  · exact .inl rfl
  split
  · split
    · exact .inr ⟨_, rfl⟩
    · exact .inr ⟨_, rfl⟩
  split
  · exact .inr ⟨_, rfl⟩
  split
  · exact .inr ⟨_, rfl⟩
  split
  · exact .inr ⟨_, rfl⟩
  · exact .inr ⟨_, rfl⟩
theorem nxt_oV (u : Str) (n : Int) (ts : List Int) (ring : Bool) : nxt u n ts ring [] 1 = oV (nxtO u n ts ring) := by
  unfold nxtO
  rcases nxt_or u n ts ring with e | ⟨i, e⟩ <;> rw [e] <;> rfl
theorem nxtO_of {u : Str} {n i : Int} {ts : List Int} {ring : Bool} (e : nxt u n ts ring [] 1 = .int i) : nxtO u n ts ring = some i := by
  unfold nxtO
  rw [e]
theorem nxtO_non {u : Str} {n : Int} {ts : List Int} {ring : Bool} (e : nxt u n ts ring [] 1 = .non) : nxtO u n ts ring = none := by
  unfold nxtO
  rw [e]
theorem ends {u : Str} {n : Int} {ts : List Int} {ring : Bool} (h : u ∈ sbh) : nxtO u n ts ring = none := by
  refine nxtO_non ?_
  rcases (show u = "stop" ∨ u = "back" ∨ u = "halt" by simpa [sbh] using h) with rfl | rfl | rfl
  · exact nxt_end (.inl rfl)
  · exact nxt_back0
  · exact nxt_end (.inr rfl)
/-- the rows to which the machine comes are the ways -/
theorem come_ways {H : Hp} {u : Str} {items : List V} {ts : List Int} (hs : Shape u items) (hP : Parts H u items ts) (hl : ts.length ≤ 16) (hn : ¬ u ∈ sbh) :
    (∀ n ring, ∃ j, nxtO u n ts ring = some j) ∧ ∀ j : Int, ((∃ (i : Nat) (ring : Bool), i < 20 ∧ some j = nxtO u (-2 + i) ts ring) ∨ (u ∈ cm ∧ j = 1)) ↔ (j ∈ ts ∨ (¬ u ∈ notOn ∧ j = (0 : Nat) + 1)) := by
  have plain : ∀ ws : List Str, u ∈ ws → (∀ u ∈ ws, u ∈ straight ∧ (¬ u = "table" ∧ ¬ u ∈ jcm ∧ ¬ u ∈ zb) ∧ ¬ u ∈ cm ∧ ¬ u ∈ notOn) → (∀ n ring, ∃ j, nxtO u n ts ring = some j) ∧ ∀ j : Int, ((∃ (i : Nat) (ring : Bool), i < 20 ∧ some j = nxtO u (-2 + i) ts ring) ∨ (u ∈ cm ∧ j = 1)) ↔ (j ∈ ts ∨ (¬ u ∈ notOn ∧ j = (0 : Nat) + 1)) := fun ws hu hw => by
    obtain ⟨h1, ⟨h2, h3, h4⟩, h5, h6⟩ := hw u hu
    have ht : ts = [] := by
      unfold Parts at hP
      rw [if_neg h2, if_neg h3, if_neg h4] at hP
      exact hP
    subst ht
    have e : ∀ n ring, nxtO u n [] ring = some 1 := fun n ring => nxtO_of (nxt_go h1)
    refine ⟨fun n ring => ⟨1, e n ring⟩, fun j => ⟨?_, ?_⟩⟩
    · rintro (⟨i, ring, _, h⟩ | ⟨h, _⟩)
      · rw [e] at h
        exact .inr ⟨h6, by have := Option.some.inj h; omega⟩
      · exact absurd h h5
    · rintro (h | ⟨_, h⟩)
      · exact absurd h (by simp)
      · exact .inl ⟨0, true, by decide, by rw [e, h]; rfl⟩
  rcases hs with ⟨hu, rfl⟩ | ⟨hu, v, rfl⟩ | ⟨hu, b, v, hb, rfl⟩ | ⟨hu, b, c, hb, hc, rfl⟩ | ⟨hu, b, hb, rfl⟩ | ⟨hu, b, v, hb, rfl⟩ | ⟨hu, t, f', rfl⟩ | ⟨hu, b, t, f', hb, rfl⟩ | ⟨hu, b, p, hb, rfl⟩
  · exact absurd ((by decide +kernel : ∀ u ∈ (["stop", "back"] : List Str), u ∈ sbh) u hu) hn
  · exact absurd (by rw [hu]; decide +kernel) hn
  · exact plain _ hu (by decide +kernel)
  · exact plain _ hu (by decide +kernel)
  · exact plain ["tell"] (by rw [hu]; decide +kernel) (by decide +kernel)
  · exact plain _ hu (by decide +kernel)
  · have ht : ts = [t] := by
      unfold Parts at hP
      rw [if_neg ((by decide +kernel : ∀ u ∈ jcm, ¬ u = "table") u hu), if_pos hu] at hP
      obtain ⟨t', f'', e1, e2⟩ := hP
      injection e1 with e1 _
      injection e1 with e1
      rw [e2, e1]
    subst ht
    rcases (show u = "jump" ∨ u = "call" ∨ u = "mark" by simpa [jcm] using hu) with rfl | rfl | rfl
    · have e : ∀ n ring, nxtO "jump" n [t] ring = some t := fun n ring => nxtO_of (nxt_j hu fun z => absurd z (by decide +kernel))
      refine ⟨fun n ring => ⟨t, e n ring⟩, fun j => ⟨?_, ?_⟩⟩
      · rintro (⟨i, ring, _, h⟩ | ⟨h, _⟩)
        · rw [e] at h
          exact .inl (by rw [Option.some.inj h]; simp)
        · exact absurd h (by decide +kernel)
      · rintro (h | ⟨h, _⟩)
        · exact .inl ⟨0, true, by decide, by rw [e, List.mem_singleton.mp h]⟩
        · exact absurd (by decide +kernel) h
    · have e : ∀ n ring, nxtO "call" n [t] ring = some t := fun n ring => nxtO_of (nxt_j hu fun z => absurd z (by decide +kernel))
      refine ⟨fun n ring => ⟨t, e n ring⟩, fun j => ⟨?_, ?_⟩⟩
      · rintro (⟨i, ring, _, h⟩ | ⟨_, h⟩)
        · rw [e] at h
          exact .inl (by rw [Option.some.inj h]; simp)
        · exact .inr ⟨by decide +kernel, by omega⟩
      · rintro (h | ⟨_, h⟩)
        · exact .inl ⟨0, true, by decide, by rw [e, List.mem_singleton.mp h]⟩
        · exact .inr ⟨by decide +kernel, by omega⟩
    · have e1 : ∀ n, nxtO "mark" n [t] true = some t := fun n => nxtO_of (nxt_j hu fun _ => rfl)
      have e0 : ∀ n, nxtO "mark" n [t] false = some 1 := fun n => nxtO_of nxt_m
      refine ⟨fun n ring => by cases ring; exact ⟨1, e0 n⟩; exact ⟨t, e1 n⟩, fun j => ⟨?_, ?_⟩⟩
      · rintro (⟨i, ring, _, h⟩ | ⟨_, h⟩)
        · cases ring
          · rw [e0] at h
            exact .inr ⟨by decide +kernel, by have := Option.some.inj h; omega⟩
          · rw [e1] at h
            exact .inl (by rw [Option.some.inj h]; simp)
        · exact .inr ⟨by decide +kernel, by omega⟩
      · rintro (h | ⟨_, h⟩)
        · exact .inl ⟨0, true, by decide, by rw [e1, List.mem_singleton.mp h]⟩
        · exact .inr ⟨by decide +kernel, by omega⟩
  · have ht : ts = [t] := by
      unfold Parts at hP
      rw [if_neg ((by decide +kernel : ∀ u ∈ zb, ¬ u = "table") u hu), if_neg ((by decide +kernel : ∀ u ∈ zb, ¬ u ∈ jcm) u hu), if_pos hu] at hP
      obtain ⟨b', t', f'', e1, e2⟩ := hP
      injection e1 with _ e1
      injection e1 with e1 _
      injection e1 with e1
      rw [e2, e1]
    subst ht
    rcases (show u = "zero" ∨ u = "below" by simpa [zb] using hu) with rfl | rfl
    · have e : ∀ n ring, nxtO "zero" n [t] ring = some (if n = 0 then t else 1) := fun n ring => nxtO_of nxt_z
      refine ⟨fun n ring => ⟨_, e n ring⟩, fun j => ⟨?_, ?_⟩⟩
      · rintro (⟨i, ring, _, h⟩ | ⟨h, _⟩)
        · rw [e] at h
          have h := Option.some.inj h
          split at h
          · exact .inl (by rw [h]; simp)
          · exact .inr ⟨by decide +kernel, by omega⟩
        · exact absurd h (by decide +kernel)
      · rintro (h | ⟨_, h⟩)
        · exact .inl ⟨2, true, by decide, by rw [e, List.mem_singleton.mp h, if_pos (by decide)]⟩
        · exact .inl ⟨0, true, by decide, by rw [e, if_neg (by decide), h]; rfl⟩
    · have e : ∀ n ring, nxtO "below" n [t] ring = some (if n < 0 then t else 1) := fun n ring => nxtO_of nxt_b
      refine ⟨fun n ring => ⟨_, e n ring⟩, fun j => ⟨?_, ?_⟩⟩
      · rintro (⟨i, ring, _, h⟩ | ⟨h, _⟩)
        · rw [e] at h
          have h := Option.some.inj h
          split at h
          · exact .inl (by rw [h]; simp)
          · exact .inr ⟨by decide +kernel, by omega⟩
        · exact absurd h (by decide +kernel)
      · rintro (h | ⟨_, h⟩)
        · exact .inl ⟨0, true, by decide, by rw [e, List.mem_singleton.mp h, if_pos (by decide)]⟩
        · exact .inl ⟨2, true, by decide, by rw [e, if_neg (by decide), h]; rfl⟩
  · subst hu
    have e : ∀ n ring, nxtO "table" n ts ring = some (if 0 ≤ n ∧ n < ts.length then ts.getD n.toNat 0 else 1) := fun n ring => nxtO_of nxt_t
    refine ⟨fun n ring => ⟨_, e n ring⟩, fun j => ⟨?_, ?_⟩⟩
    · rintro (⟨i, ring, _, h⟩ | ⟨h, _⟩)
      · rw [e] at h
        have h := Option.some.inj h
        split at h
        · rename_i hc
          have hlt : (-2 + (i : Int)).toNat < ts.length := by omega
          refine .inl ?_
          rw [h, List.getD_eq_getElem?_getD, List.getElem?_eq_getElem hlt]
          exact List.getElem_mem hlt
        · exact .inr ⟨by decide +kernel, by omega⟩
      · exact absurd h (by decide +kernel)
    · rintro (h | ⟨_, h⟩)
      · obtain ⟨i, hi, ej⟩ := List.getElem_of_mem h
        refine .inl ⟨i + 2, true, by omega, ?_⟩
        rw [e, if_pos (by omega), show (-2 + ((i + 2 : Nat) : Int)).toNat = i by omega, List.getD_eq_getElem?_getD, List.getElem?_eq_getElem hi, ← ej]
        rfl
      · exact .inl ⟨0, true, by decide, by rw [e, if_neg (fun c => absurd c.1 (by decide)), h]; rfl⟩
/-! ### keys put one by one -/
theorem putO_nd {ks : List (Option Int)} {k : Option Int} (h : ks.Nodup) : (putO ks k).Nodup := by
  unfold putO
  split
  · exact h
  · rename_i n
    rw [List.nodup_append]
    exact ⟨h, by simp, fun a ha b hb e => n (by rw [List.mem_singleton.mp hb] at e; rw [← e]; exact ha)⟩
theorem putO_mem {ks : List (Option Int)} {k j : Option Int} : j ∈ putO ks k ↔ j ∈ ks ∨ j = k := by
  unfold putO
  split
  · rename_i h
    exact ⟨.inl, fun z => z.elim id fun e => by rw [e]; exact h⟩
  · rw [List.mem_append, List.mem_singleton]
theorem putO_len {ks : List (Option Int)} {k : Option Int} : (putO ks k).length ≤ ks.length + 1 := by
  unfold putO
  split
  · omega
  · rw [List.length_append]
    exact Nat.le_refl _
theorem all_none : ∀ {ks : List (Option Int)}, ks.Nodup → (∀ k ∈ ks, k = none) → none ∈ ks → ks = [none]
  | [], _, _, h => by simp at h
  | [k], _, h, _ => by rw [h k (by simp)]
  | a :: b :: r, n, h, _ => by
    exfalso
    have e1 := h a (by simp)
    have e2 := h b (by simp)
    rw [e1, e2] at n
    simp at n
theorem all_some : ∀ {ks : List (Option Int)}, (∀ k ∈ ks, ∃ j, k = some j) → ∃ is : List Int, ks = is.map some
  | [], _ => ⟨[], rfl⟩
  | k :: ks, h => by
    obtain ⟨j, e⟩ := h k (by simp)
    obtain ⟨is, e2⟩ := all_some (ks := ks) fun k hk => h k (by simp [hk])
    exact ⟨j :: is, by rw [e, e2]; rfl⟩
end My

set_option Elab.async false
set_option linter.all false
set_option maxRecDepth 100000
set_option maxHeartbeats 16000000
namespace L2
open PySem PySem.Spec PyProof.Rows
/-! ### a display of texts -/
def strV : List Expr → List V
  | .Constant (.str x) _ _ :: r => V.str x :: strV r
  | _ => []
def isStrs : List Expr → Bool
  | [] => true
  | .Constant (.str _) _ _ :: r => isStrs r
  | _ => false
theorem pa_strs {X : Cx} : ∀ {es : List Expr}, isStrs es = true → PA X es (fun _ H Q => Q (strV es) H)
  | [], _ => pa_nil
  | .Constant (.str x) j p :: r, h => by
    have ih := pa_strs (X := X) (es := r) h
    exact pa_cons (pe_str (x := x)) ih
end L2
namespace My
open PySem L2
abbrev N12 : List Str := ["_law_script", "_law_words", "_law_inner", "_law_size", "_law_xs", "_law_rows", "_law_spare", "_law_boxes", "_law_box", "_law_come", "_law_number", "_law_bells"]
theorem scLaw : FnScope N12 ["_law_script"] (defScope sLaw) := ⟨rfl, rfl, rfl, by decide +kernel, rfl, by decide +kernel, by decide +kernel⟩
def c1 : Scope := { kind := .function, names := [(".0", .local), ("_law_row_here", .local), ("_law_led", .globalImplicit)], isGenerator := false, isCoroutine := false, more := [] }
def c2 : Scope := { kind := .function, names := [(".0", .local), ("_law_k", .local), ("_law_spare", .free)], isGenerator := false, isCoroutine := false, more := [] }
theorem s_c1 : CompSc (defScope sLaw) c1 N12 ["_law_row_here"] [none] := ⟨rfl, by decide +kernel, by decide +kernel, by decide +kernel, by decide +kernel, by decide +kernel⟩
theorem s_c2 : CompSc (defScope sLaw) c2 N12 ["_law_k", "_law_spare"] [none, some 6] := ⟨rfl, by decide +kernel, by decide +kernel, by decide +kernel, by decide +kernel, by decide +kernel⟩
section
variable {P : Program} {w : World} {K : PySem.W.Frag} {mg : Str → Option Value} {base : Heap}
noncomputable def tailTerm {f fW : Addr} {fdW : FuncData} (T : Txt K mg)
    (GW : FnOk P w K mg base CX0 2 fW fdW ["rows", "r"] (spWays (K := K))) (kW : PySem.W.keepIn K (.ref fW) = true) (bW : Binds K fdW ["rows", "r"] []) (mW : mg "ways_of" = some (.ref fW))
    (cdv : Value) (A : Around) (outer : List Env) (s : Shared) (H : Hp) (E : XK) (hr : Room 4 (A.deeper (PyProof.Rows.envOfC "law" (defScope sLaw) s.heap.objs.size f cdv))) :
    PSigma fun t : TS => PSs (cxOf CX0 P w K mg base N12 "law" (defScope sLaw) f cdv A outer s H E).nox ((defBody sLaw).drop 13) t :=
  have hu : (A.deeper (PyProof.Rows.envOfC "law" (defScope sLaw) s.heap.objs.size f cdv)).units < cLine := hr.units0
  have hr2 : Room 2 (A.deeper (PyProof.Rows.envOfC "law" (defScope sLaw) s.heap.objs.size f cdv)) := hr.mono (by decide)
  have hr1 : Room 1 (A.deeper (PyProof.Rows.envOfC "law" (defScope sLaw) s.heap.objs.size f cdv)) := hr.mono (by decide)
  ⟨_, pss_cons (ps_if (pt_cmpR op_in_seq (pe_ix ix_tup (pe_ix ix_list (pv 5) pe_int (fun _ _ => rfl)) pe_int (fun _ _ => rfl)) (pe_tup (pa_cons pe_str (pa_cons pe_str (pa_cons pe_str pa_nil)))) rfl) (pss_one (ps_ret (pe_and (pe_cmpR (op_eqL hu) (pe_callTy (call_list_o rfl) (by rfl) T.list bt_list (pa_cons (pv 9) pa_nil)) (pe_lst (pa_cons pe_non pa_nil)) (nomark _)) (pe_one (pe_cmpR (op_eqL hu) (pe_call GW hr2 (by rfl) mW kW bW .nil pass0 (pa_cons (pv 5) (pa_cons pe_int pa_nil))) (pe_lst pa_nil) (nomark _)))))) pss_nil)
    (pss_one (ps_ret (pe_and (pe_cmp (pc_onotin pe_non (pv 9)) rfl) (pe_one (pe_cmpR (op_eqL hu) (pe_callB (call_sorted_o rfl) (by rfl) T.sorted bt_sorted (pa_cons (pv 9) pa_nil)) (pe_call GW hr2 (by rfl) mW kW bW .nil pass0 (pa_cons (pv 5) (pa_cons pe_int pa_nil))) (nomark _))))))⟩
noncomputable def restTerm {f fW fM fH : Addr} {fdW fdM fdH : FuncData} (T : Txt K mg)
    (GW : FnOk P w K mg base CX0 2 fW fdW ["rows", "r"] (spWays (K := K))) (kW : PySem.W.keepIn K (.ref fW) = true) (bW : Binds K fdW ["rows", "r"] []) (mW : mg "ways_of" = some (.ref fW))
    (GM : FnOk P w K mg base CX0 4 fM fdM ["_law_rows", "_law_box", "_law_number", "_law_bells", "_law_boxes"] spCome) (kM : PySem.W.keepIn K (.ref fM) = true) (bM : Binds K fdM ["_law_rows", "_law_box", "_law_number", "_law_bells", "_law_boxes"] []) (mM : mg "_law_come_to" = some (.ref fM))
    (GH : FnOk P w K mg base CX0 4 fH fdH ["_law_rows", "_law_number"] spHome) (kH : PySem.W.keepIn K (.ref fH) = true) (bH : Binds K fdH ["_law_rows", "_law_number"] []) (mH : mg "_law_comes_home" = some (.ref fH))
    (cdv : Value) (A : Around) (outer : List Env) (s : Shared) (H : Hp) (E : XK) (hr : Room 4 (A.deeper (PyProof.Rows.envOfC "law" (defScope sLaw) s.heap.objs.size f cdv))) :
    PSigma fun t : TS => PSs (cxOf CX0 P w K mg base N12 "law" (defScope sLaw) f cdv A outer s H E).nox ((defBody sLaw).drop 10) t :=
  ⟨_, pss_cons (ps_set (i := 9) scLaw.nd rfl (Or.inl rfl) pe_onew)
    (pss_cons (ps_for PassesOwn.never rfl (pi_range2 rfl T.range (pa_cons (pe_un un_neg pe_int) (pa_cons pe_int pa_nil))) (pg_name (i := 10) scLaw.nd rfl (Or.inl rfl))
      (pss_one (ps_for PassesOwn.never rfl (pi_list (pe_lst (pa_cons (pe_lst pa_nil) (pa_cons (pe_lst (pa_cons pe_int pa_nil)) pa_nil)))) (pg_name (i := 11) scLaw.nd rfl (Or.inl rfl))
        (pss_one (ps_oput (pv 9) (pe_call GM hr rfl mM kM bM .nil pass0 (pa_cons (pv 5) (pa_cons (pv 8) (pa_cons (pv 10) (pa_cons (pv 11) (pa_cons (pv 7) pa_nil)))))) pe_bl rfl)))))
    (pss_cons (ps_if (pt_cmpR op_in_seq (pe_ix ix_tup (pe_ix ix_list (pv 5) pe_int (fun _ _ => rfl)) pe_int (fun _ _ => rfl)) (pe_tup (pa_cons pe_str (pa_cons pe_str pa_nil))) rfl) (pss_one (ps_oput (pv 9) (pe_call GH hr (by rfl) mH kH bH .nil pass0 (pa_cons (pv 5) (pa_cons pe_int pa_nil))) pe_bl rfl)) pss_nil)
    (tailTerm T GW kW bW mW cdv A outer s H E hr).2))⟩
noncomputable def lawTerm {f fW fM fH fP fC fD fR fL : Addr} {fdW fdM fdH fdP fdC fdD fdR fdL : FuncData} (T : Txt K mg)
    (GW : FnOk P w K mg base CX0 2 fW fdW ["rows", "r"] (spWays (K := K))) (kW : PySem.W.keepIn K (.ref fW) = true) (bW : Binds K fdW ["rows", "r"] []) (mW : mg "ways_of" = some (.ref fW))
    (GM : FnOk P w K mg base CX0 4 fM fdM ["_law_rows", "_law_box", "_law_number", "_law_bells", "_law_boxes"] spCome) (kM : PySem.W.keepIn K (.ref fM) = true) (bM : Binds K fdM ["_law_rows", "_law_box", "_law_number", "_law_bells", "_law_boxes"] []) (mM : mg "_law_come_to" = some (.ref fM))
    (GH : FnOk P w K mg base CX0 4 fH fdH ["_law_rows", "_law_number"] spHome) (kH : PySem.W.keepIn K (.ref fH) = true) (bH : Binds K fdH ["_law_rows", "_law_number"] []) (mH : mg "_law_comes_home" = some (.ref fH))
    (GP : FnOk P w K mg base CX0 2 fP fdP ["_law_script", "_law_at", "_law_most", "_law_words"] (spProg (K := K))) (kP : PySem.W.keepIn K (.ref fP) = true) (bP : Binds K fdP ["_law_script", "_law_at", "_law_most", "_law_words"] []) (mP : mg "_law_program" = some (.ref fP))
    (GC : FnOk P w K mg base CX0 1 fC fdC ["_law_script", "_law_k"] (spCell (K := K))) (kC : PySem.W.keepIn K (.ref fC) = true) (bC : Binds K fdC ["_law_script", "_law_k"] []) (mC : mg "_law_cell_at" = some (.ref fC))
    (GD : FnOk P w K mg base CX0 1 fD fdD ["_law_cell", "_law_k", "_law_many"] spDraws) (kD : PySem.W.keepIn K (.ref fD) = true) (bD : Binds K fdD ["_law_cell", "_law_k", "_law_many"] []) (mD : mg "_law_draws" = some (.ref fD))
    (GR : FnOk P w K mg base CX0 1 fR fdR ["_law_xs", "_law_size", "_law_words"] spRow) (kR : PySem.W.keepIn K (.ref fR) = true) (bR : Binds K fdR ["_law_xs", "_law_size", "_law_words"] []) (mR : mg "_law_row" = some (.ref fR))
    (GL : FnOk P w K mg base CX0 1 fL fdL ["_law_row_here"] spLed) (kL : PySem.W.keepIn K (.ref fL) = true) (bL : Binds K fdL ["_law_row_here"] []) (mL : mg "_law_led" = some (.ref fL))
    (cdv : Value) (A : Around) (outer : List Env) (s : Shared) (H : Hp) (E : XK) (hr : Room 4 (A.deeper (PyProof.Rows.envOfC "law" (defScope sLaw) s.heap.objs.size f cdv))) :
    PSigma fun t : TS => PSs (cxOf CX0 P w K mg base N12 "law" (defScope sLaw) f cdv A outer s H E).nox (defBody sLaw) t :=
  have hu : (A.deeper (PyProof.Rows.envOfC "law" (defScope sLaw) s.heap.objs.size f cdv)).units < cLine := hr.units0
  have hr2 : Room 2 (A.deeper (PyProof.Rows.envOfC "law" (defScope sLaw) s.heap.objs.size f cdv)) := hr.mono (by decide)
  have hr1 : Room 1 (A.deeper (PyProof.Rows.envOfC "law" (defScope sLaw) s.heap.objs.size f cdv)) := hr.mono (by decide)
  ⟨_, pss_cons (ps_set (i := 1) scLaw.nd rfl (Or.inl rfl) (pe_lst (pa_strs rfl)))
    (pss_cons (ps_set (i := 1) scLaw.nd rfl (Or.inl rfl) (pe_op op_cat (pv 1) (pe_lst (pa_strs rfl))))
    (pss_cons (ps_set (i := 2) scLaw.nd rfl (Or.inl rfl) (pe_call GP hr2 rfl mP kP bP .nil pass0 (pa_cons (pv 0) (pa_cons pe_int (pa_cons pe_int (pa_cons (pv 1) pa_nil))))))
    (pss_cons (ps_set (i := 3) scLaw.nd rfl (Or.inl rfl) (pe_op op_add (pe_callB call_len_seq (by rfl) T.len bt_len (pa_cons (pv 2) pa_nil)) pe_int))
    (pss_cons (ps_set (i := 4) scLaw.nd rfl (Or.inl rfl) (pe_call GD hr1 rfl mD kD bD .nil pass0 (pa_cons (pe_call GC hr1 rfl mC kC bC .nil pass0 (pa_cons (pv 0) (pa_cons pe_int pa_nil))) (pa_cons pe_int (pa_cons pe_int pa_nil)))))
    (pss_cons (ps_set (i := 5) scLaw.nd rfl (Or.inl rfl) (pe_op op_cat (pe_lst (pa_cons (pe_call GR hr1 rfl mR kR bR .nil pass0 (pa_cons (pv 4) (pa_cons (pv 3) (pa_cons (pv 1) pa_nil)))) pa_nil)) (pe_comp (N' := ["_law_row_here"]) (fr := [none]) s_c1 rfl (pi_list (pv 2)) (fun C s0 H0 fp => pg_name (i := 0) s_c1.nd rfl (Or.inl rfl)) (fun C s0 H0 fp => pts_nil) (fun C s0 H0 fp => (pe_call GL hr1 rfl mL kL bL .nil pass0 (pa_cons (pv 0) pa_nil))))))
    (pss_cons (ps_set (i := 6) scLaw.nd rfl (Or.inr rfl) (pe_call GD hr1 rfl mD kD bD .nil pass0 (pa_cons (pe_call GC hr1 rfl mC kC bC .nil pass0 (pa_cons (pv 0) (pa_cons pe_int pa_nil))) (pa_cons pe_int (pa_cons pe_int pa_nil)))))
    (pss_cons (ps_comp (i := 7) (N' := ["_law_k", "_law_spare"]) (fr := [none, some 6]) scLaw.nd rfl rfl s_c2 rfl (pi_range1 rfl T.range (pa_cons pe_int pa_nil)) (fun C s0 H0 fp => pg_name (i := 0) s_c2.nd rfl (Or.inl rfl)) (fun C s0 H0 fp => pts_nil)
      (fun C s0 H0 fp => (pe_ix (r := rIxL K) ix_list (pe_lst (pa_cons (pe_op op_sub (pe_op op_mod (pe_ix (r := rIxL K) ix_list (pv 1) (pv 0) (fun _ _ => rfl)) pe_int) pe_int) (pa_cons (pe_op op_add (pe_op op_mul (pe_ix (r := rIxL K) ix_list (pv 1) (pv 0) (fun _ _ => rfl)) (pe_op op_pow pe_int pe_int)) (pe_ix (r := rIxL K) ix_list (pv 1) (pe_op op_add (pv 0) pe_int) (fun _ _ => rfl))) pa_nil))) (pe_op op_mod (pe_ix (r := rIxL K) ix_list (pv 1) (pe_op op_add (pv 0) pe_int) (fun _ _ => rfl)) pe_int) (fun _ _ => rfl))))
    (pss_cons (ps_set (i := 8) scLaw.nd rfl (Or.inl rfl) pe_int)
    (pss_cons (ps_if (pt_cmpR op_in_seq (pe_ix ix_tup (pe_ix ix_list (pv 5) pe_int (fun _ _ => rfl)) pe_int (fun _ _ => rfl)) (pe_tup (pa_cons pe_str (pa_cons pe_str (pa_cons pe_str pa_nil)))) rfl) (pss_one (ps_set (i := 8) scLaw.nd rfl (Or.inl rfl) (pe_ix ix_tup (pe_ix ix_list (pv 5) pe_int (fun _ _ => rfl)) pe_int (fun _ _ => rfl)))) pss_nil)
    (restTerm T GW kW bW mW GM kM bM mM GH kH bH mH cdv A outer s H E hr).2)))))))))⟩
end
end My

set_option Elab.async false
set_option linter.all false
set_option maxRecDepth 100000
set_option maxHeartbeats 16000000
namespace My
open PySem L2
section
variable {P : Program} {w : World} {K : PySem.W.Frag} {mg : Str → Option Value} {base : Heap}
theorem tail_ok {f fW : Addr} {fdW : FuncData} (T : Txt K mg)
    (GW : FnOk P w K mg base CX0 2 fW fdW ["rows", "r"] (spWays (K := K))) (kW : PySem.W.keepIn K (.ref fW) = true) (bW : Binds K fdW ["rows", "r"] []) (mW : mg "ways_of" = some (.ref fW))
    (cdv : Value) (A : Around) (outer : List Env) (s : Shared) (H : Hp) (E : XK) (hr : Room 4 (A.deeper (PyProof.Rows.envOfC "law" (defScope sLaw) s.heap.objs.size f cdv)))
    {lrw q cd : Addr} {as : List V} {u : Str} {items : List V} {ts : List Int} {ks : List (Option Int)} {H1 : Hp} {o0 o1 o2 o3 o4 o6 o7 o8 o10 o11 : Option V} {D : Ends} (z : ∀ H', D.rt (.bl true) H')
    (hrw : H1 lrw = some (.lst (.ref q :: as))) (hq : H1 q = some (.tup (.str u :: items))) (hP : Parts H1 u items ts) (hl : ts.length ≤ 16) (hcd : H1 cd = some (dO P w cd ks)) (hkl : ks.length < 64)
    (he : u ∈ sbh → ks = [none] ∧ ts = []) (hne : ¬ u ∈ sbh → ∃ is : List Int, ks = is.map some ∧ is.Nodup ∧ ∀ j, j ∈ is ↔ (j ∈ ts ∨ (¬ u ∈ notOn ∧ j = ((0 : Nat) : Int) + 1))) :
    (tailTerm (P := P) (w := w) T GW kW bW mW cdv A outer s H E hr).1 D [o0, o1, o2, o3, o4, some (.ref lrw), o6, o7, o8, some (.ref cd), o10, o11] H1 := by
  refine ⟨_, rfl, lrw, _, _, .ref q, rfl, rfl, SqL.of hrw, at0 _ _, q, _, _, .str u, rfl, rfl, SqT.of hq, at0 _ _, (by show 3 ≤ sizeLine; decide), fun t m => ⟨t, sbh.map V.str, rfl, .inr (SqT.of upd_same), rfl, rfl, _, rfl, ?_⟩⟩
  have s1 := same_new (o := .tup (sbh.map V.str)) m
  rw [show inV (.str u) (sbh.map V.str) = decide (u ∈ sbh) from inV_str _ _]
  have hrw1 := s1 _ _ hrw
  have hR1 : RowAt _ q u ts := RowAt.same s1 ⟨items, hq, hP⟩
  have hcd1 := s1 _ _ hcd
  refine ite2 (fun c => ?_) (fun c => ?_)
  · have c := of_decide_eq_true c
    obtain ⟨rfl, rfl⟩ := he c
    refine ⟨_, rfl, cd, _, rfl, hcd1, fun l2 n2 => ⟨(by show 1 ≤ sizeLine; decide), fun l3 n3 => ?_⟩⟩
    have s2 := same_new (o := .lst (([none] : List (Option Int)).map oV)) n2
    have s3 := s2.trans (same_new (o := .lst [V.non]) n3)
    refine ⟨l2, l3, _, _, rfl, rfl, SqL.of ((same_new n3) _ _ upd_same), SqL.of upd_same, ?_, _, rfl, ?_⟩
    · intro i a b ha hb
      have e : ([none] : List (Option Int)).map oV = [V.non] := rfl
      rw [e] at ha
      refine .inr ⟨?_, ?_⟩
      · have := List.mem_of_getElem? ha
        exact List.mem_singleton.mp this
      · have := List.mem_of_getElem? hb
        exact List.mem_singleton.mp this
    rw [show decide (([none] : List (Option Int)).map oV = [V.non]) = true from rfl]
    rw [if_pos rfl]
    refine ⟨_, rfl, lrw, q, _, 0, u, [], rfl, SqL.of (s3 _ _ hrw1), rfl, hR1.same s3, (by decide), fun l4 ms H5 s5 n4 h4 m1 m2 m3 => ⟨(by show 0 ≤ sizeLine; decide), fun l5 n5 => ?_⟩⟩
    have e : ms = [] := by
      refine List.eq_nil_iff_forall_not_mem.mpr fun j hj => ?_
      rcases (m3 j).mp hj with x | ⟨x, _⟩
      · exact absurd x (by simp)
      · exact x ((by decide +kernel : ∀ u ∈ sbh, u ∈ notOn) u c)
    subst e
    refine ⟨l4, l5, _, _, rfl, rfl, SqL.of ((same_new n5) _ _ h4), SqL.of upd_same, ?_, ?_⟩
    · intro i a b ha hb
      exact absurd ha (by simp)
    exact z _
  · have c : ¬ u ∈ sbh := fun e => c (decide_eq_true e)
    obtain ⟨is, rfl, ind, imem⟩ := hne c
    refine ⟨_, rfl, cd, _, none, rfl, rfl, hcd1, _, rfl, ?_⟩
    rw [show (!decide (none ∈ is.map (some : Int → Option Int))) = true by simp]
    rw [if_pos rfl]
    rw [List.length_map] at hkl
    refine ⟨_, rfl, cd, is, rfl, hcd1, hkl, fun l2 ms0 n2 hp hs0 => ?_⟩
    have s2 := same_new (o := .lst (ms0.map V.int)) n2
    refine ⟨_, rfl, lrw, q, _, 0, u, ts, rfl, SqL.of (s2 _ _ hrw1), rfl, hR1.same s2, hl, fun l4 ms H5 s5 n4 h4 m1 m2 m3 => ?_⟩
    have e : ms0 = ms := same_ms hs0 (hp.nodup_iff.mpr ind) m1 m2 fun j => by
      rw [hp.mem_iff, imem j, m3 j]
    subst e
    refine ⟨l2, l4, _, _, rfl, rfl, SqL.of (s5 _ _ upd_same), SqL.of h4, ?_, ?_⟩
    · intro i a b ha hb
      rw [List.getElem?_map] at ha hb
      obtain ⟨x, _, rfl⟩ := Option.map_eq_some_iff.mp ha
      obtain ⟨y, _, rfl⟩ := Option.map_eq_some_iff.mp hb
      exact .inl (.inr (.inl ⟨x, y, rfl, rfl⟩))
    rw [decide_eq_true rfl]
    exact z _
end
end My

set_option Elab.async false
set_option linter.all false
set_option maxRecDepth 100000
set_option maxHeartbeats 16000000
namespace My
open PySem L2
theorem shape_cm {u : Str} {items : List V} (h : Shape u items) (hc : u ∈ cm) : ∃ t f : Int, items = [.int t, .int f] := by
  rcases h with ⟨hu, _⟩ | ⟨hu, _⟩ | ⟨hu, _⟩ | ⟨hu, _⟩ | ⟨hu, _⟩ | ⟨hu, _⟩ | ⟨hu, h⟩ | ⟨hu, _⟩ | ⟨hu, _⟩
  · exact absurd hc ((by decide +kernel : ∀ u ∈ (["stop", "back"] : List Str), ¬ u ∈ cm) u hu)
  · exact absurd hc (by rw [hu]; decide +kernel)
  · exact absurd hc ((by decide +kernel : ∀ u ∈ (["set", "more"] : List Str), ¬ u ∈ cm) u hu)
  · exact absurd hc ((by decide +kernel : ∀ u ∈ (["copy", "add", "less", "load", "keep"] : List Str), ¬ u ∈ cm) u hu)
  · exact absurd hc (by rw [hu]; decide +kernel)
  · exact absurd hc ((by decide +kernel : ∀ u ∈ (["see", "put", "take"] : List Str), ¬ u ∈ cm) u hu)
  · exact h
  · exact absurd hc ((by decide +kernel : ∀ u ∈ zb, ¬ u ∈ cm) u hu)
  · exact absurd hc (by rw [hu]; decide +kernel)
theorem parts_cm {H : Hp} {u : Str} {t f : Int} {ts : List Int} (h : Parts H u [.int t, .int f] ts) (hc : u ∈ cm) : ts = [t] := by
  unfold Parts at h
  obtain ⟨h1, h2⟩ := (by decide +kernel : ∀ u ∈ cm, ¬ u = "table" ∧ u ∈ jcm) u hc
  rw [if_neg h1, if_pos h2] at h
  obtain ⟨t', f', e1, e2⟩ := h
  injection e1 with e1 _
  injection e1 with e1
  rw [e2, e1]
theorem parts_sbh {H : Hp} {u : Str} {items : List V} {ts : List Int} (h : Parts H u items ts) (hc : u ∈ sbh) : ts = [] := by
  unfold Parts at h
  obtain ⟨h1, h2, h3⟩ := (by decide +kernel : ∀ u ∈ sbh, ¬ u = "table" ∧ ¬ u ∈ jcm ∧ ¬ u ∈ zb) u hc
  rw [if_neg h1, if_neg h2, if_neg h3] at h
  exact h
theorem box_set {bs : List Int} {b n : Int} {r : List V} (h8 : bs.length = 8) (hb : Bx b) : boxOf (bs.set b.toNat n) (.int b :: r) = n := by
  show (bs.set b.toNat n).getD b.toNat 0 = n
  have h1 := hb.1
  have h2 := hb.2
  rw [List.getD_eq_getElem?_getD, List.getElem?_set_self (by omega)]
  rfl
section
variable {P : Program} {w : World} {K : PySem.W.Frag} {mg : Str → Option Value} {base : Heap}
theorem rest_ok {f fW fM fH : Addr} {fdW fdM fdH : FuncData} (T : Txt K mg)
    (GW : FnOk P w K mg base CX0 2 fW fdW ["rows", "r"] (spWays (K := K))) (kW : PySem.W.keepIn K (.ref fW) = true) (bW : Binds K fdW ["rows", "r"] []) (mW : mg "ways_of" = some (.ref fW))
    (GM : FnOk P w K mg base CX0 4 fM fdM ["_law_rows", "_law_box", "_law_number", "_law_bells", "_law_boxes"] spCome) (kM : PySem.W.keepIn K (.ref fM) = true) (bM : Binds K fdM ["_law_rows", "_law_box", "_law_number", "_law_bells", "_law_boxes"] []) (mM : mg "_law_come_to" = some (.ref fM))
    (GH : FnOk P w K mg base CX0 4 fH fdH ["_law_rows", "_law_number"] spHome) (kH : PySem.W.keepIn K (.ref fH) = true) (bH : Binds K fdH ["_law_rows", "_law_number"] []) (mH : mg "_law_comes_home" = some (.ref fH))
    (cdv : Value) (A : Around) (outer : List Env) (s : Shared) (H : Hp) (E : XK) (hr : Room 4 (A.deeper (PyProof.Rows.envOfC "law" (defScope sLaw) s.heap.objs.size f cdv)))
    {lrw q lbx : Addr} {as : List V} {u : Str} {items : List V} {ts bs : List Int} {b : Int} {Hb : Hp} {o0 o1 o2 o3 o4 o6 o9 o10 o11 : Option V} {D : Ends} (z : ∀ H', D.rt (.bl true) H')
    (hrw : Hb lrw = some (.lst (.ref q :: as))) (has : as.length ≤ 100) (hq : Hb q = some (.tup (.str u :: items))) (hsh : Shape u items) (hP : Parts Hb u items ts) (hl : ts.length ≤ 16) (htb : ∀ t ∈ ts, 0 ≤ t ∧ t < (as.length : Int) + 1)
    (hbx : Hb lbx = some (.lst (bs.map V.int))) (b8 : bs.length = 8) (hb : Bx b) (hbv : u ∈ zbt → ∃ r, items = .int b :: r) :
    (restTerm (P := P) (w := w) T GW kW bW mW GM kM bM mM GH kH bH mH cdv A outer s H E hr).1 D [o0, o1, o2, o3, o4, some (.ref lrw), o6, some (.ref lbx), some (.int b), o9, o10, o11] Hb := by
  refine fun cd ncd => ?_
  have key : ∀ (n : Int) (ring : Bool) (pile : List Int) (h : Int), nxt u (boxOf (bs.set b.toNat n) items) ts ring pile h = nxt u n ts ring pile h := fun n ring pile h => nxt_bv fun hu => by
    obtain ⟨r, rfl⟩ := hbv hu
    exact box_set b8 hb
  refine ⟨_, rfl, -2, 18, rfl, ⟨by decide, by decide, by decide, by decide⟩, for_range (lo := -2) (n := 20) (fun i σ Hc => ∃ (v1 v2 : Option V) (ks : List (Option Int)), σ = [o0, o1, o2, o3, o4, some (.ref lrw), o6, some (.ref lbx), some (.int b), some (.ref cd), v1, v2] ∧ Same Hb Hc ∧ Hc cd = some (dO P w cd ks) ∧ ks.Nodup ∧ ks.length ≤ 2 * i ∧
      ∀ k, k ∈ ks ↔ ∃ (j : Nat) (ring : Bool), j < i ∧ k = nxtO u (-2 + j) ts ring) ?_ ?_ ?_⟩
  · exact ⟨o10, o11, [], rfl, same_new ncd, upd_same, List.nodup_nil, Nat.le_refl _, fun k => ⟨fun h => absurd h (by simp), fun ⟨j, _, h, _⟩ => absurd h (by omega)⟩⟩
  · rintro i σ Hc hi ⟨v1, v2, ks, rfl, sb, hcd, knd, kln, kmem⟩
    refine ⟨(by show 0 ≤ sizeLine; decide), fun l1 n1 => ⟨(by show 1 ≤ sizeLine; decide), fun l2 n2 => ⟨(by show 2 ≤ sizeLine; decide), fun l3 n3 => ?_⟩⟩⟩
    have s1 := same_new (o := .lst []) n1
    have s2 := same_new (o := .lst [V.int 0]) n2
    have s3 := same_new (o := .lst [V.ref l1, V.ref l2]) n3
    have s13 := s1.trans (s2.trans s3)
    have h1 := (s2.trans s3) _ _ (upd_same (H := Hc) (a := l1) (o := .lst []))
    have h2 := s3 _ _ (upd_same (H := upd Hc l1 (.lst [])) (a := l2) (o := .lst [V.int 0]))
    have h3 : upd (upd (upd Hc l1 (.lst [])) l2 (.lst [V.int 0])) l3 (.lst [V.ref l1, V.ref l2]) l3 = some (.lst [V.ref l1, V.ref l2]) := upd_same
    have sb3 := sb.trans s13
    have hcd3 := s13 _ _ hcd
    generalize upd (upd (upd Hc l1 (.lst [])) l2 (.lst [V.int 0])) l3 (.lst [V.ref l1, V.ref l2]) = G at h1 h2 h3 sb3 hcd3
    have nl : ∀ {l : Addr} {xs : List V}, G l = some (.lst xs) → l ≠ cd := fun {l xs} h => ne_of h hcd3 (by intro z; unfold dO at z; cases z)
    refine ⟨l3, rfl, ⟨_, SqL.of h3⟩, for_list (xs := [V.ref l1, V.ref l2]) (fun jj σ Hd => ∃ (v2 : Option V) (ks' : List (Option Int)), σ = [o0, o1, o2, o3, o4, some (.ref lrw), o6, some (.ref lbx), some (.int b), some (.ref cd), some (.int (-2 + (i : Int))), v2] ∧ Same Hb Hd ∧ Hd l1 = some (.lst []) ∧ Hd l2 = some (.lst [V.int 0]) ∧ Hd l3 = some (.lst [V.ref l1, V.ref l2]) ∧ Hd cd = some (dO P w cd ks') ∧ ks'.Nodup ∧ ks'.length ≤ 2 * i + jj ∧
        ∀ k, k ∈ ks' ↔ k ∈ ks ∨ (1 ≤ jj ∧ k = nxtO u (-2 + i) ts false) ∨ (2 ≤ jj ∧ k = nxtO u (-2 + i) ts true)) ?_ ?_ ?_ ?_⟩
    · exact ⟨v2, ks, rfl, sb3, h1, h2, h3, hcd3, knd, kln, fun k => ⟨.inl, fun h => h.elim id fun h => by rcases h with ⟨h, _⟩ | ⟨h, _⟩ <;> omega⟩⟩
    · rintro jj σ Hd _ ⟨v2, ks', rfl, _, _, _, h3', _⟩
      exact SqL.of h3'
    · rintro jj x σ Hd hx ⟨v2, ks', rfl, sb', h1', h2', h3', hcd', knd', kln', kmem'⟩
      have hjj : jj = 0 ∨ jj = 1 := by
        have := (List.getElem?_eq_some_iff.mp hx).1
        simp at this
        omega
      obtain ⟨bl, bells, ring, ex, hbl, hbn, hring, r0, r1⟩ : ∃ (bl : Addr) (bells : List Int) (ring : Bool), x = .ref bl ∧ Hd bl = some (.lst (bells.map V.int)) ∧ bells.length ≤ 100 ∧ decide ((0 : Int) ∈ bells) = ring ∧ (jj = 0 → ring = false) ∧ (jj = 1 → ring = true) := by
        rcases hjj with rfl | rfl
        · exact ⟨l1, [], false, (Option.some.inj hx).symm, h1', by decide, rfl, fun _ => rfl, fun h => by omega⟩
        · exact ⟨l2, [0], true, (Option.some.inj hx).symm, h2', by decide, rfl, fun h => by omega, fun _ => rfl⟩
      have stepped : True := True.intro
      · clear stepped
        subst ex
        refine ⟨_, rfl, _, rfl, _, rfl, _, rfl, _, rfl, _, rfl, lrw, q, bl, lbx, b, -2 + (i : Int), _, bs, bells, u, items, ts, rfl, sb' _ _ hrw, rfl, sb' _ _ hq, hsh, hP.same sb', hbl, hbn, sb' _ _ hbx, b8, hb, fun He se => ?_⟩
        refine ⟨cd, ks', nxtO u (-2 + (i : Int)) ts ring, rfl, rfl, ?_, se _ _ hcd', small1000 (by omega), ?_⟩
        · rw [key, hring, nxt_oV]
        · have ne1 : l1 ≠ cd := nl h1
          have ne2 : l2 ≠ cd := nl h2
          have ne3 : l3 ≠ cd := nl h3
          refine ⟨_, putO ks' (nxtO u (-2 + (i : Int)) ts ring), rfl, same_put (sb'.trans se) ncd, ?_, ?_, ?_, upd_same, putO_nd knd', ?_, fun k => ?_⟩
          · rw [upd_ne ne1]; exact se _ _ h1'
          · rw [upd_ne ne2]; exact se _ _ h2'
          · rw [upd_ne ne3]; exact se _ _ h3'
          · have := putO_len (ks := ks') (k := nxtO u (-2 + (i : Int)) ts ring)
            omega
          · rw [putO_mem, kmem']
            rcases hjj with rfl | rfl
            · rw [r0 rfl]
              constructor
              · rintro ((h | ⟨h, _⟩ | ⟨h, _⟩) | h)
                · exact .inl h
                · omega
                · omega
                · exact .inr (.inl ⟨by omega, h⟩)
              · rintro (h | ⟨_, h⟩ | ⟨h, _⟩)
                · exact .inl (.inl h)
                · exact .inr h
                · omega
            · rw [r1 rfl]
              constructor
              · rintro ((h | ⟨_, h⟩ | ⟨h, _⟩) | h)
                · exact .inl h
                · exact .inr (.inl ⟨by omega, h⟩)
                · omega
                · exact .inr (.inr ⟨by omega, h⟩)
              · rintro (h | ⟨_, h⟩ | ⟨_, h⟩)
                · exact .inl (.inl h)
                · exact .inl (.inr (.inl ⟨by omega, h⟩))
                · exact .inr h
    · rintro σ Hd ⟨v2', ks', rfl, sb', _, _, _, hcd', knd', kln', kmem'⟩
      refine ⟨_, v2', ks', rfl, sb', hcd', knd', ?_, fun k => ?_⟩
      · have : ([V.ref l1, V.ref l2] : List V).length = 2 := rfl
        omega
      · rw [kmem', kmem]
        constructor
        · rintro (⟨j, ring, h, e⟩ | ⟨_, e⟩ | ⟨_, e⟩)
          · exact ⟨j, ring, by omega, e⟩
          · exact ⟨i, false, by omega, e⟩
          · exact ⟨i, true, by omega, e⟩
        · rintro ⟨j, ring, h, e⟩
          by_cases hj : j < i
          · exact .inl ⟨j, ring, hj, e⟩
          · have hji : j = i := by omega
            subst hji
            cases ring
            · exact .inr (.inl ⟨by show 1 ≤ 2; decide, e⟩)
            · exact .inr (.inr ⟨by show 2 ≤ 2; decide, e⟩)
  · rintro σ Hc ⟨v1, v2, ks, rfl, sb, hcd, knd, kln, kmem⟩
    have hrw' := hrw
    have hq' := hq
    have fin : ∀ (Hx : Hp) (ks' : List (Option Int)), Same Hb Hx → Hx cd = some (dO P w cd ks') → ks'.Nodup → ks'.length ≤ 41 → (∀ k, k ∈ ks' ↔ k ∈ ks ∨ (u ∈ cm ∧ k = some 1)) →
        (tailTerm (P := P) (w := w) T GW kW bW mW cdv A outer s H E hr).1 D [o0, o1, o2, o3, o4, some (.ref lrw), o6, some (.ref lbx), some (.int b), some (.ref cd), v1, v2] Hx := fun Hx ks' sx hx nd ln mem => by
      refine tail_ok T GW kW bW mW cdv A outer s H E hr z (sx _ _ hrw) (sx _ _ hq) (hP.same sx) hl hx (by omega) (fun hu => ⟨?_, parts_sbh hP hu⟩) (fun hu => ?_)
      · refine all_none nd (fun k hk => ?_) ?_
        · rcases (mem k).mp hk with h | ⟨h, _⟩
          · obtain ⟨j, ring, _, e⟩ := (kmem k).mp h
            rw [e]
            exact ends hu
          · exact absurd h ((by decide +kernel : ∀ u ∈ sbh, ¬ u ∈ cm) u hu)
        · exact (mem none).mpr (.inl ((kmem none).mpr ⟨0, true, by decide, (ends hu).symm⟩))
      · obtain ⟨cs, cw⟩ := come_ways hsh hP hl hu
        obtain ⟨is, e⟩ := all_some (ks := ks') fun k hk => by
          rcases (mem k).mp hk with h | ⟨_, h⟩
          · obtain ⟨j, ring, _, e⟩ := (kmem k).mp h
            obtain ⟨i, ei⟩ := cs (-2 + j) ring
            exact ⟨i, by rw [e, ei]⟩
          · exact ⟨1, h⟩
        subst e
        refine ⟨is, rfl, ?_, fun j => ?_⟩
        · exact List.Pairwise.of_map (some : Int → Option Int) (fun a b h => fun e => h (by rw [e])) nd
        · rw [← cw j]
          have e2 : j ∈ is ↔ some j ∈ is.map (some : Int → Option Int) := by simp
          rw [e2, mem, kmem]
          constructor
          · rintro (⟨i, ring, h, e⟩ | ⟨h, e⟩)
            · exact .inl ⟨i, ring, h, e⟩
            · exact .inr ⟨h, Option.some.inj e⟩
          · rintro (⟨i, ring, h, e⟩ | ⟨h, e⟩)
            · exact .inl ⟨i, ring, h, e⟩
            · exact .inr ⟨h, by rw [e]⟩
    have hrw := sb _ _ hrw
    have hq := sb _ _ hq
    refine ⟨_, rfl, lrw, _, _, .ref q, rfl, rfl, SqL.of hrw, at0 _ _, q, _, _, .str u, rfl, rfl, SqT.of hq, at0 _ _, (by show 2 ≤ sizeLine; decide), fun t m => ⟨t, cm.map V.str, rfl, .inr (SqT.of upd_same), rfl, rfl, _, rfl, ?_⟩⟩
    have s1 := same_new (o := .tup (cm.map V.str)) m
    rw [show inV (.str u) (cm.map V.str) = decide (u ∈ cm) from inV_str _ _]
    have sb1 := sb.trans s1
    have hcd1 := s1 _ _ hcd
    refine ite2 (fun c => ?_) (fun c => ?_)
    · have c := of_decide_eq_true c
      obtain ⟨tt, ff, rfl⟩ := shape_cm hsh c
      have e := parts_cm hP c
      subst e
      have tb := htb tt (by simp)
      refine ⟨_, rfl, _, rfl, lrw, q, as, u, tt, ff, rfl, sb1 _ _ hrw', sb1 _ _ hq', (by simpa [cm] using c), tb.1, tb.2, has, fun He se => ?_⟩
      refine ⟨cd, ks, some 1, rfl, rfl, rfl, se _ _ hcd1, small1000 (by omega), ?_⟩
      refine fin _ (putO ks (some 1)) (same_put (sb1.trans se) ncd) upd_same (putO_nd knd) ?_ fun k => ?_
      · have := putO_len (ks := ks) (k := some 1)
        omega
      · rw [putO_mem]
        exact ⟨fun h => h.imp id fun e => ⟨c, e⟩, fun h => h.imp id fun e => e.2⟩
    · have c : ¬ u ∈ cm := fun e => c (decide_eq_true e)
      exact fin _ ks sb1 hcd1 knd (by omega) fun k => ⟨.inl, fun h => h.elim id fun e => absurd e.1 c⟩
end
end My

set_option Elab.async false
set_option linter.all false
set_option maxRecDepth 100000
set_option maxHeartbeats 16000000
namespace My
open PySem L2
theorem shape_zbt {u : Str} {items : List V} (h : Shape u items) (hc : u ∈ zbt) : ∃ (b : Int) (r : List V), Bx b ∧ items = .int b :: r := by
  rcases h with ⟨hu, _⟩ | ⟨hu, _⟩ | ⟨hu, _⟩ | ⟨hu, _⟩ | ⟨hu, _⟩ | ⟨hu, _⟩ | ⟨hu, _⟩ | ⟨_, b, t, f, hb, e⟩ | ⟨_, b, p, hb, e⟩
  · exact absurd hc ((by decide +kernel : ∀ u ∈ (["stop", "back"] : List Str), ¬ u ∈ zbt) u hu)
  · exact absurd hc (by rw [hu]; decide +kernel)
  · exact absurd hc ((by decide +kernel : ∀ u ∈ (["set", "more"] : List Str), ¬ u ∈ zbt) u hu)
  · exact absurd hc ((by decide +kernel : ∀ u ∈ (["copy", "add", "less", "load", "keep"] : List Str), ¬ u ∈ zbt) u hu)
  · exact absurd hc (by rw [hu]; decide +kernel)
  · exact absurd hc ((by decide +kernel : ∀ u ∈ (["see", "put", "take"] : List Str), ¬ u ∈ zbt) u hu)
  · exact absurd hc ((by decide +kernel : ∀ u ∈ jcm, ¬ u ∈ zbt) u hu)
  · exact ⟨b, _, hb, e⟩
  · exact ⟨b, _, hb, e⟩
section
variable {P : Program} {w : World} {K : PySem.W.Frag} {mg : Str → Option Value} {base : Heap}
def spLaw : Sp := fun vs H Q _ => ∃ (a : Addr) (ns : List Int), vs = [.ref a] ∧ SqL K H a (ns.map V.int) ∧ ns.length ≤ 63 ∧ ∀ H', Q (.bl true) H'
theorem ok_law {f fW fM fH fP fC fD fR fL : Addr} {fd fdW fdM fdH fdP fdC fdD fdR fdL : FuncData} (F : Fun K "law" "law" sLaw f fd) (T : Txt K mg)
    (GW : FnOk P w K mg base CX0 2 fW fdW ["rows", "r"] (spWays (K := K))) (kW : PySem.W.keepIn K (.ref fW) = true) (bW : Binds K fdW ["rows", "r"] []) (mW : mg "ways_of" = some (.ref fW))
    (GM : FnOk P w K mg base CX0 4 fM fdM ["_law_rows", "_law_box", "_law_number", "_law_bells", "_law_boxes"] spCome) (kM : PySem.W.keepIn K (.ref fM) = true) (bM : Binds K fdM ["_law_rows", "_law_box", "_law_number", "_law_bells", "_law_boxes"] []) (mM : mg "_law_come_to" = some (.ref fM))
    (GH : FnOk P w K mg base CX0 4 fH fdH ["_law_rows", "_law_number"] spHome) (kH : PySem.W.keepIn K (.ref fH) = true) (bH : Binds K fdH ["_law_rows", "_law_number"] []) (mH : mg "_law_comes_home" = some (.ref fH))
    (GP : FnOk P w K mg base CX0 2 fP fdP ["_law_script", "_law_at", "_law_most", "_law_words"] (spProg (K := K))) (kP : PySem.W.keepIn K (.ref fP) = true) (bP : Binds K fdP ["_law_script", "_law_at", "_law_most", "_law_words"] []) (mP : mg "_law_program" = some (.ref fP))
    (GC : FnOk P w K mg base CX0 1 fC fdC ["_law_script", "_law_k"] (spCell (K := K))) (kC : PySem.W.keepIn K (.ref fC) = true) (bC : Binds K fdC ["_law_script", "_law_k"] []) (mC : mg "_law_cell_at" = some (.ref fC))
    (GD : FnOk P w K mg base CX0 1 fD fdD ["_law_cell", "_law_k", "_law_many"] spDraws) (kD : PySem.W.keepIn K (.ref fD) = true) (bD : Binds K fdD ["_law_cell", "_law_k", "_law_many"] []) (mD : mg "_law_draws" = some (.ref fD))
    (GR : FnOk P w K mg base CX0 1 fR fdR ["_law_xs", "_law_size", "_law_words"] spRow) (kR : PySem.W.keepIn K (.ref fR) = true) (bR : Binds K fdR ["_law_xs", "_law_size", "_law_words"] []) (mR : mg "_law_row" = some (.ref fR))
    (GL : FnOk P w K mg base CX0 1 fL fdL ["_law_row_here"] spLed) (kL : PySem.W.keepIn K (.ref fL) = true) (bL : Binds K fdL ["_law_row_here"] []) (mL : mg "_law_led" = some (.ref fL))
    : FnOk P w K mg base CX0 5 f fd ["_law_script"] (spLaw (K := K)) := by
  refine F.ok scLaw (fun vs H Q E h => ?_) (fun cdv A outer s H vs Q E hr h => ?_)
  · obtain ⟨a, ns, rfl, _⟩ := h
    rfl
  · obtain ⟨a, ns, rfl, hS, hlen, k⟩ := h
    refine ⟨(lawTerm (P := P) (w := w) T GW kW bW mW GM kM bM mM GH kH bH mH GP kP bP mP GC kC bC mC GD kD bD mD GR kR bR mR GL kL bL mL cdv A outer s H E hr).1, (lawTerm T GW kW bW mW GM kM bM mM GH kH bH mH GP kP bP mP GC kC bC mC GD kD bD mD GR kR bR mR GL kL bL mL cdv A outer s H E hr).2, ?_⟩
    refine ⟨(by show 10 ≤ sizeLine; decide), fun l1 n1 => ?_⟩
    have s1 := same_new (o := .lst ((all20.take 10).map V.str)) n1
    refine ⟨_, rfl, (by show 10 ≤ sizeLine; decide), fun l2 n2 => ⟨l1, l2, (all20.take 10).map V.str, (all20.drop 10).map V.str, rfl, rfl, same_new n2 _ _ upd_same, upd_same, (by show 20 ≤ sizeLine; decide), fun l3 n3 => ?_⟩⟩
    have s2 := s1.trans (same_new (o := .lst ((all20.drop 10).map V.str)) n2)
    have s3 := s2.trans (same_new (o := .lst (all20.map V.str)) n3)
    refine ⟨_, rfl, _, rfl, a, ns, 1, 12, l3, all20, rfl, s3.seq hS, by decide, by decide, by decide, upd_same, by decide, fun _ z => z, fun lr rows H4 s4 nlr hlr r0 r1 hok => ?_⟩
    have hl34 := s4 _ _ (upd_same (H := upd (upd H l1 (.lst ((all20.take 10).map V.str))) l2 (.lst ((all20.drop 10).map V.str))) (a := l3) (o := .lst (all20.map V.str)))
    have hml : (rows.map V.ref).length = rows.length := List.length_map _
    refine ⟨_, rfl, lr, _, rfl, .inl (SqL.of hlr), _, _, rfl, rfl, ?_⟩
    rw [hml]
    refine ⟨_, rfl, a, ns, _, rfl, (s3.trans s4).seq hS, by decide, fun c => ?_⟩
    refine ⟨_, _, 25, rfl, by decide, by decide, fun lx xs H5 s5 nlx hlx hxl => ?_⟩
    refine ⟨_, rfl, _, rfl, _, rfl, lx, xs, (rows.length : Int) + 1, l3, all20, rfl, hlx, hxl, by omega, s5 _ _ hl34, by decide, fun _ z => z, fun q u ts H6 s6 nq hu hR hSh ht hlt => ⟨(by show 1 ≤ sizeLine; decide), fun lq nlq => ?_⟩⟩
    have s7 := same_new (o := .lst [V.ref q]) nlq
    have hlr6 := (s5.trans (s6.trans s7)) _ _ hlr
    have s47 := s5.trans (s6.trans s7)
    have hlq : upd H6 lq (.lst [V.ref q]) lq = some (.lst [V.ref q]) := upd_same
    generalize upd H6 lq (.lst [V.ref q]) = H7 at s7 hlr6 s47 hlq
    refine ⟨_, rfl, lr, rfl, ⟨_, SqL.of hlr6⟩, fun D nD => comp_list (K := K) (a := lr) (xs := rows.map V.ref) (fun i σ ys H2 => ∃ (v : Option V), σ = [v] ∧ ys.length = i ∧ Same H7 H2 ∧ H2 D = some (.lst ys)) ?_ ?_ ?_ ?_⟩
    · exact ⟨none, rfl, rfl, same_new nD, upd_same⟩
    · rintro i σ ys H2 _ ⟨v, rfl, _, s8, _⟩
      exact SqL.of (s8 _ _ hlr6)
    · rintro i x σ ys H2 hx ⟨v, rfl, hl, s8, hD⟩
      have hil : i < rows.length := by
        have := (List.getElem?_eq_some_iff.mp hx).1
        rwa [List.length_map] at this
      rw [List.getElem?_map, List.getElem?_eq_getElem hil] at hx
      have hx : x = V.ref rows[i] := (Option.some.inj hx).symm
      subst hx
      obtain ⟨u', ⟨ts', hR', hb', hl'⟩, _⟩ := hok i rows[i] (List.getElem?_eq_getElem hil)
      refine ⟨_, rfl, rows[i], u', ts', rfl, hR'.same (s47.trans s8), hl', fun q' H3 s9 => ⟨s9 _ _ hD, small1000 (by omega), ?_⟩⟩
      exact ⟨_, rfl, by simp [hl], same_put (s8.trans s9) nD, upd_same⟩
    · rintro σ ys H8 ⟨v, rfl, hl, s8, hD⟩
      rw [hml] at hl
      refine ⟨lq, D, [V.ref q], ys, rfl, rfl, s8 _ _ hlq, hD, Nat.le_of_lt (small1000 (by show 1 + ys.length ≤ 1000; omega)), fun lrw nrw => ?_⟩
      have s9 := same_new (o := .lst ([V.ref q] ++ ys)) nrw
      have hrw : upd H8 lrw (.lst ([V.ref q] ++ ys)) lrw = some (.lst (.ref q :: ys)) := upd_same
      have s69 := s7.trans (s8.trans s9)
      have s49 := s47.trans (s8.trans s9)
      generalize upd H8 lrw (.lst ([V.ref q] ++ ys)) = H9 at s9 hrw s69 s49
      refine ⟨_, rfl, a, ns, _, rfl, (s3.trans (s4.trans s49)).seq hS, by decide, fun c2 => ?_⟩
      refine ⟨_, _, 16, rfl, by decide, by decide, fun lsp sp H10 s10 nsp hsp hspl0 => ?_⟩
      have hspl : sp.length = 16 := hspl0
      have hat : ∀ i : Nat, i < 16 → atI (sp.map V.int) (i : Int) = some (V.int (sp.getD i 0)) := fun i hi => by
        refine atI_nat ?_
        have hi' : i < sp.length := by omega
        rw [List.getElem?_map, List.getElem?_eq_getElem hi', List.getD_eq_getElem?_getD, List.getElem?_eq_getElem hi']
        rfl
      refine ⟨8, rfl, by decide, by decide, fun lbx nbx => comp_range (n := 8) (fun i σ ys H2 => ∃ (v : Option V) (bs : List Int), σ = [v, some (.ref lsp)] ∧ ys = bs.map V.int ∧ bs.length = i ∧ Same H10 H2 ∧ H2 lbx = some (.lst ys)) ?_ ?_ ?_⟩
      · exact ⟨none, [], rfl, rfl, rfl, same_new nbx, upd_same⟩
      · rintro i σ ys H2 hi ⟨v, bs, rfl, rfl, hbl, s11, hbx⟩
        have e0 : ((0 : Int) + (i : Int)) = ((i : Nat) : Int) := by omega
        have e8 : ((0 : Int) + (i : Int)) + 8 = ((i + 8 : Nat) : Int) := by omega
        have a0 : atI (sp.map V.int) ((0 : Int) + (i : Int)) = some (V.int (sp.getD i 0)) := by rw [e0]; exact hat i (by omega)
        have a8 : atI (sp.map V.int) ((0 : Int) + (i : Int) + 8) = some (V.int (sp.getD (i + 8) 0)) := by rw [e8]; exact hat (i + 8) (by omega)
        have hs2 := s11 _ _ hsp
        refine ⟨_, rfl, _, rfl, lsp, _, _, _, rfl, rfl, SqL.of hs2, a0, _, _, rfl, rfl, (by show (0 : Int) < 5; decide), _, _, rfl, rfl, _, rfl, _, rfl, lsp, _, _, _, rfl, rfl, SqL.of hs2, a0, _, _, rfl, rfl, ⟨by decide, by decide, by decide⟩, _, _, rfl, rfl, .inr ⟨by decide, by decide⟩, _, rfl, _, rfl, _, _, rfl, rfl, lsp, _, _, _, rfl, rfl, SqL.of hs2, a8, _, _, rfl, rfl, (by show 2 ≤ sizeLine; decide), fun lt nt => ?_⟩
        obtain ⟨bv, _, hbv⟩ := at_two (sp.getD i 0 % 5 - 2) (sp.getD i 0 * 10 ^ Int.toNat 6 + sp.getD (i + 8) 0) (sp.getD (i + 8) 0)
        have s12 := same_new (o := .lst [V.int (sp.getD i 0 % 5 - 2), V.int (sp.getD i 0 * 10 ^ Int.toNat 6 + sp.getD (i + 8) 0)]) nt
        refine ⟨_, rfl, _, rfl, _, _, rfl, rfl, lsp, _, _, _, rfl, rfl, SqL.of (s12 _ _ hs2), a8, _, _, rfl, rfl, (by show (0 : Int) < 2; decide), lt, _, _, .int bv, rfl, rfl, SqL.of upd_same, hbv, s12 _ _ hbx, small1000 (by rw [List.length_map]; omega), ?_⟩
        exact ⟨_, bs ++ [bv], rfl, by simp, by simp [hbl], same_put (s11.trans s12) nbx, upd_same⟩
      · rintro σ ys H11 ⟨v, bs, rfl, rfl, hbl, s11, hbx⟩
        have s6f := s69.trans (s10.trans s11)
        have hrwf := (s10.trans s11) _ _ hrw
        obtain ⟨items, hq0, hsh⟩ := hSh
        obtain ⟨items', hq1, hP0⟩ := hR
        have ei : items' = items := by
          rw [hq0] at hq1
          injection hq1 with hq1
          injection hq1 with hq1
          injection hq1 with _ hq1
          exact hq1.symm
        subst ei
        have hqf := s6f _ _ hq0
        have hPf := hP0.same s6f
        refine ⟨_, rfl, lrw, _, _, .ref q, rfl, rfl, SqL.of hrwf, at0 _ _, q, _, _, .str u, rfl, rfl, SqT.of hqf, at0 _ _, (by show 3 ≤ sizeLine; decide), fun t m => ⟨t, zbt.map V.str, rfl, .inr (SqT.of upd_same), rfl, rfl, _, rfl, ?_⟩⟩
        have s13 := same_new (o := .tup (zbt.map V.str)) m
        rw [show inV (.str u) (zbt.map V.str) = decide (u ∈ zbt) from inV_str _ _]
        have tb : ∀ t ∈ ts, 0 ≤ t ∧ t < (ys.length : Int) + 1 := fun t h => by have := ht t h; omega
        have hysl : ys.length ≤ 100 := by omega
        refine ite2 (fun e => ?_) (fun e => ?_)
        · have e := of_decide_eq_true e
          obtain ⟨b, r, hb, ei⟩ := shape_zbt hsh e
          subst ei
          refine ⟨_, rfl, lrw, _, _, .ref q, rfl, rfl, SqL.of (s13 _ _ hrwf), at0 _ _, q, _, _, .int b, rfl, rfl, SqT.of (s13 _ _ hqf), at1 _ _ _, ?_⟩
          exact rest_ok T GW kW bW mW GM kM bM mM GH kH bH mH cdv A outer s H E hr (D := { nx := fun _ H' => Q .non H', rt := Q }) k (s13 _ _ hrwf) hysl (s13 _ _ hqf) hsh (hPf.same s13) hlt tb (s13 _ _ hbx) hbl hb fun _ => ⟨r, rfl⟩
        · have e : ¬ u ∈ zbt := fun c => e (decide_eq_true c)
          exact rest_ok T GW kW bW mW GM kM bM mM GH kH bH mH cdv A outer s H E hr (D := { nx := fun _ H' => Q .non H', rt := Q }) k (s13 _ _ hrwf) hysl (s13 _ _ hqf) hsh (hPf.same s13) hlt tb (s13 _ _ hbx) hbl ⟨by decide, by decide⟩ fun c => absurd c e
end
end My

set_option Elab.async false
set_option linter.all false
set_option maxRecDepth 100000
set_option maxHeartbeats 8000000
namespace PySem.W.Fast
def tw16407615200384750427 : Nat := 0
def tw504386371974058905 : Nat := 0
def tw11218153420440814101 : Nat := 0
end PySem.W.Fast
namespace My
open PySem L2
theorem kit_ib (K : PySem.W.Frag) : PySem.W.kitOne K (.type "int") (.type "bool") = some false := by
  unfold PySem.W.kitOne
  rw [if_neg (by decide)]
  show (if PySem.W.kitMeta "bool" = true then (fastBuiltinMro "int").map (·.contains (Value.type "bool")) else none) = some false
  rw [if_pos (by decide +kernel)]
  decide +kernel
theorem fa_nil {α : Type} {p : α → Prop} : ∀ x ∈ ([] : List α), p x := fun x h => absurd h (by simp)
theorem fa_cons {α : Type} {p : α → Prop} {a : α} {l : List α} (h : p a) (t : ∀ x ∈ l, p x) : ∀ x ∈ a :: l, p x := fun x hx => by
  rcases List.mem_cons.mp hx with rfl | hx
  · exact h
  · exact t x hx
/-! ### what the top has written, and the law's own head -/
theorem all_mk {l : PySem.W.OpenLaw} {w : World} {K : PySem.W.Frag} {h : Heap} {mg : Str → Option Value} {fa f0 f1 f2 f3 f4 f5 f6 f7 f8 f9 f10 f11 f12 f13 f14 f15 f16 f17 f18 f19 f20 f21 f22 f23 f24 f25 f26 f27 f28 f29 f30 f31 : Addr} (X : K.In h) (G : h.Ns mainGlobals mg) (hfa : mg "law" = some (.ref fa))
    {od0 an0 od1 an1 od2 an2 od3 an3 od4 an4 od5 an5 od6 an6 od7 an7 od8 an8 od9 an9 od10 an10 od11 an11 od12 an12 od13 an13 od14 an14 od15 an15 od16 an16 od17 an17 od18 an18 od19 an19 od20 an20 od21 an21 od22 an22 od23 an23 od24 an24 od25 an25 od26 an26 od27 an27 od28 an28 od29 an29 od30 an30 od31 an31 : Option Addr} {sl0 sl1 sl2 sl3 sl4 sl5 sl6 sl7 sl8 sl9 sl10 sl11 sl12 sl13 sl14 sl15 sl16 sl17 sl18 sl19 sl20 sl21 sl22 sl23 sl24 sl25 sl26 sl27 sl28 sl29 sl30 sl31 : Array (Option Value)} {oc0 kV0 dc0 pm0 cd0 ct0 oc1 kV1 dc1 pm1 cd1 ct1 oc2 kV2 dc2 pm2 cd2 ct2 oc3 kV3 dc3 pm3 cd3 ct3 oc4 kV4 dc4 pm4 cd4 ct4 oc5 kV5 dc5 pm5 cd5 ct5 oc6 kV6 dc6 pm6 cd6 ct6 oc7 kV7 dc7 pm7 cd7 ct7 oc8 kV8 dc8 pm8 cd8 ct8 oc9 kV9 dc9 pm9 cd9 ct9 oc10 kV10 dc10 pm10 cd10 ct10 oc11 kV11 dc11 pm11 cd11 ct11 oc12 kV12 dc12 pm12 cd12 ct12 oc13 kV13 dc13 pm13 cd13 ct13 oc14 kV14 dc14 pm14 cd14 ct14 oc15 kV15 dc15 pm15 cd15 ct15 oc16 kV16 dc16 pm16 cd16 ct16 oc17 kV17 dc17 pm17 cd17 ct17 oc18 kV18 dc18 pm18 cd18 ct18 oc19 kV19 dc19 pm19 cd19 ct19 oc20 kV20 dc20 pm20 cd20 ct20 oc21 kV21 dc21 pm21 cd21 ct21 oc22 kV22 dc22 pm22 cd22 ct22 oc23 kV23 dc23 pm23 cd23 ct23 oc24 kV24 dc24 pm24 cd24 ct24 oc25 kV25 dc25 pm25 cd25 ct25 oc26 kV26 dc26 pm26 cd26 ct26 oc27 kV27 dc27 pm27 cd27 ct27 oc28 kV28 dc28 pm28 cd28 ct28 oc29 kV29 dc29 pm29 cd29 ct29 oc30 kV30 dc30 pm30 cd30 ct30 oc31 kV31 dc31 pm31 cd31 ct31 : Value}
    (a0 : PySem.W.nsIn K mainGlobals "goes_on" = some (some (.ref f0))) (l0 : K.lookup f0 = some ⟨oc0, od0, .func (PySem.W.fnOf "goes_on" "goes_on" (defArgs sGoes) (defBody sGoes) (defScope sGoes) .none kV0 dc0 pm0 an0 cd0 ct0), sl0⟩) (c0 : PySem.W.codeIn K cd0 "goes_on" = true) (k0 : PySem.W.keepIn K (.ref f0) = true)
    (a1 : PySem.W.nsIn K mainGlobals "targets_of" = some (some (.ref f1))) (l1 : K.lookup f1 = some ⟨oc1, od1, .func (PySem.W.fnOf "targets_of" "targets_of" (defArgs sTargets) (defBody sTargets) (defScope sTargets) .none kV1 dc1 pm1 an1 cd1 ct1), sl1⟩) (c1 : PySem.W.codeIn K cd1 "targets_of" = true) (k1 : PySem.W.keepIn K (.ref f1) = true)
    (a2 : PySem.W.nsIn K mainGlobals "ways_of" = some (some (.ref f2))) (l2 : K.lookup f2 = some ⟨oc2, od2, .func (PySem.W.fnOf "ways_of" "ways_of" (defArgs sWays) (defBody sWays) (defScope sWays) .none kV2 dc2 pm2 an2 cd2 ct2), sl2⟩) (c2 : PySem.W.codeIn K cd2 "ways_of" = true) (k2 : PySem.W.keepIn K (.ref f2) = true)
    (a3 : PySem.W.nsIn K mainGlobals "end" = some (some (.ref f3))) (l3 : K.lookup f3 = some ⟨oc3, od3, .func (PySem.W.fnOf "end" "end" (defArgs sEnd) (defBody sEnd) (defScope sEnd) .none kV3 dc3 pm3 an3 cd3 ct3), sl3⟩) (c3 : PySem.W.codeIn K cd3 "end" = true) (k3 : PySem.W.keepIn K (.ref f3) = true)
    (a4 : PySem.W.nsIn K mainGlobals "do_stop" = some (some (.ref f4))) (l4 : K.lookup f4 = some ⟨oc4, od4, .func (PySem.W.fnOf "do_stop" "do_stop" (defArgs d_stop) (defBody d_stop) (defScope d_stop) .none kV4 dc4 pm4 an4 cd4 ct4), sl4⟩) (c4 : PySem.W.codeIn K cd4 "do_stop" = true) (k4 : PySem.W.keepIn K (.ref f4) = true)
    (a5 : PySem.W.nsIn K mainGlobals "do_halt" = some (some (.ref f5))) (l5 : K.lookup f5 = some ⟨oc5, od5, .func (PySem.W.fnOf "do_halt" "do_halt" (defArgs d_halt) (defBody d_halt) (defScope d_halt) .none kV5 dc5 pm5 an5 cd5 ct5), sl5⟩) (c5 : PySem.W.codeIn K cd5 "do_halt" = true) (k5 : PySem.W.keepIn K (.ref f5) = true)
    (a6 : PySem.W.nsIn K mainGlobals "do_back" = some (some (.ref f6))) (l6 : K.lookup f6 = some ⟨oc6, od6, .func (PySem.W.fnOf "do_back" "do_back" (defArgs d_back) (defBody d_back) (defScope d_back) .none kV6 dc6 pm6 an6 cd6 ct6), sl6⟩) (c6 : PySem.W.codeIn K cd6 "do_back" = true) (k6 : PySem.W.keepIn K (.ref f6) = true)
    (a7 : PySem.W.nsIn K mainGlobals "do_set" = some (some (.ref f7))) (l7 : K.lookup f7 = some ⟨oc7, od7, .func (PySem.W.fnOf "do_set" "do_set" (defArgs d_set) (defBody d_set) (defScope d_set) .none kV7 dc7 pm7 an7 cd7 ct7), sl7⟩) (c7 : PySem.W.codeIn K cd7 "do_set" = true) (k7 : PySem.W.keepIn K (.ref f7) = true)
    (a8 : PySem.W.nsIn K mainGlobals "do_more" = some (some (.ref f8))) (l8 : K.lookup f8 = some ⟨oc8, od8, .func (PySem.W.fnOf "do_more" "do_more" (defArgs d_more) (defBody d_more) (defScope d_more) .none kV8 dc8 pm8 an8 cd8 ct8), sl8⟩) (c8 : PySem.W.codeIn K cd8 "do_more" = true) (k8 : PySem.W.keepIn K (.ref f8) = true)
    (a9 : PySem.W.nsIn K mainGlobals "do_copy" = some (some (.ref f9))) (l9 : K.lookup f9 = some ⟨oc9, od9, .func (PySem.W.fnOf "do_copy" "do_copy" (defArgs d_copy) (defBody d_copy) (defScope d_copy) .none kV9 dc9 pm9 an9 cd9 ct9), sl9⟩) (c9 : PySem.W.codeIn K cd9 "do_copy" = true) (k9 : PySem.W.keepIn K (.ref f9) = true)
    (a10 : PySem.W.nsIn K mainGlobals "do_add" = some (some (.ref f10))) (l10 : K.lookup f10 = some ⟨oc10, od10, .func (PySem.W.fnOf "do_add" "do_add" (defArgs d_add) (defBody d_add) (defScope d_add) .none kV10 dc10 pm10 an10 cd10 ct10), sl10⟩) (c10 : PySem.W.codeIn K cd10 "do_add" = true) (k10 : PySem.W.keepIn K (.ref f10) = true)
    (a11 : PySem.W.nsIn K mainGlobals "do_less" = some (some (.ref f11))) (l11 : K.lookup f11 = some ⟨oc11, od11, .func (PySem.W.fnOf "do_less" "do_less" (defArgs d_less) (defBody d_less) (defScope d_less) .none kV11 dc11 pm11 an11 cd11 ct11), sl11⟩) (c11 : PySem.W.codeIn K cd11 "do_less" = true) (k11 : PySem.W.keepIn K (.ref f11) = true)
    (a12 : PySem.W.nsIn K mainGlobals "do_load" = some (some (.ref f12))) (l12 : K.lookup f12 = some ⟨oc12, od12, .func (PySem.W.fnOf "do_load" "do_load" (defArgs d_load) (defBody d_load) (defScope d_load) .none kV12 dc12 pm12 an12 cd12 ct12), sl12⟩) (c12 : PySem.W.codeIn K cd12 "do_load" = true) (k12 : PySem.W.keepIn K (.ref f12) = true)
    (a13 : PySem.W.nsIn K mainGlobals "do_keep" = some (some (.ref f13))) (l13 : K.lookup f13 = some ⟨oc13, od13, .func (PySem.W.fnOf "do_keep" "do_keep" (defArgs d_keep) (defBody d_keep) (defScope d_keep) .none kV13 dc13 pm13 an13 cd13 ct13), sl13⟩) (c13 : PySem.W.codeIn K cd13 "do_keep" = true) (k13 : PySem.W.keepIn K (.ref f13) = true)
    (a14 : PySem.W.nsIn K mainGlobals "do_tell" = some (some (.ref f14))) (l14 : K.lookup f14 = some ⟨oc14, od14, .func (PySem.W.fnOf "do_tell" "do_tell" (defArgs d_tell) (defBody d_tell) (defScope d_tell) .none kV14 dc14 pm14 an14 cd14 ct14), sl14⟩) (c14 : PySem.W.codeIn K cd14 "do_tell" = true) (k14 : PySem.W.keepIn K (.ref f14) = true)
    (a15 : PySem.W.nsIn K mainGlobals "do_see" = some (some (.ref f15))) (l15 : K.lookup f15 = some ⟨oc15, od15, .func (PySem.W.fnOf "do_see" "do_see" (defArgs d_see) (defBody d_see) (defScope d_see) .none kV15 dc15 pm15 an15 cd15 ct15), sl15⟩) (c15 : PySem.W.codeIn K cd15 "do_see" = true) (k15 : PySem.W.keepIn K (.ref f15) = true)
    (a16 : PySem.W.nsIn K mainGlobals "do_put" = some (some (.ref f16))) (l16 : K.lookup f16 = some ⟨oc16, od16, .func (PySem.W.fnOf "do_put" "do_put" (defArgs d_put) (defBody d_put) (defScope d_put) .none kV16 dc16 pm16 an16 cd16 ct16), sl16⟩) (c16 : PySem.W.codeIn K cd16 "do_put" = true) (k16 : PySem.W.keepIn K (.ref f16) = true)
    (a17 : PySem.W.nsIn K mainGlobals "do_take" = some (some (.ref f17))) (l17 : K.lookup f17 = some ⟨oc17, od17, .func (PySem.W.fnOf "do_take" "do_take" (defArgs d_take) (defBody d_take) (defScope d_take) .none kV17 dc17 pm17 an17 cd17 ct17), sl17⟩) (c17 : PySem.W.codeIn K cd17 "do_take" = true) (k17 : PySem.W.keepIn K (.ref f17) = true)
    (a18 : PySem.W.nsIn K mainGlobals "do_jump" = some (some (.ref f18))) (l18 : K.lookup f18 = some ⟨oc18, od18, .func (PySem.W.fnOf "do_jump" "do_jump" (defArgs d_jump) (defBody d_jump) (defScope d_jump) .none kV18 dc18 pm18 an18 cd18 ct18), sl18⟩) (c18 : PySem.W.codeIn K cd18 "do_jump" = true) (k18 : PySem.W.keepIn K (.ref f18) = true)
    (a19 : PySem.W.nsIn K mainGlobals "do_zero" = some (some (.ref f19))) (l19 : K.lookup f19 = some ⟨oc19, od19, .func (PySem.W.fnOf "do_zero" "do_zero" (defArgs d_zero) (defBody d_zero) (defScope d_zero) .none kV19 dc19 pm19 an19 cd19 ct19), sl19⟩) (c19 : PySem.W.codeIn K cd19 "do_zero" = true) (k19 : PySem.W.keepIn K (.ref f19) = true)
    (a20 : PySem.W.nsIn K mainGlobals "do_below" = some (some (.ref f20))) (l20 : K.lookup f20 = some ⟨oc20, od20, .func (PySem.W.fnOf "do_below" "do_below" (defArgs d_below) (defBody d_below) (defScope d_below) .none kV20 dc20 pm20 an20 cd20 ct20), sl20⟩) (c20 : PySem.W.codeIn K cd20 "do_below" = true) (k20 : PySem.W.keepIn K (.ref f20) = true)
    (a21 : PySem.W.nsIn K mainGlobals "do_call" = some (some (.ref f21))) (l21 : K.lookup f21 = some ⟨oc21, od21, .func (PySem.W.fnOf "do_call" "do_call" (defArgs d_call) (defBody d_call) (defScope d_call) .none kV21 dc21 pm21 an21 cd21 ct21), sl21⟩) (c21 : PySem.W.codeIn K cd21 "do_call" = true) (k21 : PySem.W.keepIn K (.ref f21) = true)
    (a22 : PySem.W.nsIn K mainGlobals "do_mark" = some (some (.ref f22))) (l22 : K.lookup f22 = some ⟨oc22, od22, .func (PySem.W.fnOf "do_mark" "do_mark" (defArgs d_mark) (defBody d_mark) (defScope d_mark) .none kV22 dc22 pm22 an22 cd22 ct22), sl22⟩) (c22 : PySem.W.codeIn K cd22 "do_mark" = true) (k22 : PySem.W.keepIn K (.ref f22) = true)
    (a23 : PySem.W.nsIn K mainGlobals "do_table" = some (some (.ref f23))) (l23 : K.lookup f23 = some ⟨oc23, od23, .func (PySem.W.fnOf "do_table" "do_table" (defArgs d_table) (defBody d_table) (defScope d_table) .none kV23 dc23 pm23 an23 cd23 ct23), sl23⟩) (c23 : PySem.W.codeIn K cd23 "do_table" = true) (k23 : PySem.W.keepIn K (.ref f23) = true)
    (a24 : PySem.W.nsIn K mainGlobals "_law_cell_at" = some (some (.ref f24))) (l24 : K.lookup f24 = some ⟨oc24, od24, .func (PySem.W.fnOf "_law_cell_at" "_law_cell_at" (defArgs sCell) (defBody sCell) (defScope sCell) .none kV24 dc24 pm24 an24 cd24 ct24), sl24⟩) (c24 : PySem.W.codeIn K cd24 "_law_cell_at" = true) (k24 : PySem.W.keepIn K (.ref f24) = true)
    (a25 : PySem.W.nsIn K mainGlobals "_law_draws" = some (some (.ref f25))) (l25 : K.lookup f25 = some ⟨oc25, od25, .func (PySem.W.fnOf "_law_draws" "_law_draws" (defArgs sDraws) (defBody sDraws) (defScope sDraws) .none kV25 dc25 pm25 an25 cd25 ct25), sl25⟩) (c25 : PySem.W.codeIn K cd25 "_law_draws" = true) (k25 : PySem.W.keepIn K (.ref f25) = true)
    (a26 : PySem.W.nsIn K mainGlobals "_law_row" = some (some (.ref f26))) (l26 : K.lookup f26 = some ⟨oc26, od26, .func (PySem.W.fnOf "_law_row" "_law_row" (defArgs sRow) (defBody sRow) (defScope sRow) .none kV26 dc26 pm26 an26 cd26 ct26), sl26⟩) (c26 : PySem.W.codeIn K cd26 "_law_row" = true) (k26 : PySem.W.keepIn K (.ref f26) = true)
    (a27 : PySem.W.nsIn K mainGlobals "_law_program" = some (some (.ref f27))) (l27 : K.lookup f27 = some ⟨oc27, od27, .func (PySem.W.fnOf "_law_program" "_law_program" (defArgs sProg) (defBody sProg) (defScope sProg) .none kV27 dc27 pm27 an27 cd27 ct27), sl27⟩) (c27 : PySem.W.codeIn K cd27 "_law_program" = true) (k27 : PySem.W.keepIn K (.ref f27) = true)
    (a28 : PySem.W.nsIn K mainGlobals "_law_led" = some (some (.ref f28))) (l28 : K.lookup f28 = some ⟨oc28, od28, .func (PySem.W.fnOf "_law_led" "_law_led" (defArgs sLed) (defBody sLed) (defScope sLed) .none kV28 dc28 pm28 an28 cd28 ct28), sl28⟩) (c28 : PySem.W.codeIn K cd28 "_law_led" = true) (k28 : PySem.W.keepIn K (.ref f28) = true)
    (a29 : PySem.W.nsIn K mainGlobals "_law_come_to" = some (some (.ref f29))) (l29 : K.lookup f29 = some ⟨oc29, od29, .func (PySem.W.fnOf "_law_come_to" "_law_come_to" (defArgs sCome) (defBody sCome) (defScope sCome) .none kV29 dc29 pm29 an29 cd29 ct29), sl29⟩) (c29 : PySem.W.codeIn K cd29 "_law_come_to" = true) (k29 : PySem.W.keepIn K (.ref f29) = true)
    (a30 : PySem.W.nsIn K mainGlobals "_law_comes_home" = some (some (.ref f30))) (l30 : K.lookup f30 = some ⟨oc30, od30, .func (PySem.W.fnOf "_law_comes_home" "_law_comes_home" (defArgs sHome) (defBody sHome) (defScope sHome) .none kV30 dc30 pm30 an30 cd30 ct30), sl30⟩) (c30 : PySem.W.codeIn K cd30 "_law_comes_home" = true) (k30 : PySem.W.keepIn K (.ref f30) = true)
    (a31 : PySem.W.nsIn K mainGlobals "law" = some (some (.ref f31))) (l31 : K.lookup f31 = some ⟨oc31, od31, .func (PySem.W.fnOf "law" "law" (defArgs sLaw) (defBody sLaw) (defScope sLaw) .none kV31 dc31 pm31 an31 cd31 ct31), sl31⟩) (c31 : PySem.W.codeIn K cd31 "law" = true) (k31 : PySem.W.keepIn K (.ref f31) = true)
    {pT0 : Addr} {odT0 : Option Addr} {slT0 : Array (Option Value)} {nT0 : Nat} {t0_0 t0_1 t0_2 t0_3 : Tok} (aT0 : PySem.W.nsIn K mainGlobals "NOT_GOING_ON" = some (some (.ref pT0)))
    (lT0 : K.lookup pT0 = some ⟨.type "tuple", odT0, .seq #[.str "stop" t0_0, .str "back" t0_1, .str "halt" t0_2, .str "jump" t0_3] nT0, slT0⟩)
    (z_len : PySem.W.nsIn K mainGlobals "len" = some none)
    (z_list : PySem.W.nsIn K mainGlobals "list" = some none)
    (z_sorted : PySem.W.nsIn K mainGlobals "sorted" = some none)
    (z_set : PySem.W.nsIn K mainGlobals "set" = some none)
    (z_range : PySem.W.nsIn K mainGlobals "range" = some none)
    (z_tuple : PySem.W.nsIn K mainGlobals "tuple" = some none)
    (z_isinstance : PySem.W.nsIn K mainGlobals "isinstance" = some none)
    (z_dict : PySem.W.nsIn K mainGlobals "dict" = some none)
    (z_bool : PySem.W.nsIn K mainGlobals "bool" = some none)
    {C : Addr} (aC : PySem.W.nsIn K mainGlobals "Machine" = some (some (.ref C)))
    {g0 : Addr} {odg0 ang0 : Option Addr} {slg0 : Array (Option Value)} {ocg0 kVg0 dcg0 pmg0 cdg0 ctg0 : Value} (ag0 : PySem.W.findIn K (.ref C) "__init__" = some (some (.ref g0))) (ig0 : PySem.W.isFn K (.ref g0) = true) (lg0 : K.lookup g0 = some ⟨ocg0, odg0, .func (PySem.W.fnOf "__init__" "Machine.__init__" (defArgs sInit) (defBody sInit) (defScope sInit) .none kVg0 dcg0 pmg0 ang0 cdg0 ctg0), slg0⟩) (cg0 : PySem.W.codeIn K cdg0 "Machine.__init__" = true) (kg0 : PySem.W.keepIn K (.ref g0) = true)
    {g1 : Addr} {odg1 ang1 : Option Addr} {slg1 : Array (Option Value)} {ocg1 kVg1 dcg1 pmg1 cdg1 ctg1 : Value} (ag1 : PySem.W.findIn K (.ref C) "row" = some (some (.ref g1))) (ig1 : PySem.W.isFn K (.ref g1) = true) (lg1 : K.lookup g1 = some ⟨ocg1, odg1, .func (PySem.W.fnOf "row" "Machine.row" (defArgs sRowM) (defBody sRowM) (defScope sRowM) .none kVg1 dcg1 pmg1 ang1 cdg1 ctg1), slg1⟩) (cg1 : PySem.W.codeIn K cdg1 "Machine.row" = true) (kg1 : PySem.W.keepIn K (.ref g1) = true)
    {g2 : Addr} {odg2 ang2 : Option Addr} {slg2 : Array (Option Value)} {ocg2 kVg2 dcg2 pmg2 cdg2 ctg2 : Value} (ag2 : PySem.W.findIn K (.ref C) "step" = some (some (.ref g2))) (ig2 : PySem.W.isFn K (.ref g2) = true) (lg2 : K.lookup g2 = some ⟨ocg2, odg2, .func (PySem.W.fnOf "step" "Machine.step" (defArgs sStep) (defBody sStep) (defScope sStep) .none kVg2 dcg2 pmg2 ang2 cdg2 ctg2), slg2⟩) (cg2 : PySem.W.codeIn K cdg2 "Machine.step" = true) (kg2 : PySem.W.keepIn K (.ref g2) = true)
    (pg : PySem.W.plainGet K C Str.empty = true) (hd : PySem.W.hasDictIn K C = true) (po : PySem.W.plainOver K C = true) (sa : PySem.W.findIn K (.ref C) "__setattr__" = some (some (.builtin "object.__setattr__"))) (mkc : PySem.W.makesIn K C = true) (kc : PySem.W.keepIn K (.ref C) = true)
    (n_program : PySem.W.findIn K (.ref C) "program" = some none)
    (n_in_boxes : PySem.W.findIn K (.ref C) "in_boxes" = some none)
    (n_in_cells : PySem.W.findIn K (.ref C) "in_cells" = some none)
    (n_in_asides : PySem.W.findIn K (.ref C) "in_asides" = some none)
    (n_rung : PySem.W.findIn K (.ref C) "rung" = some none)
    (n_told_numbers : PySem.W.findIn K (.ref C) "told_numbers" = some none)
    (n_seen_numbers : PySem.W.findIn K (.ref C) "seen_numbers" = some none)
    (n_pile : PySem.W.findIn K (.ref C) "pile" = some none)
    (n_marks_done : PySem.W.findIn K (.ref C) "marks_done" = some none)
    (n_here : PySem.W.findIn K (.ref C) "here" = some none)
    (n_how_ended : PySem.W.findIn K (.ref C) "how_ended" = some none)
    {pD : Addr} {esD : Array DictEntry} {nD : Nat} (aD : PySem.W.nsIn K mainGlobals "DEEDS" = some (some (.ref pD))) (lD : K.lookup pD = some ⟨.type "dict", none, .dict esD nD, #[]⟩) (kD : PySem.W.KeysLit w.params esD.toList) (oD : (pD == sysModules) = false)
    (e_stop : PySem.W.nsIn K pD "stop" = some (some (.ref f4)))
    (e_halt : PySem.W.nsIn K pD "halt" = some (some (.ref f5)))
    (e_back : PySem.W.nsIn K pD "back" = some (some (.ref f6)))
    (e_set : PySem.W.nsIn K pD "set" = some (some (.ref f7)))
    (e_more : PySem.W.nsIn K pD "more" = some (some (.ref f8)))
    (e_copy : PySem.W.nsIn K pD "copy" = some (some (.ref f9)))
    (e_add : PySem.W.nsIn K pD "add" = some (some (.ref f10)))
    (e_less : PySem.W.nsIn K pD "less" = some (some (.ref f11)))
    (e_load : PySem.W.nsIn K pD "load" = some (some (.ref f12)))
    (e_keep : PySem.W.nsIn K pD "keep" = some (some (.ref f13)))
    (e_tell : PySem.W.nsIn K pD "tell" = some (some (.ref f14)))
    (e_see : PySem.W.nsIn K pD "see" = some (some (.ref f15)))
    (e_put : PySem.W.nsIn K pD "put" = some (some (.ref f16)))
    (e_take : PySem.W.nsIn K pD "take" = some (some (.ref f17)))
    (e_jump : PySem.W.nsIn K pD "jump" = some (some (.ref f18)))
    (e_zero : PySem.W.nsIn K pD "zero" = some (some (.ref f19)))
    (e_below : PySem.W.nsIn K pD "below" = some (some (.ref f20)))
    (e_call : PySem.W.nsIn K pD "call" = some (some (.ref f21)))
    (e_mark : PySem.W.nsIn K pD "mark" = some (some (.ref f22)))
    (e_table : PySem.W.nsIn K pD "table" = some (some (.ref f23)))
    : ∃ fd : FuncData, (∀ (s : Shared) (v : Value), BindsTo s fd ⟨[v], []⟩ [("_law_script", v)]) ∧ ∀ base : Heap, K.In base → base.Ns mainGlobals mg → FnOk l.prog w K mg base CX0 5 fa fd ["_law_script"] (spLaw (K := K)) := by
  have e := hfa.symm.trans (PySem.W.mg_of X G a31)
  cases e
  have F0 := fun_mk (st := sGoes) l0 c0 k0
  have b0 := F0.binds (ps := ["row"]) fun _ _ _ _ _ _ us hl => match us, hl with | [_], _ => rfl
  have m0 := PySem.W.mg_of X G a0
  have F1 := fun_mk (st := sTargets) l1 c1 k1
  have b1 := F1.binds (ps := ["row"]) fun _ _ _ _ _ _ us hl => match us, hl with | [_], _ => rfl
  have m1 := PySem.W.mg_of X G a1
  have F2 := fun_mk (st := sWays) l2 c2 k2
  have b2 := F2.binds (ps := ["rows", "r"]) fun _ _ _ _ _ _ us hl => match us, hl with | [_, _], _ => rfl
  have m2 := PySem.W.mg_of X G a2
  have F3 := fun_mk (st := sEnd) l3 c3 k3
  have b3 := F3.binds (ps := ["machine", "how"]) fun _ _ _ _ _ _ us hl => match us, hl with | [_, _], _ => rfl
  have m3 := PySem.W.mg_of X G a3
  have F4 := fun_mk (st := d_stop) l4 c4 k4
  have b4 := F4.binds (ps := ["machine", "row"]) fun _ _ _ _ _ _ us hl => match us, hl with | [_, _], _ => rfl
  have m4 := PySem.W.mg_of X G a4
  have F5 := fun_mk (st := d_halt) l5 c5 k5
  have b5 := F5.binds (ps := ["machine", "row"]) fun _ _ _ _ _ _ us hl => match us, hl with | [_, _], _ => rfl
  have m5 := PySem.W.mg_of X G a5
  have F6 := fun_mk (st := d_back) l6 c6 k6
  have b6 := F6.binds (ps := ["machine", "row"]) fun _ _ _ _ _ _ us hl => match us, hl with | [_, _], _ => rfl
  have m6 := PySem.W.mg_of X G a6
  have F7 := fun_mk (st := d_set) l7 c7 k7
  have b7 := F7.binds (ps := ["machine", "row"]) fun _ _ _ _ _ _ us hl => match us, hl with | [_, _], _ => rfl
  have m7 := PySem.W.mg_of X G a7
  have F8 := fun_mk (st := d_more) l8 c8 k8
  have b8 := F8.binds (ps := ["machine", "row"]) fun _ _ _ _ _ _ us hl => match us, hl with | [_, _], _ => rfl
  have m8 := PySem.W.mg_of X G a8
  have F9 := fun_mk (st := d_copy) l9 c9 k9
  have b9 := F9.binds (ps := ["machine", "row"]) fun _ _ _ _ _ _ us hl => match us, hl with | [_, _], _ => rfl
  have m9 := PySem.W.mg_of X G a9
  have F10 := fun_mk (st := d_add) l10 c10 k10
  have b10 := F10.binds (ps := ["machine", "row"]) fun _ _ _ _ _ _ us hl => match us, hl with | [_, _], _ => rfl
  have m10 := PySem.W.mg_of X G a10
  have F11 := fun_mk (st := d_less) l11 c11 k11
  have b11 := F11.binds (ps := ["machine", "row"]) fun _ _ _ _ _ _ us hl => match us, hl with | [_, _], _ => rfl
  have m11 := PySem.W.mg_of X G a11
  have F12 := fun_mk (st := d_load) l12 c12 k12
  have b12 := F12.binds (ps := ["machine", "row"]) fun _ _ _ _ _ _ us hl => match us, hl with | [_, _], _ => rfl
  have m12 := PySem.W.mg_of X G a12
  have F13 := fun_mk (st := d_keep) l13 c13 k13
  have b13 := F13.binds (ps := ["machine", "row"]) fun _ _ _ _ _ _ us hl => match us, hl with | [_, _], _ => rfl
  have m13 := PySem.W.mg_of X G a13
  have F14 := fun_mk (st := d_tell) l14 c14 k14
  have b14 := F14.binds (ps := ["machine", "row"]) fun _ _ _ _ _ _ us hl => match us, hl with | [_, _], _ => rfl
  have m14 := PySem.W.mg_of X G a14
  have F15 := fun_mk (st := d_see) l15 c15 k15
  have b15 := F15.binds (ps := ["machine", "row"]) fun _ _ _ _ _ _ us hl => match us, hl with | [_, _], _ => rfl
  have m15 := PySem.W.mg_of X G a15
  have F16 := fun_mk (st := d_put) l16 c16 k16
  have b16 := F16.binds (ps := ["machine", "row"]) fun _ _ _ _ _ _ us hl => match us, hl with | [_, _], _ => rfl
  have m16 := PySem.W.mg_of X G a16
  have F17 := fun_mk (st := d_take) l17 c17 k17
  have b17 := F17.binds (ps := ["machine", "row"]) fun _ _ _ _ _ _ us hl => match us, hl with | [_, _], _ => rfl
  have m17 := PySem.W.mg_of X G a17
  have F18 := fun_mk (st := d_jump) l18 c18 k18
  have b18 := F18.binds (ps := ["machine", "row"]) fun _ _ _ _ _ _ us hl => match us, hl with | [_, _], _ => rfl
  have m18 := PySem.W.mg_of X G a18
  have F19 := fun_mk (st := d_zero) l19 c19 k19
  have b19 := F19.binds (ps := ["machine", "row"]) fun _ _ _ _ _ _ us hl => match us, hl with | [_, _], _ => rfl
  have m19 := PySem.W.mg_of X G a19
  have F20 := fun_mk (st := d_below) l20 c20 k20
  have b20 := F20.binds (ps := ["machine", "row"]) fun _ _ _ _ _ _ us hl => match us, hl with | [_, _], _ => rfl
  have m20 := PySem.W.mg_of X G a20
  have F21 := fun_mk (st := d_call) l21 c21 k21
  have b21 := F21.binds (ps := ["machine", "row"]) fun _ _ _ _ _ _ us hl => match us, hl with | [_, _], _ => rfl
  have m21 := PySem.W.mg_of X G a21
  have F22 := fun_mk (st := d_mark) l22 c22 k22
  have b22 := F22.binds (ps := ["machine", "row"]) fun _ _ _ _ _ _ us hl => match us, hl with | [_, _], _ => rfl
  have m22 := PySem.W.mg_of X G a22
  have F23 := fun_mk (st := d_table) l23 c23 k23
  have b23 := F23.binds (ps := ["machine", "row"]) fun _ _ _ _ _ _ us hl => match us, hl with | [_, _], _ => rfl
  have m23 := PySem.W.mg_of X G a23
  have F24 := fun_mk (st := sCell) l24 c24 k24
  have b24 := F24.binds (ps := ["_law_script", "_law_k"]) fun _ _ _ _ _ _ us hl => match us, hl with | [_, _], _ => rfl
  have m24 := PySem.W.mg_of X G a24
  have F25 := fun_mk (st := sDraws) l25 c25 k25
  have b25 := F25.binds (ps := ["_law_cell", "_law_k", "_law_many"]) fun _ _ _ _ _ _ us hl => match us, hl with | [_, _, _], _ => rfl
  have m25 := PySem.W.mg_of X G a25
  have F26 := fun_mk (st := sRow) l26 c26 k26
  have b26 := F26.binds (ps := ["_law_xs", "_law_size", "_law_words"]) fun _ _ _ _ _ _ us hl => match us, hl with | [_, _, _], _ => rfl
  have m26 := PySem.W.mg_of X G a26
  have F27 := fun_mk (st := sProg) l27 c27 k27
  have b27 := F27.binds (ps := ["_law_script", "_law_at", "_law_most", "_law_words"]) fun _ _ _ _ _ _ us hl => match us, hl with | [_, _, _, _], _ => rfl
  have m27 := PySem.W.mg_of X G a27
  have F28 := fun_mk (st := sLed) l28 c28 k28
  have b28 := F28.binds (ps := ["_law_row_here"]) fun _ _ _ _ _ _ us hl => match us, hl with | [_], _ => rfl
  have m28 := PySem.W.mg_of X G a28
  have F29 := fun_mk (st := sCome) l29 c29 k29
  have b29 := F29.binds (ps := ["_law_rows", "_law_box", "_law_number", "_law_bells", "_law_boxes"]) fun _ _ _ _ _ _ us hl => match us, hl with | [_, _, _, _, _], _ => rfl
  have m29 := PySem.W.mg_of X G a29
  have F30 := fun_mk (st := sHome) l30 c30 k30
  have b30 := F30.binds (ps := ["_law_rows", "_law_number"]) fun _ _ _ _ _ _ us hl => match us, hl with | [_, _], _ => rfl
  have m30 := PySem.W.mg_of X G a30
  have F31 := fun_mk (st := sLaw) l31 c31 k31
  have T : Txt K mg := ⟨⟨pT0, PySem.W.mg_of X G aT0, fun H => .inr ⟨_, _, _, lT0, rfl, rfl, (by show 4 ≤ sizeLine; decide), .cons ⟨_, rfl⟩ (.cons ⟨_, rfl⟩ (.cons ⟨_, rfl⟩ (.cons ⟨_, rfl⟩ (.nil))))⟩⟩, PySem.W.mg_none_of X G z_len, PySem.W.mg_none_of X G z_list, PySem.W.mg_none_of X G z_sorted, PySem.W.mg_none_of X G z_set, PySem.W.mg_none_of X G z_range, PySem.W.mg_none_of X G z_tuple, PySem.W.mg_none_of X G z_isinstance, PySem.W.mg_none_of X G z_dict, PySem.W.mg_none_of X G z_bool, kit_ib K⟩
  refine ⟨PySem.W.fnOf "law" "law" (defArgs sLaw) (defBody sLaw) (defScope sLaw) .none kV31 dc31 pm31 an31 cd31 ct31, fun s v => .of_eq rfl, fun base _ _ => ?_⟩
  have FM0 := fun_mk (st := sInit) lg0 cg0 kg0
  have bm0 := FM0.binds (ps := ["self", "rows", "boxes", "cells", "bells"]) fun _ _ _ _ _ _ us hl => match us, hl with | [_, _, _, _, _], _ => rfl
  have FM1 := fun_mk (st := sRowM) lg1 cg1 kg1
  have bm1 := FM1.binds (ps := ["self"]) fun _ _ _ _ _ _ us hl => match us, hl with | [_], _ => rfl
  have FM2 := fun_mk (st := sStep) lg2 cg2 kg2
  have bm2 := FM2.binds (ps := ["self"]) fun _ _ _ _ _ _ us hl => match us, hl with | [_], _ => rfl
  have MT : MTx K mg C := ⟨⟨pg, hd, po, sa⟩, n_program, n_in_boxes, n_in_cells, n_in_asides, n_rung, n_told_numbers, n_seen_numbers, n_pile, n_marks_done, n_here, n_how_ended⟩
  have GE := ok_end (P := l.prog) (w := w) (base := base) F3 MT
  have GCa := ok_call (P := l.prog) (w := w) (base := base) F21 MT
  have DD : Deeds l.prog w K mg base C pD := ⟨⟨f4, _, ⟨esD, nD, lD, kD, oD, _, e_stop, rfl⟩, ok_stop F4 MT GE F3.kp b3 m3, b4, F4.kp⟩, ⟨f5, _, ⟨esD, nD, lD, kD, oD, _, e_halt, rfl⟩, ok_halt F5 MT GE F3.kp b3 m3, b5, F5.kp⟩, ⟨f6, _, ⟨esD, nD, lD, kD, oD, _, e_back, rfl⟩, ok_back F6 MT GE F3.kp b3 m3 T.len, b6, F6.kp⟩, fa_cons ⟨f7, _, ⟨esD, nD, lD, kD, oD, _, e_set, rfl⟩, (ok_set (P := l.prog) (base := base) F7 MT).mono (by decide), b7, F7.kp⟩ (fa_cons ⟨f8, _, ⟨esD, nD, lD, kD, oD, _, e_more, rfl⟩, (ok_more (P := l.prog) (base := base) F8 MT).mono (by decide), b8, F8.kp⟩ (fa_cons ⟨f15, _, ⟨esD, nD, lD, kD, oD, _, e_see, rfl⟩, (ok_see (P := l.prog) (base := base) F15 MT).mono (by decide), b15, F15.kp⟩ (fa_cons ⟨f16, _, ⟨esD, nD, lD, kD, oD, _, e_put, rfl⟩, (ok_put (P := l.prog) (base := base) F16 MT).mono (by decide), b16, F16.kp⟩ (fa_cons ⟨f17, _, ⟨esD, nD, lD, kD, oD, _, e_take, rfl⟩, (ok_take (P := l.prog) (base := base) F17 MT).mono (by decide), b17, F17.kp⟩ (fa_nil))))), fa_cons ⟨f9, _, ⟨esD, nD, lD, kD, oD, _, e_copy, rfl⟩, (ok_copy (P := l.prog) (base := base) F9 MT).mono (by decide), b9, F9.kp⟩ (fa_cons ⟨f10, _, ⟨esD, nD, lD, kD, oD, _, e_add, rfl⟩, (ok_add (P := l.prog) (base := base) F10 MT).mono (by decide), b10, F10.kp⟩ (fa_cons ⟨f11, _, ⟨esD, nD, lD, kD, oD, _, e_less, rfl⟩, (ok_less (P := l.prog) (base := base) F11 MT).mono (by decide), b11, F11.kp⟩ (fa_cons ⟨f12, _, ⟨esD, nD, lD, kD, oD, _, e_load, rfl⟩, (ok_load (P := l.prog) (base := base) F12 MT).mono (by decide), b12, F12.kp⟩ (fa_cons ⟨f13, _, ⟨esD, nD, lD, kD, oD, _, e_keep, rfl⟩, (ok_keep (P := l.prog) (base := base) F13 MT).mono (by decide), b13, F13.kp⟩ (fa_nil))))), ⟨f14, _, ⟨esD, nD, lD, kD, oD, _, e_tell, rfl⟩, (ok_tell (P := l.prog) (base := base) F14 MT).mono (by decide), b14, F14.kp⟩, ⟨f18, _, ⟨esD, nD, lD, kD, oD, _, e_jump, rfl⟩, (ok_jump (P := l.prog) (base := base) F18 MT).mono (by decide), b18, F18.kp⟩, ⟨f19, _, ⟨esD, nD, lD, kD, oD, _, e_zero, rfl⟩, (ok_zero (P := l.prog) (base := base) F19 MT).mono (by decide), b19, F19.kp⟩, ⟨f20, _, ⟨esD, nD, lD, kD, oD, _, e_below, rfl⟩, (ok_below (P := l.prog) (base := base) F20 MT).mono (by decide), b20, F20.kp⟩, ⟨f21, _, ⟨esD, nD, lD, kD, oD, _, e_call, rfl⟩, (ok_call (P := l.prog) (base := base) F21 MT).mono (by decide), b21, F21.kp⟩, ⟨f22, _, ⟨esD, nD, lD, kD, oD, _, e_mark, rfl⟩, ok_mark F22 MT GCa F21.kp b21 m21, b22, F22.kp⟩, ⟨f23, _, ⟨esD, nD, lD, kD, oD, _, e_table, rfl⟩, (ok_table (P := l.prog) (base := base) F23 MT T.len).mono (by decide), b23, F23.kp⟩⟩
  have Z : Mch l.prog w K mg base C := ⟨MT, PySem.W.mg_of X G aC, ⟨g0, _, ⟨mkc, ag0, ig0, kc⟩, ok_init FM0 T MT, bm0⟩, ⟨g2, _, ⟨ag2, ig2, kg2⟩, ok_step FM2 MT (PySem.W.mg_of X G aD) DD, bm2⟩, ⟨g1, _, ⟨ag1, ig1, kg1⟩, ok_rowM FM1 MT, bm1⟩⟩
  exact ok_law F31 T (ok_ways F2 T F0 b0 m0 F1 b1 m1) F2.kp b2 m2 (ok_come F29 T Z) F29.kp b29 m29 (ok_home F30 T Z) F30.kp b30 m30 (ok_prog F27 T F24 b24 m24 F25 b25 m25 F26 b26 m26) F27.kp b27 m27 (ok_cell F24 T) F24.kp b24 m24 (ok_draws F25 T) F25.kp b25 m25 (ok_row F26 T) F26.kp b26 m26 (ok_led F28 T) F28.kp b28 m28
theorem walk {l : PySem.W.OpenLaw} {q : Program} {loose : List Str} {XP : (Str → Option Value) → Heap → Prop} {YP : World → Heap → Prop} {d : DefRec} {K : Params → PySem.W.Frag} (hn : l.most = some 63) (hdf : d.params.defaults = [])
    (hY : ∀ (w : World) (h : Heap), YP w h → (K w.params).In h)
    (F : ∀ (w : World) (mg : Str → Option Value) (fa : Addr) (h : Heap), (K w.params).In h → h.Ns mainGlobals mg → mg d.name = some (.ref fa) →
      ∃ fd : FuncData, (∀ (s : Shared) (u : Value), BindsTo s fd ⟨[u], []⟩ [("_law_script", u)]) ∧ ∀ base : Heap, (K w.params).In base → base.Ns mainGlobals mg → FnOk l.prog w (K w.params) mg base CX0 5 fa fd ["_law_script"] (spLaw (K := K w.params))) :
    PySem.W.WalkO q loose XP YP l.row.toRowW d [] (fun f vs => PySem.call f vs) :=
  L2.walk_of (n := 63) (k := 5) (x := "_law_script") (CX := fun _ => CX0) (sp := fun w => spLaw (K := K w.params)) hn (by decide) hdf ⟨rfl, by decide, by decide⟩ hY F (fun _ _ a ns hl _ hS => ⟨a, ns, rfl, hS, hl, fun _ => rfl⟩) fun _ _ _ _ _ z => z
end My
open PySem PySem.W PyProof.Rows
set_option maxRecDepth 100000 in
set_option maxHeartbeats 0 in
theorem PySem.Challenge.cw_widenrows_k08_whole_ways_are_passed_holds : PySem.Challenge.rw_widenrows_k08_whole_ways_are_passed.Holds := by
  w_on; o_law; k_head; (case hw => w_witness2)
  k_fill
  refine My.walk (l := PySem.Challenge.rw_widenrows_k08_whole_ways_are_passed) rfl rfl (fun w h Y => PySem.W.kIn_of Y) ?F
  case F =>
    intro w mg fa h KX G hmg
    refine' My.all_mk KX G hmg ?a0 ?l0 ?c0 ?k0 ?a1 ?l1 ?c1 ?k1 ?a2 ?l2 ?c2 ?k2 ?a3 ?l3 ?c3 ?k3 ?a4 ?l4 ?c4 ?k4 ?a5 ?l5 ?c5 ?k5 ?a6 ?l6 ?c6 ?k6 ?a7 ?l7 ?c7 ?k7 ?a8 ?l8 ?c8 ?k8 ?a9 ?l9 ?c9 ?k9 ?a10 ?l10 ?c10 ?k10 ?a11 ?l11 ?c11 ?k11 ?a12 ?l12 ?c12 ?k12 ?a13 ?l13 ?c13 ?k13 ?a14 ?l14 ?c14 ?k14 ?a15 ?l15 ?c15 ?k15 ?a16 ?l16 ?c16 ?k16 ?a17 ?l17 ?c17 ?k17 ?a18 ?l18 ?c18 ?k18 ?a19 ?l19 ?c19 ?k19 ?a20 ?l20 ?c20 ?k20 ?a21 ?l21 ?c21 ?k21 ?a22 ?l22 ?c22 ?k22 ?a23 ?l23 ?c23 ?k23 ?a24 ?l24 ?c24 ?k24 ?a25 ?l25 ?c25 ?k25 ?a26 ?l26 ?c26 ?k26 ?a27 ?l27 ?c27 ?k27 ?a28 ?l28 ?c28 ?k28 ?a29 ?l29 ?c29 ?k29 ?a30 ?l30 ?c30 ?k30 ?a31 ?l31 ?c31 ?k31 ?aT0 ?lT0 ?z_len ?z_list ?z_sorted ?z_set ?z_range ?z_tuple ?z_isinstance ?z_dict ?z_bool ?aC ?ag0 ?ig0 ?lg0 ?cg0 ?kg0 ?ag1 ?ig1 ?lg1 ?cg1 ?kg1 ?ag2 ?ig2 ?lg2 ?cg2 ?kg2 ?pg ?hd ?po ?sa ?mkc ?kc ?n_program ?n_in_boxes ?n_in_cells ?n_in_asides ?n_rung ?n_told_numbers ?n_seen_numbers ?n_pile ?n_marks_done ?n_here ?n_how_ended ?aD ?lD ?kD ?oD ?e_stop ?e_halt ?e_back ?e_set ?e_more ?e_copy ?e_add ?e_less ?e_load ?e_keep ?e_tell ?e_see ?e_put ?e_take ?e_jump ?e_zero ?e_below ?e_call ?e_mark ?e_table
    (case a0 => k_is)
    (case l0 => k_is)
    (case c0 => k_is)
    (case k0 => k_is)
    (case a1 => k_is)
    (case l1 => k_is)
    (case c1 => k_is)
    (case k1 => k_is)
    (case a2 => k_is)
    (case l2 => k_is)
    (case c2 => k_is)
    (case k2 => k_is)
    (case a3 => k_is)
    (case l3 => k_is)
    (case c3 => k_is)
    (case k3 => k_is)
    (case a4 => k_is)
    (case l4 => k_is)
    (case c4 => k_is)
    (case k4 => k_is)
    (case a5 => k_is)
    (case l5 => k_is)
    (case c5 => k_is)
    (case k5 => k_is)
    (case a6 => k_is)
    (case l6 => k_is)
    (case c6 => k_is)
    (case k6 => k_is)
    (case a7 => k_is)
    (case l7 => k_is)
    (case c7 => k_is)
    (case k7 => k_is)
    (case a8 => k_is)
    (case l8 => k_is)
    (case c8 => k_is)
    (case k8 => k_is)
    (case a9 => k_is)
    (case l9 => k_is)
    (case c9 => k_is)
    (case k9 => k_is)
    (case a10 => k_is)
    (case l10 => k_is)
    (case c10 => k_is)
    (case k10 => k_is)
    (case a11 => k_is)
    (case l11 => k_is)
    (case c11 => k_is)
    (case k11 => k_is)
    (case a12 => k_is)
    (case l12 => k_is)
    (case c12 => k_is)
    (case k12 => k_is)
    (case a13 => k_is)
    (case l13 => k_is)
    (case c13 => k_is)
    (case k13 => k_is)
    (case a14 => k_is)
    (case l14 => k_is)
    (case c14 => k_is)
    (case k14 => k_is)
    (case a15 => k_is)
    (case l15 => k_is)
    (case c15 => k_is)
    (case k15 => k_is)
    (case a16 => k_is)
    (case l16 => k_is)
    (case c16 => k_is)
    (case k16 => k_is)
    (case a17 => k_is)
    (case l17 => k_is)
    (case c17 => k_is)
    (case k17 => k_is)
    (case a18 => k_is)
    (case l18 => k_is)
    (case c18 => k_is)
    (case k18 => k_is)
    (case a19 => k_is)
    (case l19 => k_is)
    (case c19 => k_is)
    (case k19 => k_is)
    (case a20 => k_is)
    (case l20 => k_is)
    (case c20 => k_is)
    (case k20 => k_is)
    (case a21 => k_is)
    (case l21 => k_is)
    (case c21 => k_is)
    (case k21 => k_is)
    (case a22 => k_is)
    (case l22 => k_is)
    (case c22 => k_is)
    (case k22 => k_is)
    (case a23 => k_is)
    (case l23 => k_is)
    (case c23 => k_is)
    (case k23 => k_is)
    (case a24 => k_is)
    (case l24 => k_is)
    (case c24 => k_is)
    (case k24 => k_is)
    (case a25 => k_is)
    (case l25 => k_is)
    (case c25 => k_is)
    (case k25 => k_is)
    (case a26 => k_is)
    (case l26 => k_is)
    (case c26 => k_is)
    (case k26 => k_is)
    (case a27 => k_is)
    (case l27 => k_is)
    (case c27 => k_is)
    (case k27 => k_is)
    (case a28 => k_is)
    (case l28 => k_is)
    (case c28 => k_is)
    (case k28 => k_is)
    (case a29 => k_is)
    (case l29 => k_is)
    (case c29 => k_is)
    (case k29 => k_is)
    (case a30 => k_is)
    (case l30 => k_is)
    (case c30 => k_is)
    (case k30 => k_is)
    (case a31 => k_is)
    (case l31 => k_is)
    (case c31 => k_is)
    (case k31 => k_is)
    (case aT0 => k_is)
    (case lT0 => k_is)
    (case z_len => k_is)
    (case z_list => k_is)
    (case z_sorted => k_is)
    (case z_set => k_is)
    (case z_range => k_is)
    (case z_tuple => k_is)
    (case z_isinstance => k_is)
    (case z_dict => k_is)
    (case z_bool => k_is)
    (case aC => k_is)
    (case ag0 => k_is)
    (case ig0 => k_is)
    (case lg0 => k_is)
    (case cg0 => k_is)
    (case kg0 => k_is)
    (case ag1 => k_is)
    (case ig1 => k_is)
    (case lg1 => k_is)
    (case cg1 => k_is)
    (case kg1 => k_is)
    (case ag2 => k_is)
    (case ig2 => k_is)
    (case lg2 => k_is)
    (case cg2 => k_is)
    (case kg2 => k_is)
    (case pg => k_is)
    (case hd => k_is)
    (case po => k_is)
    (case sa => k_is)
    (case mkc => k_is)
    (case kc => k_is)
    (case n_program => k_is)
    (case n_in_boxes => k_is)
    (case n_in_cells => k_is)
    (case n_in_asides => k_is)
    (case n_rung => k_is)
    (case n_told_numbers => k_is)
    (case n_seen_numbers => k_is)
    (case n_pile => k_is)
    (case n_marks_done => k_is)
    (case n_here => k_is)
    (case n_how_ended => k_is)
    (case aD => k_is)
    (case lD => k_is)
    (case kD => k_keys)
    (case oD => first | exact rfl | decide | k_is)
    (case e_stop => k_is)
    (case e_halt => k_is)
    (case e_back => k_is)
    (case e_set => k_is)
    (case e_more => k_is)
    (case e_copy => k_is)
    (case e_add => k_is)
    (case e_less => k_is)
    (case e_load => k_is)
    (case e_keep => k_is)
    (case e_tell => k_is)
    (case e_see => k_is)
    (case e_put => k_is)
    (case e_take => k_is)
    (case e_jump => k_is)
    (case e_zero => k_is)
    (case e_below => k_is)
    (case e_call => k_is)
    (case e_mark => k_is)
    (case e_table => k_is)
#print axioms PySem.Challenge.cw_widenrows_k08_whole_ways_are_passed_holds
