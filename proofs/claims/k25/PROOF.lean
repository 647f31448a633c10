import PyProof.Rows.All
import Wide.All
import OpenK.AllK
import Wide.FinOn
import Lean
import PyProof.EqAt
import PyProof.EqKinds
import PyProof.TupleCall
import PyProof.NeKinds
import PyProof.ListRange
import KE.KDictSum
import Wide.Seal
import PyProof.EnumIter
import PyProof.EnumFor
import PyProof.EnumMake
import PyProof.EnumStmt
import PyProof.ConsumeWalk
import KE.KPairComp
import PyProof.DictItemsLoops
import KE.KEqDict
import PyProof.AttrMissSeq
import PyProof.CollectWalk
import OpenK.KTop
import PyProof.StationsW
import PyProof.Rows.OwnQ
import OpenK.KOwn
import KE.KTryMore
import PyProof.NsDelKeeps
import PyProof.ExcArgsOwn
import PyProof.ExcAttrAll.ValueError
import PyProof.ExcBaseAll.ValueError
import PySem.Challenge.RW_widenrows_k25_ended
set_option Elab.async false
set_option linter.all false
set_option maxRecDepth 100000
/-! THE HAND LAYER, for ints, bools, texts, own classes, LISTS and tuples (index, slices, in, append, pop ..), calls, loops. Paste it whole ahead of your own text; what your proof does not reach may be deleted. -/
namespace L2
open PySem PySem.Spec PyProof.Rows

/-- a key: an int or a str -/
abbrev Key := Sum Int Str
def keyIs : Key → Value → Bool
  | .inl k, v => Value.isInt k v
  | .inr x, v => Value.isStrOf x v
def keyH (w : World) : Key → Int
  | .inl k => hashInt k
  | .inr x => hashStr w x
theorem keyIs_shape : ∀ {k : Key} {v : Value}, keyIs k v = true → (∃ i t, k = Sum.inl i ∧ v = Value.int i t) ∨ (∃ x t, k = Sum.inr x ∧ v = Value.str x t)
  | .inl i, v, h => by
    obtain ⟨t, e⟩ := Value.isInt_shape (k := i) (v := v) h
    exact .inl ⟨i, t, rfl, e⟩
  | .inr x, v, h => by
    obtain ⟨t, e⟩ := Value.isStrOf_shape (x := x) (v := v) h
    exact .inr ⟨x, t, rfl, e⟩
theorem keyIs_int (i : Int) (t : Tok) : keyIs (.inl i) (.int i t) = true := by simp [keyIs, Value.isInt]
theorem keyIs_str (x : Str) (t : Tok) : keyIs (.inr x) (.str x t) = true := by simp [keyIs, Value.isStrOf]
theorem key_ll (a b : Int) : decide ((Sum.inl a : Key) = Sum.inl b) = (a == b) := by
  by_cases e : a = b
  · subst e; simp
  · have h : ¬ (Sum.inl a : Key) = Sum.inl b := fun q => e (Sum.inl.inj q)
    rw [decide_eq_false h]
    exact (beq_eq_false_iff_ne.mpr e).symm
theorem key_rr (a b : Str) : decide ((Sum.inr a : Key) = Sum.inr b) = decide (a = b) := by
  by_cases e : a = b
  · subst e; simp
  · have h : ¬ (Sum.inr a : Key) = Sum.inr b := fun q => e (Sum.inr.inj q)
    rw [decide_eq_false h, decide_eq_false e]
theorem key_lr (a : Int) (b : Str) : decide ((Sum.inl a : Key) = Sum.inr b) = false := decide_eq_false (fun q => nomatch q)
theorem key_rl (a : Str) (b : Int) : decide ((Sum.inr a : Key) = Sum.inl b) = false := decide_eq_false (fun q => nomatch q)

def mixKind (prog : Program) (w : World) : PySem.KeyKind prog w Key where
  is := keyIs
  hash := keyH w
  inj := fun v a b ha hb => by
    rcases keyIs_shape ha with ⟨i, t, rfl, rfl⟩ | ⟨x, t, rfl, rfl⟩
    · rcases keyIs_shape hb with ⟨j, u, rfl, e⟩ | ⟨y, u, rfl, e⟩
      · injection e with e1 _; rw [e1]
      · exact nomatch e
    · rcases keyIs_shape hb with ⟨j, u, rfl, e⟩ | ⟨y, u, rfl, e⟩
      · exact nomatch e
      · injection e with e1 _; rw [e1]
  byValue := fun k v h => by
    rcases keyIs_shape h with ⟨i, t, rfl, rfl⟩ | ⟨x, t, rfl, rfl⟩ <;> rfl
  pyHash := fun hv h => by
    rcases keyIs_shape hv with ⟨i, t, rfl, rfl⟩ | ⟨x, t, rfl, rfl⟩
    · exact wpAny_pyHash_int h
    · exact wpAny_pyHash_str h
  eqBool := fun hu hv h => by
    rcases keyIs_shape hu with ⟨i, t, rfl, rfl⟩ | ⟨x, t, rfl, rfl⟩
    · rcases keyIs_shape hv with ⟨j, u, rfl, rfl⟩ | ⟨y, u, rfl, rfl⟩
      · rw [key_ll] at h; exact wpAny_eqBool_int h
      · rw [key_lr] at h; exact SeqAt.EqAt.int_str i t y u _ _ _ _ h
    · rcases keyIs_shape hv with ⟨j, u, rfl, rfl⟩ | ⟨y, u, rfl, rfl⟩
      · rw [key_rl] at h; exact SeqAt.EqAt.str_int x t j u _ _ _ _ h
      · rw [key_rr] at h; exact wpAny_eqBool_str h
  «strs» := fun k x t v h => by
    rcases keyIs_shape h with ⟨i, u, rfl, e⟩ | ⟨y, u, rfl, e⟩
    · exact nomatch e
    · injection e with e1 _
      subst e1
      cases v <;> rfl

theorem mixKind_int (prog : Program) (w : World) (i : Int) (t : Tok) : (mixKind prog w).is (.inl i) (.int i t) = true := keyIs_int i t
theorem mixKind_str (prog : Program) (w : World) (x : Str) (t : Tok) : (mixKind prog w).is (.inr x) (.str x t) = true := keyIs_str x t
end L2

namespace L2
open PySem PySem.Spec PyProof.Rows

/-- a value, without the heap -/
inductive V where
  | non | bl (b : Bool) | int (i : Int) | str (x : Str) | byt (b : Array UInt8) | flt (b : UInt64) | ref (a : Addr) | ty (n : String)
  deriving DecidableEq

def RelV : V → Value → Prop
  | .non, u => u = Value.none
  | .bl b, u => u = Value.bool b
  | .int i, u => ∃ t, u = Value.int i t
  | .str x, u => ∃ t, u = Value.str x t
  | .byt b, u => ∃ t, u = Value.bytes b t
  | .flt b, u => ∃ t, u = Value.float b t
  | .ref a, u => u = Value.ref a
  | .ty n, u => u = Value.type n

abbrev Vals : List V → List Value → Prop := Paired RelV
theorem Vals.length {xs : List V} {us : List Value} (r : Vals xs us) : xs.length = us.length := Paired.length r
theorem Vals.get : ∀ {xs : List V} {us : List Value} {i : Nat} {x : V}, Vals xs us → xs[i]? = some x → ∃ u, us[i]? = some u ∧ RelV x u
  | _, _, _, _, .nil, e => by simp at e
  | _, _, 0, _, .cons r _, e => by simp at e; subst e; exact ⟨_, rfl, r⟩
  | _, _, i + 1, x, .cons _ t, e => by
    obtain ⟨u, h1, h2⟩ := Vals.get (i := i) (x := x) t (by simpa using e)
    exact ⟨u, by simpa using h1, h2⟩
theorem Vals.set {x : V} {u : Value} (r : RelV x u) : ∀ {xs : List V} {us : List Value} (i : Nat), Vals xs us → Vals (xs.set i x) (us.set i u)
  | _, _, _, .nil => .nil
  | _, _, 0, .cons _ t => .cons r t
  | _, _, i + 1, .cons q t => .cons q (Vals.set r i t)
theorem Vals.append : ∀ {xs ys : List V} {us ws : List Value}, Vals xs us → Vals ys ws → Vals (xs ++ ys) (us ++ ws)
  | _, _, _, _, .nil, s => s
  | _, _, _, _, .cons r t, s => .cons r (Vals.append t s)
theorem Vals.take : ∀ {xs : List V} {us : List Value} (n : Nat), Vals xs us → Vals (xs.take n) (us.take n)
  | _, _, 0, _ => .nil
  | _, _, _ + 1, .nil => .nil
  | _, _, n + 1, .cons r t => .cons r (Vals.take n t)
theorem Vals.drop : ∀ {xs : List V} {us : List Value} (n : Nat), Vals xs us → Vals (xs.drop n) (us.drop n)
  | _, _, 0, r => r
  | _, _, _ + 1, .nil => .nil
  | _, _, n + 1, .cons _ t => Vals.drop n t

def RelO : Option V → Option Value → Prop
  | some v, some u => RelV v u
  | none, none => True
  | _, _ => False
def KV {κ : Type} : List (κ × V) → List (κ × Value) → Prop := Paired fun (p : κ × V) (q : κ × Value) => p.1 = q.1 ∧ RelV p.2 q.2

/-- a key of a dict (00_mix): an int or a text -/
def kV : Key → V
  | .inl i => .int i
  | .inr x => .str x

/-- what stands at a tracked address -/
inductive HO where
  /-- a list -/
  | lst (xs : List V)
  /-- a tuple (never changes) -/
  | tup (xs : List V)
  /-- a dict whose keys are ints and texts; one whose keys are tuples of ints and texts (the empty one is both) -/
  | dK (kvs : List (Key × V)) | dT (kvs : List (List Key × V))
  /-- a set of ints: its members, its size -/
  | set (S : Int → Bool) (n : Nat)
  /-- an instance of the class at C, its dict at dx, its attributes -/
  | ins (C dx : Addr) (fs : List (Str × V))
  /-- the dict of the instance at x -/
  | own (x : Addr)
  /-- the dict of an exception -/
  | xd (fs : List (Str × V))
  /-- a bound method, f of x -/
  | met (f x : Addr)
  /-- a range object lo, lo + 1, .. below hi -/
  | rng (lo hi : Int)
  /-- a thing that is known to the object (the script; a dict while a loop walks it): read, never written while it is so -/
  | frz (o : Obj) (u : HO)
  /-- a code object's table -/
  | tbl (ps : Array Value)
  /-- any other thing, by what is true of its one object (a def of one's own: SetO a S n := HO.ext fun h => ..) -/
  | ext (φ : Heap → Prop)

abbrev Hp := Addr → Option HO
def upd (H : Hp) (a : Addr) (o : HO) : Hp := fun b => if b = a then some o else H b
theorem upd_same {H : Hp} {a : Addr} {o : HO} : upd H a o a = some o := by unfold upd; rw [if_pos rfl]
theorem upd_ne {H : Hp} {a b : Addr} {o : HO} (h : b ≠ a) : upd H a o b = H b := by unfold upd; rw [if_neg h]
/-- two objects of different content stand apart -/
theorem ne_of {H : Hp} {a b : Addr} {o u : HO} (h : H a = some o) (h' : H b = some u) (d : o ≠ u) : a ≠ b := by
  intro e; subst e; rw [h] at h'; exact d (Option.some.inj h')
theorem ne_of_none {H : Hp} {a b : Addr} {o : HO} (h : H a = some o) (h' : H b = none) : a ≠ b := by
  intro e; subst e; rw [h] at h'; cases h'

section
variable (P : Program) (w : World)
def ObjOk (H : Hp) (h : Heap) (a : Addr) : HO → Prop
  | .lst xs => xs.length ≤ sizeLine ∧ ∃ (its : List Value) (n : Nat), Vals xs its ∧ h.get? a = some { cls := .type "list", data := .seq its.toArray n }
  | .tup xs => xs.length ≤ sizeLine ∧ ∃ its : List Value, Vals xs its ∧ IsTup h a its.toArray
  | .dK kvs => kvs.length ≤ sizeLine ∧ (a == sysModules) = false ∧ ∃ vs, KV kvs vs ∧ h.DictOf (mixKind P w) a vs
  | .dT kvs => kvs.length ≤ sizeLine ∧ (a == sysModules) = false ∧ ∃ xs : List (List Key × Addr × Value),
      Paired (fun (p : List Key × V) (q : List Key × Addr × Value) => p.1 = q.1 ∧ H q.2.1 = some (.tup (p.1.map kV)) ∧ RelV p.2 q.2.2) kvs xs ∧
      ∃ o es ep, h.get? a = some o ∧ o.ExactDict ∧ o.data = .dict es ep ∧ es.toList = xs.map (entryOfKey (tupleKind (mixKind P w))) ∧ (xs.map (·.1)).Nodup
  | .set S n => h.SetOf (intKind P w) a S n
  | .ins C dx fs => H dx = some (.own a) ∧ fs.length ≤ 1000 ∧ dx ≠ a ∧ h.get? a = some (PySem.W.instObj C dx) ∧
      ∃ mA, h.Ns1 dx mA ∧ (∀ f, RelO (fs.lookup f) (mA f)) ∧ PySem.Within mA (fs.map (·.1))
  | .own _ => ∃ o, h.get? a = some o
  | .xd fs => ∃ mA, h.Ns1 a mA ∧ ∀ f, RelO (fs.lookup f) (mA f)
  | .rng lo hi => ∃ t u v, h.get? a = some { cls := .type "range", data := .fields #[.int lo t, .int hi u, .int 1 v] }
  | .frz o u => h.get? a = some o ∧ ObjOk H h a u
  | .tbl ps => h.get? a = some { cls := .none, data := .fields ps }
  | .met f x => h.get? a = some (PySem.W.methodObj (.ref f) (.ref x))
  | .ext φ => φ h ∧ (∃ o, h.get? a = some o) ∧ ∀ h1 h2 : Heap, φ h1 → (∀ o, h1.get? a = some o → h2.get? a = some o) → φ h2
/-- the abstract heap is held -/
def HOk (H : Hp) (h : Heap) : Prop := ∀ a o, H a = some o → ObjOk P w H h a o
end

section
variable {P : Program} {w : World} {H H' : Hp} {h h' : Heap} {a : Addr} {o : HO}
theorem ObjOk.lt (x : ObjOk P w H h a o) : a < h.objs.size := by
  cases o with
  | lst xs => obtain ⟨_, _, _, _, e⟩ := x; exact Heap.lt_size e
  | tup xs => obtain ⟨_, _, _, p⟩ := x; exact p.lt
  | dK kvs => obtain ⟨_, _, _, _, o, _, _, e, _⟩ := x; exact Heap.lt_size e
  | dT kvs => obtain ⟨_, _, _, _, o, _, _, e, _⟩ := x; exact Heap.lt_size e
  | set S n => obtain ⟨o, _, _, _, e, _⟩ := x; exact Heap.lt_size e
  | ins C dx fs => obtain ⟨_, _, _, e, _⟩ := x; exact Heap.lt_size e
  | own y => obtain ⟨_, e⟩ := x; exact Heap.lt_size e
  | xd fs => obtain ⟨_, ⟨_, _, _, e, _⟩, _⟩ := x; exact Heap.lt_size e
  | rng lo hi => obtain ⟨_, _, _, e⟩ := x; exact Heap.lt_size e
  | frz ob u => obtain ⟨e, _⟩ := x; exact Heap.lt_size e
  | tbl ps => exact Heap.lt_size (show h.get? a = some _ from x)
  | met f y => exact Heap.lt_size (show h.get? a = some _ from x)
  | ext φ => obtain ⟨_, ⟨_, e⟩, _⟩ := x; exact Heap.lt_size e
theorem Paired.mapP {α β : Type} {F G : α → β → Prop} : ∀ {l₁ : List α} {l₂ : List β}, Paired F l₁ l₂ → (∀ a b, F a b → G a b) → Paired G l₁ l₂
  | _, _, .nil, _ => .nil
  | _, _, .cons r t, f => .cons (f _ _ r) (Paired.mapP t f)
/-- what an object's description leans on: its own object, its own dict, the tuples -/
theorem ObjOk.stay (x : ObjOk P w H h a o) (k : ∀ b u, (b = a ∨ H b = some (.own a)) → h.get? b = some u → h'.get? b = some u)
    (ho : ∀ b, H b = some (.own a) → H' b = some (.own a)) (ht : ∀ b xs, H b = some (.tup xs) → H' b = some (.tup xs)) : ObjOk P w H' h' a o := by
  induction o with
  | lst xs => obtain ⟨z, its, n, r, e⟩ := x; exact ⟨z, its, n, r, k _ _ (.inl rfl) e⟩
  | tup xs => obtain ⟨z, its, r, ob, e, c⟩ := x; exact ⟨z, its, r, ob, k _ _ (.inl rfl) e, c⟩
  | dK kvs => obtain ⟨z, y, vs, r, ob, es, ep, e, c⟩ := x; exact ⟨z, y, vs, r, ob, es, ep, k _ _ (.inl rfl) e, c⟩
  | dT kvs =>
    obtain ⟨z, y, xs, r, ob, es, ep, e, c⟩ := x
    exact ⟨z, y, xs, Paired.mapP r fun p q z => ⟨z.1, ht _ _ z.2.1, z.2.2⟩, ob, es, ep, k _ _ (.inl rfl) e, c⟩
  | set S n => obtain ⟨ob, es, ep, t, e, c⟩ := x; exact ⟨ob, es, ep, t, k _ _ (.inl rfl) e, c⟩
  | ins C dx fs =>
    obtain ⟨d, z, ne, e, mA, ⟨od, es, ep, e2, c⟩, r⟩ := x
    exact ⟨ho _ d, z, ne, k _ _ (.inl rfl) e, mA, ⟨od, es, ep, k _ _ (.inr d) e2, c⟩, r⟩
  | own y => obtain ⟨ob, e⟩ := x; exact ⟨ob, k _ _ (.inl rfl) e⟩
  | xd fs => obtain ⟨mA, ⟨od, es, ep, e, c⟩, r⟩ := x; exact ⟨mA, ⟨od, es, ep, k _ _ (.inl rfl) e, c⟩, r⟩
  | rng lo hi => obtain ⟨t, u, v, e⟩ := x; exact ⟨t, u, v, k _ _ (.inl rfl) e⟩
  | frz ob u ih => obtain ⟨e, q⟩ := x; exact ⟨k _ _ (.inl rfl) e, ih q⟩
  | tbl ps =>
    have e : h.get? a = some { cls := .none, data := .fields ps } := x
    show h'.get? a = some { cls := .none, data := .fields ps }
    exact k a _ (.inl rfl) e
  | met f y =>
    have e : h.get? a = some (PySem.W.methodObj (.ref f) (.ref y)) := x
    show h'.get? a = some (PySem.W.methodObj (.ref f) (.ref y))
    exact k a _ (.inl rfl) e
  | ext φ => obtain ⟨p, ⟨o, e⟩, st⟩ := x; exact ⟨st _ _ p fun o q => k _ _ (.inl rfl) q, ⟨o, k _ _ (.inl rfl) e⟩, st⟩
theorem HOk.lt (x : HOk P w H h) (e : H a = some o) : a < h.objs.size := (x a o e).lt
theorem HOk.fresh (x : HOk P w H h) (e : h.objs.size ≤ a) : H a = none := by
  cases q : H a with
  | none => rfl
  | some u => exact absurd (Nat.lt_of_lt_of_le (x.lt q) e) (Nat.lt_irrefl _)
/-- every object of the heap is kept -/
theorem HOk.kept (x : HOk P w H h) (k : ∀ b u, h.get? b = some u → h'.get? b = some u) : HOk P w H h' := fun a o e =>
  (x a o e).stay (fun b u _ q => k b u q) (fun _ q => q) fun _ _ q => q
/-- a new object is laid and tracked -/
theorem HOk.laid (x : HOk P w H h) (k : ∀ b u, h.get? b = some u → h'.get? b = some u) (hp : h.objs.size ≤ a) (new : ObjOk P w (upd H a o) h' a o) : HOk P w (upd H a o) h' := fun b u e => by
  have hn := x.fresh hp
  by_cases hb : b = a
  · subst hb; rw [upd_same] at e; cases e; exact new
  · rw [upd_ne hb] at e
    exact (x b u e).stay (fun c v _ q => k c v q) (fun c q => by rw [upd_ne (ne_of_none q hn)]; exact q) fun c xs q => by rw [upd_ne (ne_of_none q hn)]; exact q
end

/-- what may be read as u: it is u, or a known u -/
def Rd (H : Hp) (a : Addr) (u : HO) : Prop := H a = some u ∨ ∃ o, H a = some (.frz o u)
theorem Rd.of {H : Hp} {a : Addr} {u : HO} (h : H a = some u) : Rd H a u := .inl h
theorem Rd.ok {P : Program} {w : World} {H : Hp} {h : Heap} {a : Addr} {u : HO} (r : Rd H a u) (x : HOk P w H h) : ObjOk P w H h a u := by
  rcases r with r | ⟨o, r⟩
  · exact x a u r
  · obtain ⟨_, q⟩ := x a _ r
    exact q
/-- what may be written -/
def Mut : Option HO → Prop
  | some (.lst _) => True
  | some (.dK _) => True
  | some (.dT _) => True
  | some (.set _ _) => True
  | some (.ins _ _ _) => True
  | some (.ext _) => True
  | _ => False
section
variable {P : Program} {w : World} {H : Hp} {h h' : Heap} {x e : Addr} {o' : HO}
/-- the object at e is changed: x itself, or the dict of the instance x -/
theorem HOk.write (ok : HOk P w H h) (mu : Mut (H x)) (he : e = x ∨ H e = some (.own x)) (k : ∀ b u, b ≠ e → h.get? b = some u → h'.get? b = some u) (heo : ∃ u, h'.get? e = some u)
    (new : ObjOk P w (upd H x o') h' x o') : HOk P w (upd H x o') h' := fun b u q => by
  have nown : ∀ c y, H c = some (.own y) → c ≠ x := fun c y r z => by subst z; rw [r] at mu; exact mu
  have ntup : ∀ c xs, H c = some (.tup xs) → c ≠ x := fun c xs r z => by subst z; rw [r] at mu; exact mu
  by_cases hb : b = x
  · subst hb; rw [upd_same] at q; cases q; exact new
  · rw [upd_ne hb] at q
    by_cases hbe : b = e
    · have q' : H b = some (.own x) := by
        rcases he with z | z
        · exact absurd (hbe.trans z) hb
        · rw [hbe]; exact z
      rw [q] at q'; cases q'
      obtain ⟨v, hv⟩ := heo
      exact ⟨v, by rw [hbe]; exact hv⟩
    · refine (ok b u q).stay (fun c v hc r => k c v ?_ r) (fun c r => by rw [upd_ne (nown c b r)]; exact r) fun c xs r => by rw [upd_ne (ntup c xs r)]; exact r
      rcases hc with rfl | hc
      · exact hbe
      · rintro rfl
        rcases he with z | z
        · exact nown c b hc z
        · rw [hc] at z; cases z; exact hb rfl
end

/-! ### kept unless tracked; of the frames at fs (the callers') the slots may change (an exception that passes writes there); of the records at ex (iterators) nothing is said -/
structure Un (fs ex : List Addr) (H H' : Hp) (h h' : Heap) : Prop where
  keep : ∀ b o, h.get? b = some o → H b = none → b ∉ fs → b ∉ ex → h'.get? b = some o
  slot : ∀ b o, h.get? b = some o → H b = none → b ∈ fs → b ∉ ex → ∃ sl, h'.get? b = some { o with slots := sl }
  free : ∀ b o, h.get? b = some o → H b = none → b ∉ ex → H' b = none
  there : ∀ b o, h.get? b = some o → b ∉ ex → ∃ o', h'.get? b = some o'
  tups : ∀ b xs, H b = some (.tup xs) → H' b = some (.tup xs)
  frzs : ∀ b o u, H b = some (.frz o u) → H' b = some (.frz o u)
  tbls : ∀ b ps, H b = some (.tbl ps) → ∃ more, H' b = some (.tbl (ps ++ more))
section
variable {fs fs' ex ex' : List Addr} {H H1 H2 : Hp} {h h1 h2 h' : Heap} {a x e : Addr} {o : HO}
theorem Un.any (u : Un fs ex H H1 h h1) {b : Addr} {ob : Obj} (q : h.get? b = some ob) (n : H b = none) (hx : b ∉ ex) : ∃ sl, h1.get? b = some { ob with slots := sl } := by
  by_cases hb : b ∈ fs
  · exact u.slot b ob q n hb hx
  · exact ⟨ob.slots, u.keep b ob q n hb hx⟩
theorem Un.kept (k : ∀ b u, h.get? b = some u → h'.get? b = some u) : Un fs ex H H h h' :=
  ⟨fun b ob q _ _ _ => k b ob q, fun b ob q _ _ _ => ⟨ob.slots, k b ob q⟩, fun _ _ _ n _ => n, fun b ob q _ => ⟨ob, k b ob q⟩, fun _ _ q => q, fun _ _ _ q => q, fun _ ps q => ⟨#[], by rw [q]; simp⟩⟩
theorem Un.refl : Un fs ex H H h h := Un.kept fun _ _ q => q
theorem Un.laid (k : ∀ b u, h.get? b = some u → h'.get? b = some u) (hp : h.objs.size ≤ a) (hn : H a = none) : Un fs ex H (upd H a o) h h' where
  keep := fun b u q _ _ _ => k b u q
  slot := fun b u q _ _ _ => ⟨u.slots, k b u q⟩
  free := fun b u q n _ => by rw [upd_ne (Nat.ne_of_lt (Nat.lt_of_lt_of_le (Heap.lt_size q) hp))]; exact n
  there := fun b u q _ => ⟨u, k b u q⟩
  tups := fun b xs q => by rw [upd_ne (ne_of_none q hn)]; exact q
  frzs := fun b u xs q => by rw [upd_ne (ne_of_none q hn)]; exact q
  tbls := fun b ps q => ⟨#[], by rw [upd_ne (ne_of_none q hn), q]; simp⟩
theorem Un.write (mu : Mut (H x)) (he : e = x ∨ H e = some (.own x)) (k : ∀ b u, b ≠ e → h.get? b = some u → h'.get? b = some u) (heo : ∃ u, h'.get? e = some u) : Un fs ex H (upd H x o) h h' := by
  have hx : ∀ b, H b = none → b ≠ x := fun b n z => by subst z; rw [n] at mu; exact mu
  have hb : ∀ b, H b = none → b ≠ e := fun b n z => by
    subst z
    rcases he with r | r
    · exact hx b n r
    · rw [n] at r; cases r
  have hm : ∀ b u, H b = some u → ¬ Mut (some u) → b ≠ x := fun b u q nm z => by subst z; rw [q] at mu; exact nm mu
  refine ⟨fun b u q n _ _ => k b u (hb b n) q, fun b u q n _ _ => ⟨u.slots, k b u (hb b n) q⟩, fun b u q n _ => by rw [upd_ne (hx b n)]; exact n, fun b u q _ => ?_,
    fun b xs q => by rw [upd_ne (hm b _ q fun z => z)]; exact q, fun b u xs q => by rw [upd_ne (hm b _ q fun z => z)]; exact q, fun b ps q => ⟨#[], by rw [upd_ne (hm b _ q fun z => z), q]; simp⟩⟩
  by_cases hbe : b = e
  · subst hbe; exact heo
  · exact ⟨u, k b u hbe q⟩
end

/-! ### the heap without what is tracked -/
def trk (h : Heap) (H : Hp) : List Addr := (List.range h.objs.size).filter fun a => (H a).isSome
def hidT (h : Heap) (H : Hp) : Heap := PySem.W.hideAll h (trk h H)
theorem hidT_size (h : Heap) (H : Hp) : (hidT h H).objs.size = h.objs.size := PySem.W.hideAll_size _ _
theorem hidT_get {h : Heap} {H : Hp} {b : Addr} {o : Obj} (e : h.get? b = some o) (n : H b = none) : (hidT h H).get? b = some o :=
  PySem.W.hideAll_get _ e fun hm => by
    have q : (H b).isSome = true := (List.mem_filter.mp hm).2
    rw [n] at q; simp at q
theorem of_hidT {h : Heap} {H : Hp} {b : Addr} {o : Obj} (e : (hidT h H).get? b = some o) : h.get? b = some o ∧ H b = none := by
  have e' : h.get? b = some o := PySem.W.of_hideAll (trk h H) e
  refine ⟨e', ?_⟩
  cases q : H b with
  | none => rfl
  | some x =>
    have hm : b ∈ trk h H := List.mem_filter.mpr ⟨List.mem_range.mpr (Heap.lt_size e'), by simp [q]⟩
    have z : (hidT h H).get? b = none := PySem.W.hideAll_none (trk h H) hm
    rw [z] at e; cases e

/-! ### OpenK's ledger, filled with every new object but one -/
end L2

namespace L2
open PySem PySem.Spec PyProof.Rows

/-- the module's facts, over the base: the heap at the law's entry without what is tracked there -/
structure Mod (K : PySem.W.Frag) (mg : Str → Option Value) (base : Heap) : Prop where
  kin : K.In base
  glob : base.Ns mainGlobals mg
  blt : ∃ mb, base.Ns builtinsNs mb ∧ ∀ x : Str, x ≠ "__name__" → mb x = bootBuiltins x
  nolimit : base.NoLimit

/-- the context: a def's body (or a comprehension's block) running. base: fixed through the whole law; s₀, H₀: the entry; outer: the frames whose slots others may change (a def's callers); stack: all frames that run;
   ex: iterators that were made ahead of the entry and are walked here (a comprehension's); fn: the names whose cells were made at the entry (a def: all; a comprehension's block: its own); calm: not within an except suite; pn: pins that every state bears; xe: what is wanted of an exception that leaves the code -/
structure Cx where
  prog : Program
  w : World
  K : PySem.W.Frag
  mg : Str → Option Value
  base : Heap
  A : Around
  N : List Str
  s₀ : Shared
  H₀ : Hp
  env : Env
  outer : List Env
  stack : List Env
  ex : List Addr
  fn : Str → Bool
  calm : Bool
  pn : List (Addr × Obj)
  xe : Value → Shared → Prop
/-- the callers' frames -/
def frs (l : List Env) : List Addr := l.filterMap (·.frame)
abbrev Cx.fs (X : Cx) : List Addr := frs X.outer

def Vis (sc : Scope) (x : Str) : Prop := sc.names.lookup x = some .local ∨ sc.names.lookup x = some .cell ∨ sc.names.lookup x = some .free
def Loc (sc : Scope) (x : Str) : Prop := sc.names.lookup x = some .local ∨ sc.names.lookup x = some .cell
def Look (env : Env) (h : Heap) (m : Str → Option Value) (x : Str) (u : Value) : Prop :=
  (env.kindOf x = some .local ∧ m x = some u) ∨ ((env.kindOf x = some .cell ∨ env.kindOf x = some .free) ∧ ∃ c, env.cells.lookup x = some c ∧ h.IsCell c (some u))

structure Cx.Ok (X : Cx) : Prop where
  mod : Mod X.K X.mg X.base
  kind : X.env.scope.kind = .function
  glob : X.env.globals = mainGlobals
  blt : X.env.builtins = builtinsNs
  above : X.s₀.heap.objs.size ≤ X.env.locals
  inj : ∀ x y c, X.env.cells.lookup x = some c → X.env.cells.lookup y = some c → x = y
  has : ∀ x, (X.env.kindOf x = some .cell ∨ X.env.kindOf x = some .free) → ∃ c, X.env.cells.lookup x = some c
  cab : ∀ x c, X.fn x = true → X.env.cells.lookup x = some c → X.s₀.heap.objs.size ≤ c
  hd : X.calm = true → X.A.handled = none
  frames : X.A.frames = some X.stack
  stk : X.stack = X.outer ∨ (X.stack = X.env :: X.outer ∧ X.env.frame = some X.env.locals)
  exf : ∀ b ∈ X.ex, b ≠ X.env.locals ∧ ∀ x c, X.env.cells.lookup x = some c → c ≠ b
  bs : ∀ b o, X.base.get? b = some o → X.s₀.heap.get? b = some o ∧ X.H₀ b = none
  bsz : X.base.objs.size ≤ X.s₀.heap.objs.size
  noex : ∀ b o, X.base.get? b = some o → b ∉ X.ex
  exfs : ∀ b ∈ X.ex, b ∉ X.fs
  funs : X.s₀.heap.FunFrames X.base X.outer
  frf : ∀ b ∈ X.fs, X.H₀ b = none

structure Inv (X : Cx) (pins : List (Addr × Obj)) (σ : List (Option V)) (H : Hp) (s : Shared) : Prop where
  ok : X.Ok
  os : s.os = X.s₀.os
  bare : AllBare s.gens
  base : Un X.fs X.ex X.H₀ H X.s₀.heap s.heap
  loc : ∃ m, s.heap.Ns X.env.locals m ∧ ∀ (i : Nat) (x : Str) (v : V), X.N[i]? = some x → σ[i]? = some (some v) → Vis X.env.scope x → ∃ u, RelV v u ∧ Look X.env s.heap m x u
  cell : ∀ x c, X.env.cells.lookup x = some c → ∃ v, s.heap.IsCell c v
  free : H X.env.locals = none
  freeC : ∀ x c, X.env.cells.lookup x = some c → H c = none
  pin : ∀ p ∈ X.pn ++ pins, s.heap.get? p.1 = some p.2 ∧ H p.1 = none ∧ p.1 ≠ X.env.locals ∧ p.1 ∉ X.fs ∧ ∀ v, p.2.data ≠ .cell v
  hok : HOk X.prog X.w H s.heap
  len : σ.length = X.N.length

section
variable {X : Cx} {pins : List (Addr × Obj)} {σ : List (Option V)} {H H' : Hp} {s : Shared} {h' : Heap}

theorem Cx.Ok.nofr (ok : X.Ok) {b : Addr} {o : Obj} (e : X.base.get? b = some o) : b ∉ X.fs := fun hb => by
  have := (ok.funs.mem hb).1
  rw [e] at this; cases this
theorem Inv.bs (I : Inv X pins σ H s) : ∀ b o, X.base.get? b = some o → s.heap.get? b = some o ∧ H b = none := fun b o e =>
  ⟨I.base.keep b o (I.ok.bs b o e).1 (I.ok.bs b o e).2 (I.ok.nofr e) (I.ok.noex b o e), I.base.free b o (I.ok.bs b o e).1 (I.ok.bs b o e).2 (I.ok.noex b o e)⟩
theorem Inv.bk (I : Inv X pins σ H s) : ∀ b o, X.base.get? b = some o → s.heap.get? b = some o := fun b o e => (I.bs b o e).1
theorem Inv.mod (I : Inv X pins σ H s) : Mod X.K X.mg X.base := I.ok.mod
theorem Inv.kIn (I : Inv X pins σ H s) : X.K.In s.heap := I.ok.mod.kin.keeps I.bk
theorem Inv.lt (I : Inv X pins σ H s) : X.env.locals < s.heap.objs.size := let ⟨_, hn, _⟩ := I.loc; hn.lt
theorem Inv.sz (I : Inv X pins σ H s) : X.s₀.heap.objs.size ≤ s.heap.objs.size := Nat.le_trans I.ok.above (Nat.le_of_lt I.lt)
theorem Inv.nofs (I : Inv X pins σ H s) {a : Addr} (h : s.heap.objs.size ≤ a) : a ∉ X.fs := fun hb => by
  obtain ⟨_, o, ho, _⟩ := I.ok.funs.mem hb
  exact absurd (Nat.lt_of_lt_of_le (Heap.lt_size ho) (Nat.le_trans I.sz h)) (Nat.lt_irrefl _)
theorem Inv.cne (I : Inv X pins σ H s) : ∀ x c, X.env.cells.lookup x = some c → c ≠ X.env.locals := fun x c e z => by
  obtain ⟨v, o, ho, hd⟩ := I.cell x c e
  obtain ⟨m, ⟨o', es, ep, ho', hd', _⟩, _⟩ := I.loc
  rw [z, ho'] at ho; cases ho; rw [hd'] at hd; cases hd
theorem Inv.funs (I : Inv X pins σ H s) : s.heap.FunFrames X.base X.outer := by
  have all : ∀ (l : List Env), (∀ b ∈ frs l, b ∈ X.fs) → X.s₀.heap.FunFrames X.base l → s.heap.FunFrames X.base l := by
    intro l
    induction l with
    | nil => intro _ _; trivial
    | cons env r ih =>
      intro hs hl
      obtain ⟨hk, ⟨L, o, hf, hn, ho, hd⟩, hr⟩ := hl
      have hL : L ∈ X.fs := hs L (by unfold frs; rw [List.filterMap_cons, hf]; exact List.mem_cons_self)
      obtain ⟨sl, e⟩ := I.base.slot L o ho (I.ok.frf L hL) hL fun z => I.ok.exfs L z hL
      exact ⟨hk, ⟨L, _, hf, hn, e, hd⟩, ih (fun b hb => hs b (by unfold frs; rw [List.filterMap_cons, hf]; exact List.mem_cons_of_mem _ hb)) hr⟩
  exact all X.outer (fun _ hb => hb) I.ok.funs

/-- the frames that run, for a call -/
theorem Inv.stack (I : Inv X pins σ H s) : s.heap.FunFrames X.base X.stack := by
  rcases I.ok.stk with e | ⟨e, hf⟩
  · rw [e]; exact I.funs
  · rw [e]
    obtain ⟨m, hn, _⟩ := I.loc
    refine .cons (by rw [I.ok.kind]; decide) hf hn ?_ I.funs
    exact Heap.get?_none_of_le (Nat.le_trans I.ok.bsz I.ok.above)
theorem Inv.stkSub (I : Inv X pins σ H s) : ∀ b ∈ frs X.stack, b ∈ X.env.locals :: X.fs := fun b hb => by
  rcases I.ok.stk with e | ⟨e, hf⟩
  · rw [e] at hb; exact List.mem_cons_of_mem _ hb
  · rw [e] at hb
    unfold frs at hb
    rw [List.filterMap_cons, hf] at hb
    exact hb
theorem Inv.stkFree (I : Inv X pins σ H s) : ∀ b ∈ frs X.stack, H b = none := fun b hb => by
  rcases List.mem_cons.mp (I.stkSub b hb) with e | hb
  · rw [e]; exact I.free
  · obtain ⟨_, o, ho, _⟩ := I.ok.funs.mem hb
    exact I.base.free b o ho (I.ok.frf b hb) fun z => I.ok.exfs b z hb

/-- THE STEP: the untracked objects but the frame and the records at ch are kept (the callers' frames up to slots), the frame's map is kept, the new abstract heap is held -/
theorem Inv.step {g' : Array GenState} {t' : Nat} {d' : Drawn} {ch : List Addr} (I : Inv X pins σ H s)
    (hch : ∀ b ∈ ch, (b ∈ X.ex ∨ X.s₀.heap.objs.size ≤ b) ∧ b ≠ X.env.locals ∧ (∀ x c, X.env.cells.lookup x = some c → c ≠ b) ∧ ∀ p ∈ X.pn ++ pins, p.1 ≠ b)
    (keep : ∀ b o, b ≠ X.env.locals → b ∉ X.fs → b ∉ ch → s.heap.get? b = some o → H b = none → h'.get? b = some o)
    (slot : ∀ b o, b ≠ X.env.locals → b ∈ X.fs → b ∉ ch → s.heap.get? b = some o → H b = none → ∃ sl, h'.get? b = some { o with slots := sl }) (free : ∀ b o, b ∉ ch → s.heap.get? b = some o → H b = none → H' b = none)
    (there : ∀ b o, b ∉ ch → s.heap.get? b = some o → ∃ o', h'.get? b = some o')
    (tups : ∀ b xs, H b = some (.tup xs) → H' b = some (.tup xs)) (frzs : ∀ b o u, H b = some (.frz o u) → H' b = some (.frz o u)) (tbls : ∀ b ps, H b = some (.tbl ps) → ∃ more, H' b = some (.tbl (ps ++ more)))
    (ns : ∀ m, s.heap.Ns X.env.locals m → h'.Ns X.env.locals m) (hok : HOk X.prog X.w H' h') (hg : AllBare g') :
    Inv X pins σ H' { s with heap := h', gens := g', drawn := d', toks := t' } := by
  have neL : ∀ b o, X.s₀.heap.get? b = some o → b ≠ X.env.locals := fun b o e => Nat.ne_of_lt (Nat.lt_of_lt_of_le (Heap.lt_size e) I.ok.above)
  have neC : ∀ b o, X.s₀.heap.get? b = some o → b ∉ X.ex → b ∉ ch := fun b o e hx hb => by
    rcases (hch b hb).1 with z | z
    · exact hx z
    · exact absurd (Nat.lt_of_lt_of_le (Heap.lt_size e) z) (Nat.lt_irrefl _)
  have cellK : ∀ x c, X.env.cells.lookup x = some c → ∀ v, s.heap.IsCell c v → h'.IsCell c v := fun x c e v ⟨o, ho, hd⟩ => by
    have nch : c ∉ ch := fun z => (hch c z).2.2.1 x c e rfl
    by_cases hc : c ∈ X.fs
    · obtain ⟨sl, q⟩ := slot c o (I.cne x c e) hc nch ho (I.freeC x c e)
      exact ⟨_, q, hd⟩
    · exact ⟨o, keep c o (I.cne x c e) hc nch ho (I.freeC x c e), hd⟩
  refine ⟨I.ok, I.os, hg, ⟨fun b o e n hb hx => ?_, fun b o e n hb hx => ?_, fun b o e n hx => ?_, fun b o e hx => ?_, fun b xs e => tups b xs (I.base.tups b xs e), fun b o xs e => frzs b o xs (I.base.frzs b o xs e), fun b ps e => ?_⟩, ?_, fun x c e => ?_, ?_, fun x c e => ?_, fun p hp => ?_, hok, I.len⟩
  · exact keep b o (neL b o e) hb (neC b o e hx) (I.base.keep b o e n hb hx) (I.base.free b o e n hx)
  · obtain ⟨sl, e1⟩ := I.base.slot b o e n hb hx
    obtain ⟨sl', e2⟩ := slot b _ (neL b o e) hb (neC b o e hx) e1 (I.base.free b o e n hx)
    exact ⟨sl', e2⟩
  · obtain ⟨o', e1⟩ := I.base.there b o e hx
    exact free b o' (neC b o e hx) e1 (I.base.free b o e n hx)
  · obtain ⟨o', e1⟩ := I.base.there b o e hx
    exact there b o' (neC b o e hx) e1
  · obtain ⟨m1, e1⟩ := I.base.tbls b ps e
    obtain ⟨m2, e2⟩ := tbls b _ e1
    exact ⟨m1 ++ m2, by rw [e2, Array.append_assoc]⟩
  · obtain ⟨m, hn, hl⟩ := I.loc
    refine ⟨m, ns m hn, fun i x v e1 e2 e3 => ?_⟩
    obtain ⟨u, r, l⟩ := hl i x v e1 e2 e3
    refine ⟨u, r, ?_⟩
    rcases l with l | ⟨k, c, e, z⟩
    · exact .inl l
    · exact .inr ⟨k, c, e, cellK x c e _ z⟩
  · obtain ⟨v, z⟩ := I.cell x c e
    exact ⟨v, cellK x c e v z⟩
  · obtain ⟨m, ⟨o, _, _, ho, _⟩, _⟩ := I.loc
    exact free _ o (fun z => (hch _ z).2.1 rfl) ho I.free
  · obtain ⟨v, o, ho, hd⟩ := I.cell x c e
    exact free c o (fun z => (hch c z).2.2.1 x c e rfl) ho (I.freeC x c e)
  · obtain ⟨e, n, ne, nf, d⟩ := I.pin p hp
    have nch : p.1 ∉ ch := fun z => (hch p.1 z).2.2.2 p hp rfl
    exact ⟨keep p.1 p.2 ne nf nch e n, free p.1 p.2 nch e n, ne, nf, d⟩
/-- .. where the frame's own object is kept too -/
theorem Inv.un {t' : Nat} (I : Inv X pins σ H s) (u : Un X.fs [] H H' s.heap h') (hok : HOk X.prog X.w H' h') : Inv X pins σ H' { s with heap := h', toks := t' } := by
  obtain ⟨m, ⟨o, es, ep, ho, r⟩, _⟩ := id I.loc
  obtain ⟨sl, hL⟩ := u.any ho I.free (by simp)
  exact I.step (g' := s.gens) (d' := s.drawn) (ch := []) (fun _ z => nomatch z) (fun b o _ hb _ e n => u.keep b o e n hb (by simp)) (fun b o _ hb _ e n => u.slot b o e n hb (by simp)) (fun b o _ e n => u.free b o e n (by simp)) (fun b o _ e => u.there b o e (by simp)) u.tups u.frzs u.tbls (fun m' hm => by
    obtain ⟨o', es', ep', ho', r'⟩ := hm
    rw [ho] at ho'; cases ho'
    exact ⟨_, es', ep', hL, r'⟩) hok I.bare
/-- behind a call (or a comprehension's block): the slots of this frame may have changed too, the records at ch may have turned -/
theorem Inv.call {g' : Array GenState} {t' : Nat} {d' : Drawn} {ch : List Addr} (I : Inv X pins σ H s) (u : Un (frs X.stack) ch H H' s.heap h') (hok : HOk X.prog X.w H' h') (hg : AllBare g')
    (hch : ∀ b ∈ ch, (b ∈ X.ex ∨ X.s₀.heap.objs.size ≤ b) ∧ b ≠ X.env.locals ∧ (∀ x c, X.env.cells.lookup x = some c → c ≠ b) ∧ ∀ p ∈ X.pn ++ pins, p.1 ≠ b) :
    Inv X pins σ H' { s with heap := h', gens := g', drawn := d', toks := t' } := by
  obtain ⟨m, ⟨o, es, ep, ho, r⟩, _⟩ := id I.loc
  obtain ⟨sl, hL⟩ := u.any ho I.free fun z => (hch _ z).2.1 rfl
  exact I.step (ch := ch) hch (fun b o hL hb hc e n => u.keep b o e n (fun z => (List.mem_cons.mp (I.stkSub b z)).elim hL hb) hc) (fun b o _ _ hc e n => u.any e n hc) (fun b o hc e n => u.free b o e n hc) (fun b o hc e => u.there b o e hc) u.tups u.frzs u.tbls (fun m' hm => by
    obtain ⟨o', es', ep', ho', r'⟩ := hm
    rw [ho] at ho'; cases ho'
    exact ⟨_, es', ep', hL, r'⟩) hok hg
/-- an untracked record of ours (an iterator) has turned -/
theorem Inv.turned {t' : Nat} {it : Addr} (I : Inv X pins σ H s) (k : ∀ b o, b ≠ it → s.heap.get? b = some o → h'.get? b = some o) (hn : H it = none) (hL : it ≠ X.env.locals)
    (h1 : it ∈ X.ex ∨ X.s₀.heap.objs.size ≤ it) (h2 : ∀ x c, X.env.cells.lookup x = some c → c ≠ it) (h3 : ∀ p ∈ X.pn ++ pins, p.1 ≠ it) : Inv X pins σ H { s with heap := h', toks := t' } := by
  have nit : ∀ b u, H b = some u → b ≠ it := fun b u e z => by rw [z, hn] at e; cases e
  refine I.step (g' := s.gens) (d' := s.drawn) (ch := [it]) (fun b hb => ?_) (fun b o _ _ hc e _ => k b o (fun z => hc (by simp [z])) e) (fun b o _ _ hc e _ => ⟨o.slots, k b o (fun z => hc (by simp [z])) e⟩) (fun _ _ _ _ n => n)
    (fun b o hc e => ⟨o, k b o (fun z => hc (by simp [z])) e⟩) (fun _ _ e => e) (fun _ _ _ e => e) (fun b ps e => ⟨#[], by rw [e]; simp⟩) (fun m hm => ?_) (fun b u e => ?_) I.bare
  · have e : b = it := by simpa using hb
    subst e
    exact ⟨h1, hL, h2, h3⟩
  · obtain ⟨o, es, ep, ho, r⟩ := hm
    exact ⟨o, es, ep, k _ o (Ne.symm hL) ho, r⟩
  · refine (I.hok b u e).stay (fun c v hc q => k c v ?_ q) (fun _ q => q) fun _ _ q => q
    rcases hc with z | z
    · rw [z]; exact nit b u e
    · exact nit c _ z
theorem Inv.tok (I : Inv X pins σ H s) (t : Nat) : Inv X pins σ H { s with toks := t } := I.un (h' := s.heap) (t' := t) Un.refl I.hok
/-- all objects kept -/
theorem Inv.kept {t' : Nat} (I : Inv X pins σ H s) (k : ∀ b u, s.heap.get? b = some u → h'.get? b = some u) : Inv X pins σ H { s with heap := h', toks := t' } := I.un (Un.kept k) (I.hok.kept k)
/-- a new object laid and tracked -/
theorem Inv.laid {a : Addr} {o : HO} {t' : Nat} (I : Inv X pins σ H s) (k : ∀ b u, s.heap.get? b = some u → h'.get? b = some u) (hp : s.heap.objs.size ≤ a) (new : ObjOk X.prog X.w (upd H a o) h' a o) :
    Inv X pins σ (upd H a o) { s with heap := h', toks := t' } := I.un (Un.laid k hp (I.hok.fresh hp)) (I.hok.laid k hp new)
/-- an object written -/
theorem Inv.write {x e : Addr} {o : HO} {t' : Nat} (I : Inv X pins σ H s) (mu : Mut (H x)) (he : e = x ∨ H e = some (.own x)) (k : ∀ b u, b ≠ e → s.heap.get? b = some u → h'.get? b = some u) (heo : ∃ u, h'.get? e = some u)
    (new : ObjOk X.prog X.w (upd H x o) h' x o) : Inv X pins σ (upd H x o) { s with heap := h', toks := t' } := I.un (Un.write mu he k heo) (I.hok.write mu he k heo new)
theorem Inv.pins_of {pins' : List (Addr × Obj)} (I : Inv X pins σ H s) (h : ∀ p ∈ pins', s.heap.get? p.1 = some p.2 ∧ H p.1 = none ∧ p.1 ≠ X.env.locals ∧ p.1 ∉ X.fs ∧ ∀ v, p.2.data ≠ .cell v) : Inv X pins' σ H s :=
  ⟨I.ok, I.os, I.bare, I.base, I.loc, I.cell, I.free, I.freeC, fun p hp => (List.mem_append.mp hp).elim (fun z => I.pin p (List.mem_append_left _ z)) (h p), I.hok, I.len⟩

theorem nodup_ix {N : List Str} (hN : N.Nodup) {i j : Nat} {x : Str} (a : N[i]? = some x) (b : N[j]? = some x) : i = j := by
  obtain ⟨h1, e1⟩ := List.getElem?_eq_some_iff.mp a
  obtain ⟨h2, e2⟩ := List.getElem?_eq_some_iff.mp b
  exact (List.getElem_inj hN).mp (e1.trans e2.symm)

/-- a name is stored; what changed -/
theorem store_ok2 {M : Model} {A : Around} {E : Value → Shared → Prop} {i : Nat} {x : Str} {v : V} {u : Value} {Q : Unit → Shared → Prop} (I : Inv X pins σ H s) (hN : X.N.Nodup) (hi : X.N[i]? = some x) (hx : Loc X.env.scope x) (r : RelV v u)
    (h : ∀ s', Inv X pins (σ.set i (some v)) H s' → (∃ a, Heap.SameBut a s.heap s'.heap ∧ (a = X.env.locals ∨ X.env.cells.lookup x = some a)) → Q () s') (hf : X.fn x = true ∨ X.env.scope.names.lookup x = some .local := by first | exact .inl rfl | exact .inr rfl | assumption) : wpAny M A (storeName X.env x u) Q E s := by
  obtain ⟨m, hn, hl⟩ := id I.loc
  have hcls : (X.env.scope.kind == .class || (X.env.scope.kind == .module && X.env.locals != X.env.globals)) = false := by rw [I.ok.kind]; rfl
  have hiσ : i < σ.length := by rw [I.len]; exact (List.getElem?_eq_some_iff.mp hi).1
  have cne := I.cne
  have tracked : ∀ {a : Addr} {h' : Heap}, (∃ o, s.heap.get? a = some o ∧ H a = none) → Heap.SameBut a s.heap h' → HOk X.prog X.w H h' := fun {a h'} ha hs b ob e => by
    obtain ⟨_, _, hfree⟩ := ha
    refine (I.hok b ob e).stay (fun c w' hc q => (hs.2 c ?_).trans q) (fun _ q => q) fun _ _ q => q
    rintro rfl
    rcases hc with rfl | hc
    · rw [hfree] at e; cases e
    · rw [hfree] at hc; cases hc
  rcases hx with hk | hk
  · refine wpAny_storeName_local hk hn (fun h' hn' hs => ?_) hcls
    obtain ⟨oL, _, _, hoL, _⟩ := id hn
    refine h _ ⟨I.ok, I.os, I.bare, ⟨fun b o e n hb hx => ?_, fun b o e n hb hx => ?_, I.base.free, fun b o e hx => ?_, I.base.tups, I.base.frzs, I.base.tbls⟩, ⟨_, hn', fun j y v' e1 e2 e3 => ?_⟩, fun y c e => ?_, I.free, I.freeC, fun p hp => ?_, tracked ⟨oL, hoL, I.free⟩ hs, by simpa using I.len⟩ ⟨_, hs, .inl rfl⟩
    · exact (hs.2 b (Nat.ne_of_lt (Nat.lt_of_lt_of_le (Heap.lt_size e) I.ok.above))).trans (I.base.keep b o e n hb hx)
    · obtain ⟨sl, e1⟩ := I.base.slot b o e n hb hx
      exact ⟨sl, (hs.2 b (Nat.ne_of_lt (Nat.lt_of_lt_of_le (Heap.lt_size e) I.ok.above))).trans e1⟩
    · obtain ⟨o', e1⟩ := I.base.there b o e hx
      exact ⟨o', (hs.2 b (Nat.ne_of_lt (Nat.lt_of_lt_of_le (Heap.lt_size e) I.ok.above))).trans e1⟩
    · by_cases hj : j = i
      · subst hj
        rw [hi] at e1; cases e1
        rw [List.getElem?_set_self hiσ] at e2
        cases e2
        exact ⟨u, r, .inl ⟨hk, by simp⟩⟩
      · rw [List.getElem?_set_ne (Ne.symm hj)] at e2
        obtain ⟨u', r', q⟩ := hl j y v' e1 e2 e3
        refine ⟨u', r', ?_⟩
        rcases q with ⟨k, e⟩ | ⟨k, c, e, z⟩
        · refine .inl ⟨k, ?_⟩
          have : y ≠ x := fun e => hj (nodup_ix hN e1 (e ▸ hi))
          simp [this, e]
        · exact .inr ⟨k, c, e, z.sameBut hs (cne y c e)⟩
    · obtain ⟨w', z⟩ := I.cell y c e
      exact ⟨w', z.sameBut hs (cne y c e)⟩
    · obtain ⟨e, n, ne, nf, d⟩ := I.pin p hp
      exact ⟨(hs.2 p.1 ne).trans e, n, ne, nf, d⟩
  · have hfn : X.fn x = true := by
      rcases hf with z | z
      · exact z
      · rw [z] at hk; cases hk
    obtain ⟨c, hc⟩ := I.ok.has x (.inl hk)
    obtain ⟨w', z⟩ := I.cell x c hc
    refine wpAny_storeName_cell I.ok.kind hk hc z (fun h' hc' hs => ?_)
    obtain ⟨oc, hoc, hocd⟩ := id z
    refine h { s with heap := h' } ⟨I.ok, I.os, I.bare, ⟨fun b o e n hb hx => ?_, fun b o e n hb hx => ?_, I.base.free, fun b o e hx => ?_, I.base.tups, I.base.frzs, I.base.tbls⟩, ⟨m, hn.sameBut hs (Ne.symm (cne x c hc)), fun j y v' e1 e2 e3 => ?_⟩, fun y c' e => ?_, I.free, I.freeC, fun p hp => ?_, tracked ⟨oc, hoc, I.freeC x c hc⟩ hs, by simpa using I.len⟩ ⟨c, hs, .inr hc⟩
    · exact (hs.2 b (Nat.ne_of_lt (Nat.lt_of_lt_of_le (Heap.lt_size e) (I.ok.cab x c hfn hc)))).trans (I.base.keep b o e n hb hx)
    · obtain ⟨sl, e1⟩ := I.base.slot b o e n hb hx
      exact ⟨sl, (hs.2 b (Nat.ne_of_lt (Nat.lt_of_lt_of_le (Heap.lt_size e) (I.ok.cab x c hfn hc)))).trans e1⟩
    · obtain ⟨o', e1⟩ := I.base.there b o e hx
      exact ⟨o', (hs.2 b (Nat.ne_of_lt (Nat.lt_of_lt_of_le (Heap.lt_size e) (I.ok.cab x c hfn hc)))).trans e1⟩
    · by_cases hj : j = i
      · subst hj
        rw [hi] at e1; cases e1
        rw [List.getElem?_set_self hiσ] at e2
        cases e2
        exact ⟨u, r, .inr ⟨.inl hk, c, hc, hc'⟩⟩
      · rw [List.getElem?_set_ne (Ne.symm hj)] at e2
        obtain ⟨u', r', q⟩ := hl j y v' e1 e2 e3
        refine ⟨u', r', ?_⟩
        rcases q with q | ⟨k, c', e, z'⟩
        · exact .inl q
        · refine .inr ⟨k, c', e, z'.sameBut hs ?_⟩
          rintro rfl
          exact hj (nodup_ix hN e1 (I.ok.inj _ _ _ e hc ▸ hi))
    · by_cases hcc : c' = c
      · subst hcc; exact ⟨_, hc'⟩
      · obtain ⟨w2, z2⟩ := I.cell y c' e
        exact ⟨w2, z2.sameBut hs hcc⟩
    · obtain ⟨e, n, ne, nf, d⟩ := I.pin p hp
      refine ⟨(hs.2 p.1 ?_).trans e, n, ne, nf, d⟩
      intro q
      rw [q, hoc] at e
      have q' : oc = p.2 := Option.some.inj e
      exact d w' (by rw [← q']; exact hocd)
theorem store_ok {M : Model} {A : Around} {E : Value → Shared → Prop} {i : Nat} {x : Str} {v : V} {u : Value} {Q : Unit → Shared → Prop} (I : Inv X pins σ H s) (hN : X.N.Nodup) (hi : X.N[i]? = some x) (hx : Loc X.env.scope x) (r : RelV v u)
    (h : ∀ s', Inv X pins (σ.set i (some v)) H s' → Q () s') (hf : X.fn x = true ∨ X.env.scope.names.lookup x = some .local := by first | exact .inl rfl | exact .inr rfl | assumption) : wpAny M A (storeName X.env x u) Q E s :=
  store_ok2 I hN hi hx r (fun s' I' _ => h s' I') hf
/-- behind a call or a block, the state as it is -/
theorem Inv.call' {s' : Shared} {ch : List Addr} (I : Inv X pins σ H s) (ho : s'.os = s.os) (u : Un (frs X.stack) ch H H' s.heap s'.heap) (hok : HOk X.prog X.w H' s'.heap) (hg : AllBare s'.gens)
    (hch : ∀ b ∈ ch, (b ∈ X.ex ∨ X.s₀.heap.objs.size ≤ b) ∧ b ≠ X.env.locals ∧ (∀ x c, X.env.cells.lookup x = some c → c ≠ b) ∧ ∀ p ∈ X.pn ++ pins, p.1 ≠ b) : Inv X pins σ H' s' := by
  obtain ⟨h', g', d', t', o'⟩ := s'
  have e : o' = s.os := ho
  subst e
  exact I.call (g' := g') (t' := t') (d' := d') u hok hg hch
end

/-! ### the judgements -/
/-- an exception: its class, its own dict's address (where it has one), the abstract heap behind it -/
abbrev XK := Value → Option Addr → Hp → Prop
abbrev St := List (Option V)
abbrev VK := V → Hp → Prop
/-- an expression's reading; a test's; an argument list's -/
abbrev TE := St → Hp → VK → Prop
abbrev TT := St → Hp → (Bool → Hp → Prop) → Prop
abbrev TA := St → Hp → (List V → Hp → Prop) → Prop
/-- what is wanted behind a statement -/
structure Ends where
  nx : St → Hp → Prop
  rt : VK
  bk : St → Hp → Prop := fun _ _ => False
  ct : St → Hp → Prop := fun _ _ => False
abbrev TS := Ends → St → Hp → Prop

def EP (X : Cx) (pins : List (Addr × Obj)) (σ : St) (Q : VK) (u : Value) (s' : Shared) : Prop := ∃ v H', Inv X pins σ H' s' ∧ RelV v u ∧ Q v H'
def TP (X : Cx) (pins : List (Addr × Obj)) (σ : St) (Q : Bool → Hp → Prop) (b : Bool) (s' : Shared) : Prop := ∃ H', Inv X pins σ H' s' ∧ Q b H'
def AP (X : Cx) (pins : List (Addr × Obj)) (σ : St) (Q : List V → Hp → Prop) (us : List Value) (s' : Shared) : Prop := ∃ vs H', Inv X pins σ H' s' ∧ Vals vs us ∧ Q vs H'
def SP (X : Cx) (pins : List (Addr × Obj)) (D : Ends) (f : Flow) (s' : Shared) : Prop :=
  match f with
  | .next => ∃ σ' H', Inv X pins σ' H' s' ∧ D.nx σ' H'
  | .brk => ∃ σ' H', Inv X pins σ' H' s' ∧ D.bk σ' H'
  | .cont => ∃ σ' H', Inv X pins σ' H' s' ∧ D.ct σ' H'
  | .ret u => ∃ v σ' H', Inv X pins σ' H' s' ∧ RelV v u ∧ D.rt v H'

def PE (X : Cx) (e : Expr) (t : TE) : Prop :=
  ∀ (pins : List (Addr × Obj)) (s : Shared) (σ : St) (H : Hp) (Q : VK), Inv X pins σ H s → t σ H Q → wpAny (model X.prog X.w) X.A (eval e X.env) (EP X pins σ Q) X.xe s
def PT (X : Cx) (e : Expr) (t : TT) : Prop :=
  ∀ (pins : List (Addr × Obj)) (s : Shared) (σ : St) (H : Hp) (Q : Bool → Hp → Prop), Inv X pins σ H s → t σ H Q → wpAny (model X.prog X.w) X.A (isTrue e X.env (eval e X.env)) (TP X pins σ Q) X.xe s
/-- a test whatever its 'whole' is (and, or) -/
def PW (X : Cx) (e : Expr) (t : TT) : Prop :=
  ∀ (whole : Sem Value) (pins : List (Addr × Obj)) (s : Shared) (σ : St) (H : Hp) (Q : Bool → Hp → Prop), Inv X pins σ H s → t σ H Q → wpAny (model X.prog X.w) X.A (isTrue e X.env whole) (TP X pins σ Q) X.xe s
theorem PW.pt {X : Cx} {e : Expr} {t : TT} (h : PW X e t) : PT X e t := h _
/-- an argument list (no star), from the left -/
def PA (X : Cx) (es : List Expr) (t : TA) : Prop :=
  ∀ (pos : Pos) (pins : List (Addr × Obj)) (s : Shared) (σ : St) (H : Hp) (Q : List V → Hp → Prop), Inv X pins σ H s → t σ H Q → wpAny (model X.prog X.w) X.A (spliced (backTo pos (starEach es X.env))) (AP X pins σ Q) X.xe s
def PS (X : Cx) (st : Stmt) (t : TS) : Prop :=
  ∀ (pins : List (Addr × Obj)) (s : Shared) (σ : St) (H : Hp) (D : Ends), Inv X pins σ H s → t D σ H → wpAny (model X.prog X.w) X.A (exec st X.env) (SP X pins D) X.xe s
def PSs (X : Cx) (st : List Stmt) (t : TS) : Prop :=
  ∀ (pins : List (Addr × Obj)) (s : Shared) (σ : St) (H : Hp) (D : Ends), Inv X pins σ H s → t D σ H → wpAny (model X.prog X.w) X.A (execs st X.env) (SP X pins D) X.xe s
/-- weaken the end -/
theorem thn {α : Type} {t : Sem α} {Q Q' : α → Shared → Prop} {M : Model} {A : Around} {E : Value → Shared → Prop} {s : Shared} (h : wpAny M A t Q E s) (hQ : ∀ a s, Q a s → Q' a s) : wpAny M A t Q' E s := wpAny_mono h hQ fun _ _ x => x
end L2

namespace L2
open PySem PySem.Spec PyProof.Rows
section
variable {X : Cx}


/-! ### names and constants -/
def tVar (i : Nat) : TE := fun σ H Q => ∃ v, σ[i]? = some (some v) ∧ Q v H
def tC (v : V) : TE := fun _ H Q => Q v H
theorem pe_var {i : Nat} {x : Str} {pos : Pos} (hN : X.N[i]? = some x) (hv : Vis X.env.scope x) (hd : (x == ("__debug__" : Str)) = false := by decide) (hcd : (x == ("__classdict__" : Str)) = false := by decide) : PE X (.Name x pos) (tVar i) := by
  intro pins s σ H Q I h
  obtain ⟨v, e, h⟩ := h
  obtain ⟨m, hn, hl⟩ := I.loc
  obtain ⟨u, r, l⟩ := hl i x v hN e hv
  have fin : EP X pins σ Q u s := ⟨v, H, I, r, h⟩
  rcases l with ⟨hk, hm⟩ | ⟨hk, c, hc, hcell⟩
  · exact wpAny_Name (wpAny_loadName_local I.ok.kind hk hn hm fin) hd
  · rcases hk with hk | hk
    · exact wpAny_Name (wpAny_loadName_cell I.ok.kind hk hc hcell fin) hd
    · exact wpAny_Name (wpAny_loadName_free I.ok.kind hk hc hcell fin hcd) hd
theorem pe_int {i j pos} : PE X (.Constant (.int i) j pos) (tC (.int i)) := fun _ _ _ H _ I h => wpAny_Constant_int ⟨.int i, H, I.tok _, ⟨_, rfl⟩, h⟩
theorem pe_bl {b j pos} : PE X (.Constant (.bool b) j pos) (tC (.bl b)) := fun _ _ _ H _ I h => Constant_bool ⟨.bl b, H, I, rfl, h⟩
theorem pe_non {j pos} : PE X (.Constant .none j pos) (tC .non) := fun _ _ _ H _ I h => Constant_none ⟨.non, H, I, rfl, h⟩
theorem pe_str {x j pos} : PE X (.Constant (.str x) j pos) (tC (.str x)) := fun _ _ _ H _ I h => Calls.Constant_str ⟨.str x, H, I.tok _, ⟨_, rfl⟩, h⟩

/-- a global name of the def -/
def Gl (X : Cx) (x : Str) : Prop := X.env.kindOf x = some .globalImplicit
theorem ld_glob {E : Value → Shared → Prop} {pins : List (Addr × Obj)} {s : Shared} {σ : St} {H : Hp} {x : Str} {u : Value} {pos : Pos} {Q : Value → Shared → Prop} (I : Inv X pins σ H s) (hg : Gl X x) (hm : X.mg x = some u) (h : Q u s)
    (hd : (x == ("__debug__" : Str)) = false := by decide) : wpAny (model X.prog X.w) X.A (eval (.Name x pos) X.env) Q E s :=
  Calls.Name_function_global I.ok.kind hg (Calls.loadGlobal_global (by rw [I.ok.glob]; exact I.mod.glob.keeps I.bk) hm h) hd
theorem ld_blt {E : Value → Shared → Prop} {pins : List (Addr × Obj)} {s : Shared} {σ : St} {H : Hp} {x : Str} {u : Value} {pos : Pos} {Q : Value → Shared → Prop} (I : Inv X pins σ H s) (hg : Gl X x) (hm : X.mg x = none) (hv : bootBuiltins x = some u) (h : Q u s)
    (hn : x ≠ "__name__" := by decide) (hd : (x == ("__debug__" : Str)) = false := by decide) : wpAny (model X.prog X.w) X.A (eval (.Name x pos) X.env) Q E s := by
  obtain ⟨mb, h1, h2⟩ := I.mod.blt
  exact Calls.Name_function_global I.ok.kind hg (Calls.loadGlobal_builtin (by rw [I.ok.glob]; exact I.mod.glob.keeps I.bk) hm (by rw [I.ok.blt]; exact h1.keeps I.bk) ((h2 x hn).trans hv) h) hd
/-- a module's constant, a class, a function, as a value -/
theorem pe_glob {x : Str} {v : V} {u : Value} {pos : Pos} (hg : Gl X x) (hm : X.mg x = some u) (r : RelV v u) (hd : (x == ("__debug__" : Str)) = false := by decide) : PE X (.Name x pos) (tC v) :=
  fun _ _ _ H _ I h => ld_glob I hg hm ⟨v, H, I, r, h⟩ hd
theorem pe_bltn {x : Str} {v : V} {u : Value} {pos : Pos} (hg : Gl X x) (hm : X.mg x = none) (hv : bootBuiltins x = some u) (r : RelV v u) (hn : x ≠ "__name__" := by decide) (hd : (x == ("__debug__" : Str)) = false := by decide) : PE X (.Name x pos) (tC v) :=
  fun _ _ _ H _ I h => ld_blt I hg hm hv ⟨v, H, I, r, h⟩ hn hd

/-! ### arithmetic -/
variable {a b : Expr} {ta tb : TE} {pos : Pos}

/-! ### comparisons -/
def PC (X : Cx) (op : CmpOp) (a b : Expr) (t : TE) : Prop :=
  ∀ (pins : List (Addr × Obj)) (s : Shared) (σ : St) (H : Hp) (Q : VK), Inv X pins σ H s → t σ H Q →
    wpAny (model X.prog X.w) X.A (eval a X.env) (fun v s₁ => wpAny (model X.prog X.w) X.A (eval b X.env) (fun u s₂ => wpAny (model X.prog X.w) X.A (compareOp op v u) (EP X pins σ Q) X.xe s₂) X.xe s₁) X.xe s
/-- a comparison as a value, as a test -/
def tB (t : TE) : TT := fun σ H Q => t σ H fun x H1 => ∃ c, x = .bl c ∧ Q c H1
theorem pt_cmp {op : CmpOp} {t : TE} (h : PC X op a b t) (h1 : behindInMarks op b = false := by first | exact nobehind _ (by decide) (by decide) | rfl) : PT X (.Compare a [op] [b] pos) (tB t) := by
  intro pins s σ H Q I hw
  refine wpAny_isTrue_Compare1 (thn (h pins s σ H _ I hw) fun v s1 h1 => thn h1 fun u s2 h2 => thn h2 fun c s3 ⟨x, H1, I1, r1, q1⟩ => ?_) h1
  obtain ⟨d, rfl, q⟩ := q1
  cases r1
  exact wpAny_truthy_bool ⟨H1, I1, q⟩
/-- an expression whose value is a bool, as a test -/
theorem pt_val {e : Expr} {t : TE} (h : PE X e t) (he : ∀ whole, isTrue e X.env whole = (do let v ← whole; standAt e.pos; holding [v] (truthy v)) := by intro _; rfl) : PT X e (tB t) := by
  intro pins s σ H Q I hw
  refine isTrue_plain (thn (h pins s σ H _ I hw) fun v s1 ⟨x, H1, I1, r1, q1⟩ => ?_) (he _)
  obtain ⟨d, rfl, q⟩ := q1
  cases r1
  exact wpAny_truthy_bool ⟨H1, I1, q⟩

/-! ### and, or, not -/
variable {tA tB' : TT} {rest : List Expr}
def tAnd (t u : TT) : TT := fun σ H Q => t σ H fun c H1 => if c = true then u σ H1 Q else Q false H1
def tOr (t u : TT) : TT := fun σ H Q => t σ H fun c H1 => if c = true then Q true H1 else u σ H1 Q
def tNot (t : TT) : TT := fun σ H Q => t σ H fun c H1 => Q (!c) H1
theorem pw_and1 (ha : PT X a tA) : PW X (.BoolOp .And [a] pos) tA := by
  intro wh pins s σ H Q I h
  refine isTrue_and (thn (ha pins s σ H Q I h) fun c s1 e => ?_)
  cases c with
  | true => exact isTrue_and_nil e
  | false => exact e
theorem pw_or1 (ha : PT X a tA) : PW X (.BoolOp .Or [a] pos) tA := by
  intro wh pins s σ H Q I h
  refine isTrue_or (thn (ha pins s σ H Q I h) fun c s1 e => ?_)
  cases c with
  | false => exact isTrue_or_nil e
  | true => exact e
theorem pw_and (ha : PT X a tA) (hb : PW X (.BoolOp .And (b :: rest) pos) tB') : PW X (.BoolOp .And (a :: b :: rest) pos) (tAnd tA tB') := by
  intro wh pins s σ H Q I h
  refine isTrue_and (thn (ha pins s σ H _ I h) fun c s1 ⟨H1, I1, q1⟩ => ?_)
  cases c with
  | true => exact hb wh pins s1 σ H1 Q I1 q1
  | false => exact ⟨H1, I1, q1⟩
theorem pw_or (ha : PT X a tA) (hb : PW X (.BoolOp .Or (b :: rest) pos) tB') : PW X (.BoolOp .Or (a :: b :: rest) pos) (tOr tA tB') := by
  intro wh pins s σ H Q I h
  refine isTrue_or (thn (ha pins s σ H _ I h) fun c s1 ⟨H1, I1, q1⟩ => ?_)
  cases c with
  | true => exact ⟨H1, I1, q1⟩
  | false => exact hb wh pins s1 σ H1 Q I1 q1
theorem pt_not (ha : PT X a tA) : PT X (.UnaryOp .Not a pos) (tNot tA) := by
  intro pins s σ H Q I h
  exact isTrue_not (ha pins s σ H (fun c H1 => Q (!c) H1) I h)
/-- .. as values (bools) -/
def tAndV (ta tb : TE) : TE := fun σ H Q => ta σ H fun x H1 => ∃ c, x = .bl c ∧ if c = true then tb σ H1 Q else Q (.bl false) H1
def tNotV (ta : TE) : TE := fun σ H Q => ta σ H fun x H1 => ∃ c, x = .bl c ∧ Q (.bl (!c)) H1
theorem pe_one {op} {t : TE} (h : PE X a t) : PE X (.BoolOp op [a] pos) t := fun pins s σ H Q I hw => BoolOp_one (h pins s σ H Q I hw)
theorem pe_and (ha : PE X a ta) (hb : PE X (.BoolOp .And (b :: rest) pos) tb) : PE X (.BoolOp .And (a :: b :: rest) pos) (tAndV ta tb) := by
  intro pins s σ H Q I h
  refine BoolOp_and (thn (ha pins s σ H _ I h) fun v s1 ⟨x, H1, I1, r1, q1⟩ => ?_)
  obtain ⟨c, rfl, q1⟩ := q1
  cases r1
  refine wpAny_truthy_bool ?_
  cases c with
  | true => exact hb pins s1 σ H1 Q I1 q1
  | false => exact ⟨.bl false, H1, I1, rfl, q1⟩
theorem pe_not (ha : PE X a ta) : PE X (.UnaryOp .Not a pos) (tNotV ta) := by
  intro pins s σ H Q I h
  refine UnaryOp_ (thn (ha pins s σ H _ I h) fun v s1 ⟨x, H1, I1, r1, q1⟩ => ?_)
  obtain ⟨c, rfl, q1⟩ := q1
  cases r1
  exact not_of (wpAny_truthy_bool ⟨.bl (!c), H1, I1, rfl, q1⟩)
end
end L2

namespace L2
open PySem PySem.Spec PyProof.Rows

/-! ### a list, a tuple that is read: tracked, frozen, or an object of the module -/
def SqL (K : PySem.W.Frag) (H : Hp) (a : Addr) (xs : List V) : Prop :=
  Rd H a (.lst xs) ∨
    ∃ (o : Obj) (its : Array Value) (n : Nat), K.lookup a = some o ∧ o.cls = .type "list" ∧ o.dict = none ∧ o.data = .seq its n ∧ its.size ≤ sizeLine ∧ Vals xs its.toList
def SqT (K : PySem.W.Frag) (H : Hp) (a : Addr) (xs : List V) : Prop :=
  Rd H a (.tup xs) ∨
    ∃ (o : Obj) (its : Array Value) (n : Nat), K.lookup a = some o ∧ o.cls = .type "tuple" ∧ o.data = .seq its n ∧ its.size ≤ sizeLine ∧ Vals xs its.toList
def absV : Value → Option V
  | .none => some .non
  | .bool b => some (.bl b)
  | .int i _ => some (.int i)
  | .str x _ => some (.str x)
  | .bytes b _ => some (.byt b)
  | .float b _ => some (.flt b)
  | .ref a => some (.ref a)
  | .type n => some (.ty n)
  | _ => none
theorem RelV.abs {x : V} {u : Value} (r : RelV x u) : absV u = some x := by
  cases x with
  | non => cases r; rfl
  | bl _ => cases r; rfl
  | int _ => obtain ⟨t, rfl⟩ := r; rfl
  | str _ => obtain ⟨t, rfl⟩ := r; rfl
  | byt _ => obtain ⟨t, rfl⟩ := r; rfl
  | flt _ => obtain ⟨t, rfl⟩ := r; rfl
  | ref _ => cases r; rfl
  | ty _ => cases r; rfl
theorem RelV.inj {x y : V} {u : Value} (r : RelV x u) (q : RelV y u) : x = y := Option.some.inj (r.abs.symm.trans q.abs)
theorem Vals.inj : ∀ {xs ys : List V} {us : List Value}, Vals xs us → Vals ys us → xs = ys
  | _, _, _, .nil, .nil => rfl
  | _, _, _, .cons r t, .cons r' t' => by rw [r.inj r', Vals.inj t t']
section
variable {X : Cx} {pins : List (Addr × Obj)} {σ : St} {H : Hp} {s : Shared} {a : Addr} {xs ys : List V}
theorem SqL.of {K : PySem.W.Frag} (h : H a = some (.lst xs)) : SqL K H a xs := .inl (.inl h)
theorem SqT.of {K : PySem.W.Frag} (h : H a = some (.tup xs)) : SqT K H a xs := .inl (.inl h)
theorem Inv.list (I : Inv X pins σ H s) (h : SqL X.K H a xs) : ∃ its : List Value, Vals xs its ∧ PlainL s.heap a its.toArray ∧ xs.length ≤ sizeLine := by
  rcases h with h | ⟨o, its, n, hk, hc, hd, hs, hz, r⟩
  · obtain ⟨z, its, n, r, e⟩ := h.ok I.hok
    exact ⟨its, r, ⟨_, n, e, rfl, rfl, rfl⟩, z⟩
  · refine ⟨its.toList, r, ⟨o, n, I.kIn a o hk, hc, hd, by simpa using hs⟩, ?_⟩
    have e := r.length
    simp only [Array.length_toList] at e
    omega
theorem Inv.tuple (I : Inv X pins σ H s) (h : SqT X.K H a xs) : ∃ its : List Value, Vals xs its ∧ IsTup s.heap a its.toArray ∧ xs.length ≤ sizeLine := by
  rcases h with h | ⟨o, its, n, hk, hc, hs, hz, r⟩
  · obtain ⟨z, its, r, p⟩ := h.ok I.hok
    exact ⟨its, r, p, z⟩
  · refine ⟨its.toList, r, ⟨o, I.kIn a o hk, hc, n, by simpa using hs⟩, ?_⟩
    have e := r.length
    simp only [Array.length_toList] at e
    omega
theorem Inv.list_inj (I : Inv X pins σ H s) (h : SqL X.K H a xs) (h' : SqL X.K H a ys) : xs = ys := by
  obtain ⟨its, r, ⟨o, n, e, _, _, d⟩, _⟩ := I.list h
  obtain ⟨its', r', ⟨o', n', e', _, _, d'⟩, _⟩ := I.list h'
  rw [e] at e'; cases e'
  rw [d] at d'
  injection d' with d1 _
  have : its = its' := by simpa using congrArg Array.toList d1
  subst this
  exact r.inj r'
end

/-! ### another wish about exceptions -/
abbrev Cx.wish (X : Cx) (E : Value → Shared → Prop) : Cx := { X with xe := E }
/-- no exception leaves -/
abbrev Cx.nox (X : Cx) : Cx := X.wish fun _ _ => False
theorem Cx.Ok.wish {X : Cx} (ok : X.Ok) (E : Value → Shared → Prop) : (X.wish E).Ok :=
  ⟨ok.mod, ok.kind, ok.glob, ok.blt, ok.above, ok.inj, ok.has, ok.cab, ok.hd, ok.frames, ok.stk, ok.exf, ok.bs, ok.bsz, ok.noex, ok.exfs, ok.funs, ok.frf⟩
theorem Cx.Ok.unwish {X : Cx} {E : Value → Shared → Prop} (ok : (X.wish E).Ok) : X.Ok :=
  ⟨ok.mod, ok.kind, ok.glob, ok.blt, ok.above, ok.inj, ok.has, ok.cab, ok.hd, ok.frames, ok.stk, ok.exf, ok.bs, ok.bsz, ok.noex, ok.exfs, ok.funs, ok.frf⟩
section
variable {X : Cx} {pins : List (Addr × Obj)} {σ : St} {H : Hp} {s : Shared} {E : Value → Shared → Prop}
theorem Inv.wish (I : Inv X pins σ H s) (E : Value → Shared → Prop) : Inv (X.wish E) pins σ H s := ⟨I.ok.wish E, I.os, I.bare, I.base, I.loc, I.cell, I.free, I.freeC, I.pin, I.hok, I.len⟩
theorem Inv.unwish (I : Inv (X.wish E) pins σ H s) : Inv X pins σ H s := ⟨I.ok.unwish, I.os, I.bare, I.base, I.loc, I.cell, I.free, I.freeC, I.pin, I.hok, I.len⟩
theorem SP.unwish {D : Ends} {f : Flow} {s' : Shared} (h : SP (X.wish E) pins D f s') : SP X pins D f s' := by
  cases f with
  | next => obtain ⟨σ', H', I, q⟩ := h; exact ⟨σ', H', I.unwish, q⟩
  | brk => obtain ⟨σ', H', I, q⟩ := h; exact ⟨σ', H', I.unwish, q⟩
  | cont => obtain ⟨σ', H', I, q⟩ := h; exact ⟨σ', H', I.unwish, q⟩
  | ret u => obtain ⟨v, σ', H', I, r, q⟩ := h; exact ⟨v, σ', H', I.unwish, r, q⟩
theorem PSs.nox {st : List Stmt} {t : TS} (h : PSs X.nox st t) : PSs X st t := fun pins s σ H D I hw =>
  wpAny_mono (h pins s σ H D (I.wish _) hw) (fun _ _ q => q.unwish) fun _ _ z => False.elim z
end

/-! ### blocks and small statements -/
section
variable {X : Cx} {st : Stmt} {rest : List Stmt} {t u : TS} {e : Expr} {te : TE} {pos : Pos}
def tNext : TS := fun D σ H => D.nx σ H
def tSeq (t u : TS) : TS := fun D σ H => t { D with nx := u D } σ H
theorem pss_nil : PSs X [] tNext := fun _ _ σ H _ I h => wpAny_execs_nil ⟨σ, H, I, h⟩
theorem pss_cons (h1 : PS X st t) (h2 : PSs X rest u) : PSs X (st :: rest) (tSeq t u) := by
  intro pins s σ H D I h
  refine wpAny_execs_cons (thn (h1 pins s σ H { D with nx := u D } I h) fun f s1 q => ?_)
  cases f with
  | next =>
    obtain ⟨σ', H', I', q⟩ := q
    exact h2 pins s1 σ' H' D I' q
  | ret v => exact q
  | brk => exact q
  | cont => exact q
theorem pss_one (h1 : PS X st t) : PSs X [st] t := by
  intro pins s σ H D I h
  refine wpAny_execs_cons (thn (h1 pins s σ H D I h) fun f s1 q => ?_)
  cases f with
  | next => exact wpAny_execs_nil q
  | ret v => exact q
  | brk => exact q
  | cont => exact q
/-- in a def's body nothing is shown -/
theorem Inv.quiet {pins : List (Addr × Obj)} {σ : St} {H : Hp} {s : Shared} (I : Inv X pins σ H s) : interactive X.env = false := by simp [interactive, I.ok.kind]
/-- an expression whose value is dropped -/
def tDrop (te : TE) : TS := fun D σ H => te σ H fun _ H1 => D.nx σ H1
theorem ps_expr (he : PE X e te) (hs : swapsWith e none pos.line X.env = pure false := by rfl) : PS X (.Expr e pos) (tDrop te) := by
  intro pins s σ H D I h
  exact wpAny_Expr_any (thn (he pins s σ H _ I h) fun v s1 ⟨x, H1, I1, r1, q1⟩ => ⟨σ, H1, I1, q1⟩) I.quiet hs
def tRet (te : TE) : TS := fun D σ H => te σ H D.rt
theorem ps_ret (he : PE X e te) : PS X (.Return (some e) pos) (tRet te) := by
  intro pins s σ H D I h
  exact wpAny_Return_some (thn (he pins s σ H _ I h) fun v s1 ⟨x, H1, I1, r1, q1⟩ => ⟨x, σ, H1, I1, r1, q1⟩)
def tIfS (c : TT) (t u : TS) : TS := fun D σ H => c σ H fun b H1 => if b = true then t D σ H1 else u D σ H1
theorem ps_if {c : Expr} {a b : List Stmt} {tc : TT} (hc : PT X c tc) (ha : PSs X a t) (hb : PSs X b u) : PS X (.If c a b pos) (tIfS tc t u) := by
  intro pins s σ H D I h
  refine wpAny_If (thn (hc pins s σ H _ I h) fun d s1 ⟨H1, I1, q1⟩ => ?_)
  cases d with
  | true => exact ha pins s1 σ H1 D I1 q1
  | false => exact hb pins s1 σ H1 D I1 q1
/-- code that the proof never comes to -/
def tNever : TS := fun _ _ _ => False
theorem pss_never {sts : List Stmt} : PSs X sts tNever := fun _ _ _ _ _ _ h => h.elim
end

/-! ### targets -/
abbrev TG := V → St → Hp → (St → Hp → Prop) → Prop
abbrev TGs := List V → St → Hp → (St → Hp → Prop) → Prop
def PG (X : Cx) (target : Expr) (t : TG) : Prop :=
  ∀ (pins : List (Addr × Obj)) (s : Shared) (σ : St) (H : Hp) (v : V) (u : Value) (Q : St → Hp → Prop), Inv X pins σ H s → RelV v u → t v σ H Q →
    wpAny (model X.prog X.w) X.A (assign target X.env u) (fun _ s' => ∃ σ' H', Inv X pins σ' H' s' ∧ Q σ' H') X.xe s
/-- several targets, one after another -/
def PGs (X : Cx) (ts : List Expr) (t : TGs) : Prop :=
  ∀ (pins : List (Addr × Obj)) (s : Shared) (σ : St) (H : Hp) (vs : List V) (us : List Value) (Q : St → Hp → Prop), Inv X pins σ H s → Vals vs us → t vs σ H Q →
    wpAny (model X.prog X.w) X.A (assignInOrder ((assignEach ts X.env).map (·.2)) us) (fun _ s' => ∃ σ' H', Inv X pins σ' H' s' ∧ Q σ' H') X.xe s
/-- o[i] = v, by values -/
abbrev TSet := V → V → V → Hp → (Hp → Prop) → Prop
def PSet (X : Cx) (t : TSet) : Prop :=
  ∀ (pins : List (Addr × Obj)) (s : Shared) (σ : St) (H : Hp) (o i v : V) (ov iv u : Value) (Q : Hp → Prop), Inv X pins σ H s → RelV o ov → RelV i iv → RelV v u → t o i v H Q →
    wpAny (model X.prog X.w) X.A (setItem ov iv u) (fun _ s' => ∃ H', Inv X pins σ H' s' ∧ Q H') X.xe s
section
variable {X : Cx} {pos : Pos}
def gName (i : Nat) : TG := fun v σ H Q => Q (σ.set i (some v)) H
theorem pg_name {i : Nat} {x : Str} (hN : X.N.Nodup) (hi : X.N[i]? = some x) (hx : Loc X.env.scope x) (hf : X.fn x = true ∨ X.env.scope.names.lookup x = some .local := by first | exact .inl rfl | exact .inr rfl | assumption) : PG X (.Name x pos) (gName i) := by
  intro pins s σ H v u Q I r h
  exact wpAny_assign_Name (store_ok I hN hi hx r (fun s' I' => ⟨_, H, I', h⟩) hf)
def gNil : TGs := fun vs σ H Q => vs = [] ∧ Q σ H
def gCons (t : TG) (u : TGs) : TGs := fun vs σ H Q => ∃ v r, vs = v :: r ∧ t v σ H fun σ' H' => u r σ' H' Q
theorem pgs_nil : PGs X [] gNil := by
  intro pins s σ H vs us Q I r h
  obtain ⟨e, h⟩ := h
  subst e
  cases r
  exact assignInOrder_nil ⟨σ, H, I, h⟩
theorem pgs_cons {e : Expr} {es : List Expr} {t : TG} {u : TGs} (h1 : PG X e t) (h2 : PGs X es u)
    (hs : (assignEach (e :: es) X.env).map (·.2) = assign e X.env :: (assignEach es X.env).map (·.2) := by rfl) : PGs X (e :: es) (gCons t u) := by
  intro pins s σ H vs us Q I r h
  obtain ⟨v, vr, e1, h⟩ := h
  subst e1
  cases r with
  | cons r rr =>
    rw [hs]
    refine assignInOrder_cons (thn (h1 pins s σ H _ _ _ I r h) fun _ s1 ⟨σ1, H1, I1, q1⟩ => ?_)
    exact h2 pins s1 σ1 H1 _ _ Q I1 rr q1
/-- (a, b, ..) = a tuple of that length -/
def gTup (K : PySem.W.Frag) (n : Nat) (t : TGs) : TG := fun v σ H Q => ∃ a xs, v = .ref a ∧ SqT K H a xs ∧ xs.length = n ∧ t xs σ H Q
theorem pg_tup {es : List Expr} {k : Nat} {t : TGs} {n : Nat} (hc : X.calm = true) (h : PGs X es t)
    (hn : (assignEach es X.env).length = n := by rfl) (hst : (assignEach es X.env).findIdx? (·.1) = none := by rfl) : PG X (.Tuple es k pos) (gTup X.K n t) := by
  intro pins s σ H v u Q I r hw
  obtain ⟨a, xs, e1, hq, hl, hw⟩ := hw
  subst e1
  cases r
  obtain ⟨its, rv, ht, hz⟩ := I.tuple hq
  refine assign_Tuple_tuple (I.ok.hd hc) ht (by simp [hn, ← hl, rv.length]) hst fun h' hx => ?_
  have I1 : Inv X pins σ H { s with heap := h' } := I.kept (t' := s.toks) fun b o e => hx b o (Nat.ne_of_lt (Heap.lt_size e)) e
  exact h pins _ σ H xs _ Q I1 (by simpa using rv) hw
/-- o[i] = .. -/
def gSub (to ti : TE) (t : TSet) : TG := fun v σ H Q => to σ H fun o H1 => ti σ H1 fun i H2 => t o i v H2 fun H3 => Q σ H3
theorem pg_sub {o i : Expr} {to ti : TE} {t : TSet} (ho : PE X o to) (hi : PE X i ti) (hs : PSet X t)
    (ha : ∀ v, assign (.Subscript o i pos) X.env v = (do
      let ov ← holding [v] (eval o X.env)
      let iv ← holding [v, ov] (eval i X.env)
      standAt pos
      holding [v, ov, iv] (setItem ov iv v)
      release [v, ov, iv] []) := by intro _; rfl) : PG X (.Subscript o i pos) (gSub to ti t) := by
  intro pins s σ H v u Q I r h
  rw [ha]
  refine wpAny_bind (wpAny_holding (thn (ho pins s σ H _ I h) fun ov s1 ⟨x, H1, I1, r1, q1⟩ => ?_))
  refine wpAny_bind (wpAny_holding (thn (hi pins s1 σ H1 _ I1 q1) fun iv s2 ⟨y, H2, I2, r2, q2⟩ => ?_))
  refine wpAny_bind (wpAny_standAt (wpAny_bind (wpAny_holding (thn (hs pins s2 σ H2 x y v ov iv u _ I2 r1 r2 r q2) fun _ s3 ⟨H3, I3, q3⟩ => ?_))))
  exact wpAny_release ⟨σ, H3, I3, q3⟩
/-- target = value -/
def tAsg (te : TE) (g : TG) : TS := fun D σ H => te σ H fun x H1 => g x σ H1 D.nx
theorem ps_asg {tg e : Expr} {te : TE} {g : TG} (he : PE X e te) (hg : PG X tg g) (hs : swapsWithSole [tg] e pos.line X.env = pure false := by rfl) (hw : swappedStores [tg] e X.env = pure none := by rfl)
    (h1 : (assignEach [tg] X.env).map (·.2) = [assign tg X.env] := by rfl) : PS X (.Assign [tg] e pos) (tAsg te g) := by
  intro pins s σ H D I h
  refine wpAny_Assign_stores (thn (he pins s σ H _ I h) fun v s1 ⟨x, H1, I1, r1, q1⟩ => ?_) hs hw
  rw [h1]
  exact thn (hg pins s1 σ H1 x v _ I1 r1 q1) fun _ s2 q => q
/-- name = value -/
theorem ps_set {i : Nat} {x : Str} {e : Expr} {te : TE} {pos' : Pos} (hN : X.N.Nodup) (hi : X.N[i]? = some x) (hx : Loc X.env.scope x) (he : PE X e te) (hs : swapsWith e (some (.Name x pos')) pos.line X.env = pure false := by rfl) (hf : X.fn x = true ∨ X.env.scope.names.lookup x = some .local := by first | exact .inl rfl | exact .inr rfl | assumption) :
    PS X (.Assign [.Name x pos'] e pos) (tAsg te (gName i)) := by
  intro pins s σ H D I h
  refine wpAny_Assign_Name (thn (he pins s σ H _ I h) fun v s1 ⟨y, H1, I1, r1, q1⟩ => ?_) hs
  exact store_ok I1 hN hi hx r1 (fun s2 I2 => ⟨_, H1, I2, q1⟩) hf
end

/-! ### while -/
section
variable {X : Cx} {pos : Pos}
/-- the invariant W with its measure -/
def tWhile (c : TT) (tb : TS) : TS := fun D σ H => ∃ W : Nat → St → Hp → Prop, (∃ m, W m σ H) ∧ ∀ m σ H, W m σ H →
  c σ H fun b H1 => if b = true then ∃ N : St → Hp → Prop, (∀ σ' H', N σ' H' → ∃ m', m' < m ∧ W m' σ' H') ∧ tb { D with nx := N, ct := N, bk := D.nx } σ H1 else D.nx σ H1
theorem ps_while {c : Expr} {body : List Stmt} {tc : TT} {tb : TS} (hp : PassesOwn (model X.prog X.w) X.A X.env X.xe) (hc : PT X c tc) (hb : PSs X body tb) : PS X (.While c body [] pos) (tWhile tc tb) := by
  intro pins s σ H D I h
  obtain ⟨W, ⟨m0, w0⟩, turn⟩ := h
  refine wpAny_While (codeAny_whileLoop (fun n s' => ∃ σ' H', Inv X pins σ' H' s' ∧ W n σ' H') ?_ m0 ⟨σ, H, I, w0⟩)
  rintro n s1 ⟨σ1, H1, I1, w1⟩
  refine wpAny_passesOwn hp (thn (hc pins s1 σ1 H1 _ I1 (turn n σ1 H1 w1)) fun b s2 ⟨H2, I2, q2⟩ => ?_)
  cases b with
  | true =>
    obtain ⟨N, hN, q2⟩ := q2
    rw [if_pos rfl]
    refine wpAny_passesOwn hp (thn (hb pins s2 σ1 H2 _ I2 q2) fun f s3 q3 => ?_)
    cases f with
    | next =>
      obtain ⟨σ3, H3, I3, n3⟩ := q3
      obtain ⟨m', hm, w3⟩ := hN σ3 H3 n3
      exact ⟨m', hm, σ3, H3, I3, w3⟩
    | cont =>
      obtain ⟨σ3, H3, I3, n3⟩ := q3
      obtain ⟨m', hm, w3⟩ := hN σ3 H3 n3
      exact ⟨m', hm, σ3, H3, I3, w3⟩
    | brk => exact q3
    | ret v => exact q3
  | false =>
    rw [if_neg Bool.false_ne_true]
    exact wpAny_execs_nil ⟨σ1, H2, I2, q2⟩
end

/-! ### what a loop or a comprehension walks -/
/-- at turn i: it yields x (the heap may grow), or it stops -/
structure It where
  go : Nat → Hp → Prop
  yld : Nat → Hp → V → Hp → Prop
  stop : Nat → Hp → Prop
/-- the iterator's own objects may turn: they are not the frame's, not pinned, younger than the entry (or a comprehension's own) -/
def FpOk (X : Cx) (pins : List (Addr × Obj)) (H : Hp) (b : Addr) : Prop :=
  H b = none ∧ b ≠ X.env.locals ∧ b ∉ X.fs ∧ (b ∈ X.ex ∨ X.s₀.heap.objs.size ≤ b) ∧ (∀ x c, X.env.cells.lookup x = some c → c ≠ b) ∧ ∀ p ∈ X.pn ++ pins, p.1 ≠ b
theorem Inv.fpOk {X : Cx} {pins : List (Addr × Obj)} {σ : St} {H H' : Hp} {s : Shared} {b : Addr} (I : Inv X pins σ H s) (hb : s.heap.objs.size ≤ b) (hn : H' b = none) : FpOk X pins H' b := by
  refine ⟨hn, Nat.ne_of_gt (Nat.lt_of_lt_of_le I.lt hb), I.nofs hb, .inr (Nat.le_trans I.sz hb), fun x c e z => ?_, fun p hp z => ?_⟩
  · obtain ⟨v, q⟩ := I.cell x c e
    exact absurd (Nat.lt_of_lt_of_le q.lt (by rw [z]; exact hb)) (Nat.lt_irrefl _)
  · exact absurd (Nat.lt_of_lt_of_le (Heap.lt_size (I.pin p hp).1) (by rw [z]; exact hb)) (Nat.lt_irrefl _)
structure Turn (P : Program) (w : World) (K : PySem.W.Frag) (tg : Expr) (J : It) (fp : List Addr) (it : Addr) (tn : Nat → Heap → Prop) : Prop where
  mem : it ∈ fp
  obj : ∀ i h, tn i h → ∀ b ∈ fp, ∃ o, h.get? b = some o ∧ ∀ v, o.data ≠ .cell v
  keep : ∀ i h h', tn i h → (∀ b ∈ fp, ∀ o, h.get? b = some o → h'.get? b = some o) → tn i h'
  item : ∀ (X : Cx), X.prog = P → X.w = w → X.K = K → X.calm = true → ∀ (i : Nat) (pins : List (Addr × Obj)) (s : Shared) (σ : St) (H : Hp) (E : Value → Shared → Prop), Inv X pins σ H s → (∀ b ∈ fp, FpOk X pins H b) → tn i s.heap → J.go i H →
    wpAny (model P w) X.A (pyNext (.ref it)) (fun r s1 => ∃ u, r = some u ∧
      wpAny (model P w) X.A (letOwnedTupleGo tg (.ref it) u) (fun _ s2 => ∃ x H', Inv X pins σ H' s2 ∧ RelV x u ∧ J.yld i H x H' ∧ tn (i + 1) s2.heap ∧ ∀ b ∈ fp, H' b = none) E s1) E s
  done : ∀ (X : Cx), X.prog = P → X.w = w → X.K = K → X.calm = true → ∀ (i : Nat) (pins : List (Addr × Obj)) (s : Shared) (σ : St) (H : Hp) (E : Value → Shared → Prop), Inv X pins σ H s → (∀ b ∈ fp, FpOk X pins H b) → tn i s.heap → J.stop i H →
    wpAny (model P w) X.A (pyNext (.ref it)) (fun r s1 => r = none ∧ Inv X pins σ H s1) E s
  self : ∀ (A : Around) (i : Nat) (s : Shared) (Q : Value → Shared → Prop) (E : Value → Shared → Prop), tn i s.heap → Q (.ref it) s → wpAny (model P w) A (pyIter (.ref it)) Q E s
abbrev TI := St → Hp → (It → Hp → Prop) → Prop
/-- an iterator has come -/
def PIE (X : Cx) (pins : List (Addr × Obj)) (σ : St) (tg : Expr) (R : It → Hp → Prop) (itv : Value) (s2 : Shared) : Prop :=
  ∃ (it : Addr) (fp : List Addr) (tn : Nat → Heap → Prop) (J : It) (H' : Hp), itv = .ref it ∧ Inv X pins σ H' s2 ∧ Turn X.prog X.w X.K tg J fp it tn ∧ tn 0 s2.heap ∧ (∀ b ∈ fp, FpOk X pins H' b) ∧ R J H'
def PI (X : Cx) (tg iter : Expr) (wi : TI) : Prop :=
  ∀ (pins : List (Addr × Obj)) (s : Shared) (σ : St) (H : Hp) (R : It → Hp → Prop), Inv X pins σ H s → wi σ H R →
    wpAny (model X.prog X.w) X.A (eval iter X.env) (fun v s1 => wpAny (model X.prog X.w) X.A (pyIter v) (PIE X pins σ tg R) X.xe s1) X.xe s

/-- the step ahead of the store is nothing for an iterator that keeps no tuple -/
theorem go_of {M : Model} {A : Around} {E : Value → Shared → Prop} {s : Shared} {tg : Expr} {it : Addr} {u : Value} {o : Obj} {n : String} {vs : Array Value} {Q : Unit → Shared → Prop} (ho : s.heap.get? it = some o) (hc : o.cls = .type n) (hd : o.data = .fields vs)
    (hn : ["enumerate", "zip", "dict_itemiterator", "dict_reverseitemiterator", "odict_iterator", "itertools.zip_longest", "itertools.pairwise"].contains n = false) (hQ : Q () s) : wpAny M A (letOwnedTupleGo tg (.ref it) u) Q E s := by
  unfold letOwnedTupleGo
  cases tg <;> first
    | exact wpAny_pure hQ
    | (cases u <;> first
        | exact wpAny_pure hQ
        | (refine wpAny_bind (wpAny_load ho ?_)
           rw [hc, hd]
           show wpAny M A (if (["enumerate", "zip", "dict_itemiterator", "dict_reverseitemiterator", "odict_iterator", "itertools.zip_longest", "itertools.pairwise"].contains n && vs[0]? == some (rawInt _)) = true then _ else _) Q E s
           rw [if_neg (by intro h; rw [hn, Bool.false_and] at h; cases h)]
           exact wpAny_pure hQ))

/-- the list at a, as it stands at each turn (a loop may append to it) -/
def Itl (K : PySem.W.Frag) (a : Addr) : It :=
  ⟨fun i H => ∃ xs x, SqL K H a xs ∧ xs[i]? = some x, fun i H x H' => H' = H ∧ ∀ xs, SqL K H a xs → xs[i]? = some x, fun i H => ∃ xs, SqL K H a xs ∧ xs.length ≤ i⟩
/-- lo, lo + 1, .. (n of them) -/
def Itr (lo : Int) (n : Nat) : It := ⟨fun i _ => i < n, fun i H x H' => H' = H ∧ x = .int (lo + i), fun i _ => n ≤ i⟩
theorem turn_list {P : Program} {w : World} {K : PySem.W.Frag} {tg : Expr} (a it : Addr) : Turn P w K tg (Itl K a) [it] it (fun i h => h.IsListIter it a i) where
  mem := by simp
  obj := fun i h st b hb => by
    have e : b = it := by simpa using hb
    subst e
    obtain ⟨o, e, c, d⟩ := st
    exact ⟨o, e, fun v z => by rw [d] at z; cases z⟩
  keep := fun i h h' st k => st.at fun o e => k it (by simp) o e
  item := by
    intro X hP hw hK hc i pins s σ H E I hf st hg
    subst hP hw hK
    obtain ⟨xs, x, hq, hx⟩ := hg
    obtain ⟨its, rv, p, hz⟩ := I.list hq
    obtain ⟨u, hu, ru⟩ := rv.get hx
    obtain ⟨f0, f1, f2, f3, f4, f5⟩ := hf it (by simp)
    refine wpAny_pyNext_list_item st p.isList (x := u) (by simpa using hu) fun h' st' sb => ?_
    have I1 : Inv X pins σ H { s with heap := h' } := I.turned (t' := s.toks) (fun b o hb e => (sb.2 b hb).trans e) f0 f1 f3 f4 f5
    obtain ⟨o, e, c, d⟩ := id st'
    exact ⟨u, rfl, go_of (s := { s with heap := h' }) e c d (by decide) ⟨x, H, I1, ru, ⟨rfl, fun ys hy => by rw [I.list_inj hy hq]; exact hx⟩, st', fun b hb => (hf b hb).1⟩⟩
  done := by
    intro X hP hw hK hc i pins s σ H E I hf st hg
    subst hP hw hK
    obtain ⟨xs, hq, hx⟩ := hg
    obtain ⟨its, rv, p, hz⟩ := I.list hq
    obtain ⟨f0, f1, f2, f3, f4, f5⟩ := hf it (by simp)
    have hl := rv.length
    exact wpAny_pyNext_list_end (I.ok.hd hc) st p.isList (by simp; omega) fun h' eb => ⟨rfl, I.turned (t' := s.toks) (fun b o hb e => eb b o hb e) f0 f1 f3 f4 f5⟩
  self := fun _ _ _ _ _ st h => wpAny_pyIter_listiter st h
theorem turn_range {P : Program} {w : World} {K : PySem.W.Frag} {tg : Expr} (it : Addr) (lo : Int) (n : Nat) : Turn P w K tg (Itr lo n) [it] it (fun i h => IsRangeIter h it (lo + (i : Nat) * 1) ((n : Int) - (i : Nat)) 1) where
  mem := by simp
  obj := fun i h st b hb => by
    have e : b = it := by simpa using hb
    subst e
    exact ⟨_, st, fun v z => by
      have z' : Data.fields _ = Data.cell v := z
      cases z'⟩
  keep := fun i h h' st k => k it (by simp) _ st
  item := by
    intro X hP hw hK hc i pins s σ H E I hf st hg
    subst hP hw hK
    obtain ⟨f0, f1, f2, f3, f4, f5⟩ := hf it (by simp)
    have W := Walks.range (prog := X.prog) (w := X.w) (I.ok.hd hc) it lo 1 n
    refine W.item i s _ _ hg st fun v h' tk hv st' kk => ?_
    obtain ⟨t, rfl⟩ := hv
    have I1 : Inv X pins σ H { s with heap := h', toks := tk } := I.turned (fun b o hb e => kk b o (by simpa using hb) e) f0 f1 f3 f4 f5
    refine ⟨_, rfl, go_of (s := { s with heap := h', toks := tk }) (n := "range_iterator") st' rfl rfl (by decide) ⟨.int (lo + i), H, I1, ⟨t, ?_⟩, ⟨rfl, rfl⟩, st', fun b hb => (hf b hb).1⟩⟩
    rw [Int.mul_one]
  done := by
    intro X hP hw hK hc i pins s σ H E I hf st hg
    subst hP hw hK
    obtain ⟨f0, f1, f2, f3, f4, f5⟩ := hf it (by simp)
    exact wpAny_pyNext_range_end (I.ok.hd hc) st (by have : n ≤ i := hg; omega) fun h' eb => ⟨rfl, I.turned (t' := s.toks) (fun b o hb e => eb b o hb e) f0 f1 f3 f4 f5⟩
  self := fun _ _ _ _ _ st h => wpAny_pyIter_rangeiter st h
end L2

namespace L2
open PySem PySem.Spec PyProof.Rows
section
variable {X : Cx} {tg : Expr}
def iList (K : PySem.W.Frag) (tl : TE) : TI := fun σ H R => tl σ H fun x H1 => ∃ a, x = .ref a ∧ (∃ xs, SqL K H1 a xs) ∧ R (Itl K a) H1
theorem pi_list {l : Expr} {tl : TE} (hl : PE X l tl) : PI X tg l (iList X.K tl) := by
  intro pins s σ H R I h
  refine thn (hl pins s σ H _ I h) fun v s1 ⟨x, H1, I1, r1, q1⟩ => ?_
  obtain ⟨a, e, ⟨xs, hq⟩, q⟩ := q1
  subst e
  cases r1
  obtain ⟨its, rv, p, hz⟩ := I1.list hq
  refine wpAny_pyIter_list p.isList ?_
  refine ⟨s1.heap.objs.size, [s1.heap.objs.size], _, _, H1, rfl, I1.kept (t' := s1.toks) fun b o e => Heap.get?_push_of_some _ e, turn_list a _, ⟨_, Heap.get?_push_size _ rfl, rfl, rfl⟩, fun b hb => ?_, q⟩
  have e : b = s1.heap.objs.size := by simpa using hb
  subst e
  exact I1.fpOk (Nat.le_refl _) (I1.hok.fresh (Nat.le_refl _))
/-- a range object just made, walked -/
theorem range_it {pins : List (Addr × Obj)} {σ : St} {H : Hp} {s : Shared} {R : It → Hp → Prop} {E : Value → Shared → Prop} {lo hi : Int} {t u v : Tok} {tk : Nat} (I : Inv X pins σ H s) (h1 : -(2 ^ 62) ≤ lo) (h2 : lo < 2 ^ 62) (h3 : -(2 ^ 62) ≤ hi) (h4 : hi < 2 ^ 62)
    (q : R (Itr lo (hi - lo).toNat) H) : wpAny (model X.prog X.w) X.A (pyIter (.ref s.heap.objs.size)) (PIE X pins σ tg R) E { s with heap := s.heap.push { cls := .type "range", data := .fields #[.int lo t, .int hi u, .int 1 v] }, toks := tk } := by
  refine wpAny_pyIter_range (IsRange.new ..) (small_one h1 h2 h3 h4) ?_
  have I1 : Inv X pins σ H { s with heap := s.heap.push { cls := .type "range", data := .fields #[.int lo t, .int hi u, .int 1 v] }, toks := tk } := I.kept fun b o e => Heap.get?_push_of_some _ e
  refine ⟨(s.heap.push { cls := .type "range", data := .fields #[.int lo t, .int hi u, .int 1 v] }).objs.size, [(s.heap.push { cls := .type "range", data := .fields #[.int lo t, .int hi u, .int 1 v] }).objs.size], _, _, H, rfl,
    I1.kept (t' := tk) fun b o e => Heap.get?_push_of_some _ e, turn_range _ lo (hi - lo).toNat, ?_, fun b hb => ?_, q⟩
  · have e1 : lo + ((0 : Nat) : Int) * 1 = lo := by simp
    have e2 : (((hi - lo).toNat : Nat) : Int) - ((0 : Nat) : Int) = Builtin.Range.rangeSize lo hi 1 := by rw [rangeSize_one]; split <;> omega
    show IsRangeIter _ _ (lo + ((0 : Nat) : Int) * 1) ((((hi - lo).toNat : Nat) : Int) - ((0 : Nat) : Int)) 1
    rw [e1, e2]
    exact Heap.get?_push_size _ rfl
  · have e : b = (s.heap.push { cls := .type "range", data := .fields #[.int lo t, .int hi u, .int 1 v] }).objs.size := by simpa using hb
    subst e
    exact I1.fpOk (Nat.le_refl _) (I1.hok.fresh (Nat.le_refl _))
def iRng1 (ta : TA) : TI := fun σ H R => ta σ H fun vs H1 => ∃ j : Int, vs = [.int j] ∧ -(2 ^ 62) ≤ j ∧ j < 2 ^ 62 ∧ R (Itr 0 j.toNat) H1
theorem pi_range1 {a : Expr} {ta : TA} {p pos : Pos} (hg : Gl X "range") (hm : X.mg "range" = none) (ha : PA X [a] ta) (hs : starEach [a] X.env = [(false, eval a X.env)] := by rfl) : PI X tg (.Call (.Name "range" p) [a] [] pos) (iRng1 ta) := by
  intro pins s σ H R I h
  refine Call_ (ld_blt I hg hm boot_range (PyProof.Rows.callWith_type1 (thn (ha pos pins s σ H _ I h) fun us s1 ⟨vs, H1, I1, r1, q1⟩ => ?_) hs rfl))
  obtain ⟨j, e, q1, q2, q⟩ := q1
  subst e
  cases r1 with
  | cons r rr =>
    cases rr
    obtain ⟨t, rfl⟩ := r
    exact call_range_1 (range_it I1 (by omega) (by omega) q1 q2 (by simpa using q))

/-! ### for -/
/-- W: the invariant by the turn and a measure; N: what the body is to reach -/
def tFor (wi : TI) (g : TG) (tb : TS) : TS := fun D σ H => wi σ H fun J H1 => ∃ W : Nat → Nat → St → Hp → Prop, (∃ m, W 0 m σ H1) ∧ ∀ i m σ H, W i m σ H →
  (J.stop i H ∧ D.nx σ H) ∨ (J.go i H ∧ ∃ N : St → Hp → Prop, (∀ σ' H', N σ' H' → ∃ m', m' < m ∧ W (i + 1) m' σ' H') ∧ ∀ x H', J.yld i H x H' → g x σ H' fun σ2 H2 => tb { D with nx := N, ct := N, bk := D.nx } σ2 H2)
/-- the records at fp as they stand -/
def pinsAt (fp : List Addr) (h : Heap) : List (Addr × Obj) := fp.filterMap fun b => (h.get? b).map fun o => (b, o)
theorem mem_pinsAt {fp : List Addr} {h : Heap} {b : Addr} {o : Obj} (hb : b ∈ fp) (e : h.get? b = some o) : (b, o) ∈ pinsAt fp h := List.mem_filterMap.mpr ⟨b, hb, by rw [e]; rfl⟩
theorem of_pinsAt {fp : List Addr} {h : Heap} {p : Addr × Obj} (hp : p ∈ pinsAt fp h) : p.1 ∈ fp ∧ h.get? p.1 = some p.2 := by
  obtain ⟨b, hb, e⟩ := List.mem_filterMap.mp hp
  cases q : h.get? b with
  | none => rw [q] at e; cases e
  | some o =>
    rw [q] at e
    have e' : (b, o) = p := Option.some.inj e
    subst e'
    exact ⟨hb, q⟩
theorem Inv.pinned {pins : List (Addr × Obj)} {σ : St} {H : Hp} {s : Shared} {fp : List Addr} (I : Inv X pins σ H s) (hf : ∀ b ∈ fp, FpOk X pins H b) (ho : ∀ b ∈ fp, ∃ o, s.heap.get? b = some o ∧ ∀ v, o.data ≠ .cell v) : Inv X (pins ++ pinsAt fp s.heap) σ H s :=
  I.pins_of fun p hp => (List.mem_append.mp hp).elim (fun z => I.pin p (List.mem_append_right _ z)) fun z => by
    obtain ⟨hb, e⟩ := of_pinsAt z
    obtain ⟨f0, f1, f2, _⟩ := hf p.1 hb
    obtain ⟨o, e', d⟩ := ho p.1 hb
    rw [e] at e'; cases e'
    exact ⟨e, f0, f1, f2, d⟩
theorem Inv.unpinned {pins pl : List (Addr × Obj)} {σ : St} {H : Hp} {s : Shared} (I : Inv X (pins ++ pl) σ H s) : Inv X pins σ H s := I.pins_of fun p hp => I.pin p (List.mem_append_right _ (List.mem_append_left _ hp))
theorem ps_for {iter : Expr} {body : List Stmt} {wi : TI} {g : TG} {tb : TS} {pos : Pos} (hp : PassesOwn (model X.prog X.w) X.A X.env X.xe) (hc : X.calm = true) (hi : PI X tg iter wi) (hg : PG X tg g) (hb : PSs X body tb)
    (hs : ∀ x, foldedSetIterable iter X.env x = pure x := by intro _; rfl) : PS X (.For tg iter body [] pos) (tFor wi g tb) := by
  intro pins s σ H D I h
  refine wpAny_For (thn (hi pins s σ H _ I h) fun v s1 h1 => thn h1 fun itv s2 h2 => ?_) hs
  obtain ⟨it, fp, tn, J, H2, e, I2, T, st2, f2, W, ⟨m0, w0⟩, turn⟩ := h2
  subst e
  -- what stays true of the iterator's objects through the loop
  have stat : ∀ {H' : Hp}, (∀ b ∈ fp, H' b = none) → ∀ b ∈ fp, FpOk X pins H' b := fun hn b hb => ⟨hn b hb, (f2 b hb).2⟩
  refine codeAny_forLoop_any (fun n s' => ∃ i σ' H', Inv X pins σ' H' s' ∧ tn i s'.heap ∧ (∀ b ∈ fp, H' b = none) ∧ W i n σ' H') ?_ m0 ⟨0, σ, H2, I2, st2, fun b hb => (f2 b hb).1, w0⟩
  rintro n s3 ⟨i, σ3, H3, I3, st3, fr3, w3⟩
  rcases turn i n σ3 H3 w3 with ⟨stop, qn⟩ | ⟨go, N, hN, step⟩
  · refine wpAny_passesOwn hp (thn (T.done X rfl rfl rfl hc i pins s3 σ3 H3 X.xe I3 (stat fr3) st3 stop) fun r s4 ⟨hr, I4⟩ => ?_)
    subst hr
    exact wpAny_execs_nil ⟨σ3, H3, I4, qn⟩
  · refine wpAny_passesOwn hp (thn (T.item X rfl rfl rfl hc i pins s3 σ3 H3 X.xe I3 (stat fr3) st3 go) fun r s4 ⟨u, hr, h4⟩ => ?_)
    subst hr
    refine wpAny_passesOwn hp (thn h4 fun _ s5 ⟨x, H5, I5, r5, y5, st5, fr5⟩ => ?_)
    have I5' := I5.pinned (stat fr5) (T.obj _ _ st5)
    refine wpAny_passesOwn hp (thn (hg _ s5 σ3 H5 x u _ I5' r5 (step x H5 y5)) fun _ s6 ⟨σ6, H6, I6, q6⟩ => ?_)
    refine wpAny_passesOwn hp (thn (hb _ s6 σ6 H6 _ I6 q6) fun f s7 q7 => ?_)
    have again : ∀ {σ7 : St} {H7 : Hp}, Inv X (pins ++ pinsAt fp s5.heap) σ7 H7 s7 → N σ7 H7 → ∃ m, m < n ∧ ∃ i σ' H', Inv X pins σ' H' s7 ∧ tn i s7.heap ∧ (∀ b ∈ fp, H' b = none) ∧ W i m σ' H' := fun {σ7 H7} I7 n7 => by
      obtain ⟨m', hm, w7⟩ := hN σ7 H7 n7
      refine ⟨m', hm, i + 1, σ7, H7, I7.unpinned, T.keep _ _ _ st5 fun b hb o e => (I7.pin (b, o) (List.mem_append_right _ (List.mem_append_right _ (mem_pinsAt hb e)))).1, fun b hb => ?_, w7⟩
      obtain ⟨o, e, d⟩ := T.obj _ _ st5 b hb
      exact (I7.pin (b, o) (List.mem_append_right _ (List.mem_append_right _ (mem_pinsAt hb e)))).2.1
    cases f with
    | next => obtain ⟨σ7, H7, I7, n7⟩ := q7; exact again I7 n7
    | cont => obtain ⟨σ7, H7, I7, n7⟩ := q7; exact again I7 n7
    | brk => obtain ⟨σ7, H7, I7, q7⟩ := q7; exact ⟨σ7, H7, I7.unpinned, q7⟩
    | ret v => obtain ⟨x7, σ7, H7, I7, r7, q7⟩ := q7; exact ⟨x7, σ7, H7, I7.unpinned, r7, q7⟩
end

/-! ### the forms one uses -/
/-- over a list that the body leaves as it is -/
theorem for_list {K : PySem.W.Frag} {a : Addr} {xs : List V} {g : TG} {tb : TS} {D : Ends} {σ : St} {H : Hp} (Pv : Nat → St → Hp → Prop) (h0 : Pv 0 σ H) (hl : ∀ i σ H, i ≤ xs.length → Pv i σ H → SqL K H a xs)
    (hs : ∀ i x σ H, xs[i]? = some x → Pv i σ H → g x σ H fun σ2 H2 => tb { D with nx := Pv (i + 1), ct := Pv (i + 1), bk := D.nx } σ2 H2) (hd : ∀ σ H, Pv xs.length σ H → D.nx σ H) :
    ∃ W : Nat → Nat → St → Hp → Prop, (∃ m, W 0 m σ H) ∧ ∀ i m σ H, W i m σ H →
      ((Itl K a).stop i H ∧ D.nx σ H) ∨ ((Itl K a).go i H ∧ ∃ N : St → Hp → Prop, (∀ σ' H', N σ' H' → ∃ m', m' < m ∧ W (i + 1) m' σ' H') ∧ ∀ x H', (Itl K a).yld i H x H' → g x σ H' fun σ2 H2 => tb { D with nx := N, ct := N, bk := D.nx } σ2 H2) := by
  refine ⟨fun i m σ H => m = xs.length - i ∧ i ≤ xs.length ∧ Pv i σ H, ⟨xs.length, by simp, Nat.zero_le _, h0⟩, ?_⟩
  rintro i m σ H ⟨rfl, hi, p⟩
  have q := hl i σ H hi p
  by_cases hlt : i < xs.length
  · refine .inr ⟨⟨xs, xs[i], q, by simp [hlt]⟩, Pv (i + 1), fun σ' H' p' => ⟨xs.length - (i + 1), by omega, rfl, hlt, p'⟩, fun x H' y => ?_⟩
    obtain ⟨e, y⟩ := y
    subst e
    exact hs i x σ _ (y xs q) p
  · have e : i = xs.length := by omega
    subst e
    exact .inl ⟨⟨xs, q, Nat.le_refl _⟩, hd σ H p⟩
theorem for_range {lo : Int} {n : Nat} {g : TG} {tb : TS} {D : Ends} {σ : St} {H : Hp} (Pv : Nat → St → Hp → Prop) (h0 : Pv 0 σ H)
    (hs : ∀ i σ H, i < n → Pv i σ H → g (.int (lo + i)) σ H fun σ2 H2 => tb { D with nx := Pv (i + 1), ct := Pv (i + 1), bk := D.nx } σ2 H2) (hd : ∀ σ H, Pv n σ H → D.nx σ H) :
    ∃ W : Nat → Nat → St → Hp → Prop, (∃ m, W 0 m σ H) ∧ ∀ i m σ H, W i m σ H →
      ((Itr lo n).stop i H ∧ D.nx σ H) ∨ ((Itr lo n).go i H ∧ ∃ N : St → Hp → Prop, (∀ σ' H', N σ' H' → ∃ m', m' < m ∧ W (i + 1) m' σ' H') ∧ ∀ x H', (Itr lo n).yld i H x H' → g x σ H' fun σ2 H2 => tb { D with nx := N, ct := N, bk := D.nx } σ2 H2) := by
  refine ⟨fun i m σ H => m = n - i ∧ i ≤ n ∧ Pv i σ H, ⟨n, by simp, Nat.zero_le _, h0⟩, ?_⟩
  rintro i m σ H ⟨rfl, hi, p⟩
  by_cases hlt : i < n
  · refine .inr ⟨hlt, Pv (i + 1), fun σ' H' p' => ⟨n - (i + 1), by omega, rfl, hlt, p'⟩, fun x H' y => ?_⟩
    obtain ⟨e, y⟩ := y
    subst e y
    exact hs i σ _ hlt p
  · have e : i = n := by omega
    subst e
    exact .inl ⟨Nat.le_refl _, hd σ H p⟩
end L2

namespace L2
open PySem PySem.Spec PyProof.Rows

abbrev R2 := V → V → Hp → VK → Prop
/-- a two-place operation on values: f is binaryOp op, inplaceOp op or compareOp op -/
def OpR (X : Cx) (f : Value → Value → Sem Value) (r : R2) : Prop :=
  ∀ (pins : List (Addr × Obj)) (s : Shared) (σ : St) (H : Hp) (x y : V) (v u : Value) (Q : VK), Inv X pins σ H s → RelV x v → RelV y u → r x y H Q →
    wpAny (model X.prog X.w) X.A (f v u) (EP X pins σ Q) X.xe s
/-- a one-place operation -/
def UnR (X : Cx) (f : Value → Sem Value) (r : V → Hp → VK → Prop) : Prop :=
  ∀ (pins : List (Addr × Obj)) (s : Shared) (σ : St) (H : Hp) (x : V) (v : Value) (Q : VK), Inv X pins σ H s → RelV x v → r x H Q →
    wpAny (model X.prog X.w) X.A (f v) (EP X pins σ Q) X.xe s
/-- a call of a value that is known (a builtin, a type) with values -/
def CallR (X : Cx) (f : Value) (r : List V → Hp → VK → Prop) : Prop :=
  ∀ (pins : List (Addr × Obj)) (s : Shared) (σ : St) (H : Hp) (xs : List V) (us : List Value) (Q : VK), Inv X pins σ H s → Vals xs us → r xs H Q →
    wpAny (model X.prog X.w) X.A (call f us) (EP X pins σ Q) X.xe s

def tOp (r : R2) (ta tb : TE) : TE := fun σ H Q => ta σ H fun x H1 => tb σ H1 fun y H2 => r x y H2 Q
def tUn (r : V → Hp → VK → Prop) (ta : TE) : TE := fun σ H Q => ta σ H fun x H1 => r x H1 Q
/-- ints in, under C, and a value out -/
def rI (C : Int → Int → Prop) (g : Int → Int → V) : R2 := fun x y H Q => ∃ i j, x = .int i ∧ y = .int j ∧ C i j ∧ Q (g i j) H
def rI0 (g : Int → Int → V) : R2 := fun x y H Q => ∃ i j, x = .int i ∧ y = .int j ∧ Q (g i j) H
def rU (g : Int → V) : V → Hp → VK → Prop := fun x H Q => ∃ i, x = .int i ∧ Q (g i) H

section
variable {X : Cx} {a b c : Expr} {ta tb tc : TE} {pos : Pos}

theorem binT (ha : PE X a ta) (hb : PE X b tb) {pins : List (Addr × Obj)} {s : Shared} {σ : St} {H : Hp} {R : V → V → Hp → Prop} (I : Inv X pins σ H s)
    (h : ta σ H fun x H1 => tb σ H1 fun y H2 => R x y H2) {Q : Value → Shared → Prop} {f : Value → Value → Sem Value}
    (hf : ∀ v u s2 x y H2, Inv X pins σ H2 s2 → RelV x v → RelV y u → R x y H2 → wpAny (model X.prog X.w) X.A (f v u) Q X.xe s2) :
    wpAny (model X.prog X.w) X.A (eval a X.env) (fun v s₁ => wpAny (model X.prog X.w) X.A (eval b X.env) (fun u s₂ => wpAny (model X.prog X.w) X.A (f v u) Q X.xe s₂) X.xe s₁) X.xe s := by
  refine thn (ha pins s σ H _ I h) fun v s1 ⟨x, H1, I1, r1, q1⟩ => ?_
  refine thn (hb pins s1 σ H1 _ I1 q1) fun u s2 ⟨y, H2, I2, r2, q2⟩ => ?_
  exact hf v u s2 x y H2 I2 r1 r2 q2

theorem pe_op {op : Operator} {r : R2} (ho : OpR X (binaryOp op) r) (ha : PE X a ta) (hb : PE X b tb) : PE X (.BinOp a op b pos) (tOp r ta tb) := by
  intro pins s σ H Q I h
  exact wpAny_BinOp (binT ha hb I h fun v u s2 x y H2 I2 rx ry q => ho pins s2 σ H2 x y v u Q I2 rx ry q)
theorem pe_un {op : UnaryOp} {r : V → Hp → VK → Prop} (ho : UnR X (unaryOp op) r) (ha : PE X a ta) : PE X (.UnaryOp op a pos) (tUn r ta) := by
  intro pins s σ H Q I h
  exact UnaryOp_ (thn (ha pins s σ H _ I h) fun v s1 ⟨x, H1, I1, r1, q1⟩ => ho pins s1 σ H1 x v Q I1 r1 q1)

/-! ### ints -/
theorem opI {f : Value → Value → Sem Value} {C : Int → Int → Prop} {g : Int → Int → Int}
    (rule : ∀ (i j : Int) (t u : Tok) (s : Shared) (Q : Value → Shared → Prop) (E : Value → Shared → Prop), C i j → Q (.int (g i j) s.toks) { s with toks := s.toks + 1 } → wpAny (model X.prog X.w) X.A (f (.int i t) (.int j u)) Q E s) :
    OpR X f (rI C fun i j => .int (g i j)) := by
  intro pins s σ H x y v u Q I rx ry h
  obtain ⟨i, j, rfl, rfl, hc, q⟩ := h
  obtain ⟨t, rfl⟩ := rx
  obtain ⟨t', rfl⟩ := ry
  exact rule i j t t' s _ _ hc ⟨.int (g i j), H, I.tok _, ⟨_, rfl⟩, q⟩
theorem opI0 {f : Value → Value → Sem Value} {g : Int → Int → Int}
    (rule : ∀ (i j : Int) (t u : Tok) (s : Shared) (Q : Value → Shared → Prop) (E : Value → Shared → Prop), Q (.int (g i j) s.toks) { s with toks := s.toks + 1 } → wpAny (model X.prog X.w) X.A (f (.int i t) (.int j u)) Q E s) :
    OpR X f (rI0 fun i j => .int (g i j)) := by
  intro pins s σ H x y v u Q I rx ry h
  obtain ⟨i, j, rfl, rfl, q⟩ := h
  obtain ⟨t, rfl⟩ := rx
  obtain ⟨t', rfl⟩ := ry
  exact rule i j t t' s _ _ ⟨.int (g i j), H, I.tok _, ⟨_, rfl⟩, q⟩
theorem opB0 {f : Value → Value → Sem Value} {g : Int → Int → Bool}
    (rule : ∀ (i j : Int) (t u : Tok) (s : Shared) (Q : Value → Shared → Prop) (E : Value → Shared → Prop), Q (.bool (g i j)) s → wpAny (model X.prog X.w) X.A (f (.int i t) (.int j u)) Q E s) :
    OpR X f (rI0 fun i j => .bl (g i j)) := by
  intro pins s σ H x y v u Q I rx ry h
  obtain ⟨i, j, rfl, rfl, q⟩ := h
  obtain ⟨t, rfl⟩ := rx
  obtain ⟨t', rfl⟩ := ry
  exact rule i j t t' s _ _ ⟨.bl (g i j), H, I, rfl, q⟩

def CDiv (i j : Int) : Prop := 0 < j ∧ j < 1073741824
def CPow (i j : Int) : Prop := 0 ≤ j ∧ j ≤ 1000000 ∧ i.natAbs < 2 ^ 64
def CMul (i j : Int) : Prop := (-(2 ^ 64) < i ∧ i < 2 ^ 64) ∨ (-(2 ^ 64) < j ∧ j < 2 ^ 64)
theorem CMul.ok {i j : Int} (h : CMul i j) : IntMulOk i j := by
  rcases h with ⟨h1, h2⟩ | ⟨h1, h2⟩
  · exact .of_left (intBits_le_64 h1 h2)
  · exact .of_right (intBits_le_64 h1 h2)

theorem op_add : OpR X (binaryOp .Add) (rI0 fun i j => .int (i + j)) := opI0 fun _ _ _ _ _ _ _ q => add_int q
theorem op_sub : OpR X (binaryOp .Sub) (rI0 fun i j => .int (i - j)) := opI0 fun _ _ _ _ _ _ _ q => sub_int q
theorem op_mul : OpR X (binaryOp .Mult) (rI CMul fun i j => .int (i * j)) := opI fun _ _ _ _ _ _ _ hc q => mul_int q hc.ok
/-- // by a positive divisor -/
theorem op_fdiv : OpR X (binaryOp .FloorDiv) (rI CDiv fun i j => .int (i / j)) := opI fun i j _ _ _ _ _ hc q => by
  have h1 : (0 : Int) < j := hc.1
  have h2 : j < 1073741824 := hc.2
  exact floordiv_int (by omega) (by rw [Int.fdiv_eq_ediv_of_nonneg i (by omega)]; exact q) (.inl (PyProof.noPylong_small (by omega)))
/-- % by a positive divisor of any size -/
theorem op_mod : OpR X (binaryOp .Mod) (rI (fun _ j => 0 < j) fun i j => .int (i % j)) := opI fun i j _ _ _ _ _ hc q => by
  have h1 : (0 : Int) < j := hc
  exact mod_int' (by omega) (by rw [Int.fmod_eq_emod_of_nonneg i (by omega)]; exact q)
theorem op_pow : OpR X (binaryOp .Pow) (rI CPow fun i j => .int (i ^ j.toNat)) := opI fun _ _ _ _ _ _ _ hc q => pow_int_small hc.1 hc.2.1 hc.2.2 q


theorem unI {f : Value → Sem Value} {g : Int → Int}
    (rule : ∀ (i : Int) (t : Tok) (s : Shared) (Q : Value → Shared → Prop) (E : Value → Shared → Prop), Q (.int (g i) s.toks) { s with toks := s.toks + 1 } → wpAny (model X.prog X.w) X.A (f (.int i t)) Q E s) :
    UnR X f (rU fun i => .int (g i)) := by
  intro pins s σ H x v Q I rx h
  obtain ⟨i, rfl, q⟩ := h
  obtain ⟨t, rfl⟩ := rx
  exact rule i t s _ _ ⟨.int (g i), H, I.tok _, ⟨_, rfl⟩, q⟩
theorem un_neg : UnR X (unaryOp .USub) (rU fun i => .int (-i)) := unI fun _ _ _ _ _ q => neg_int q

/-! ### bools among ints: n += (a < b) -/
end

/-! ### comparisons -/
/-- the scalars that == tells apart as data does -/
def scal : V → V → Bool
  | .non, .non => true | .non, .int _ => true | .int _, .non => true | .non, .bl _ => true | .bl _, .non => true | .non, .str _ => true | .str _, .non => true
  | .int _, .int _ => true | .bl _, .bl _ => true | .str _, .str _ => true | .byt _, .byt _ => true
  | .int _, .str _ => true | .str _, .int _ => true | .bl _, .str _ => true | .str _, .bl _ => true
  | _, _ => false
def rEq : R2 := fun x y H Q => scal x y = true ∧ Q (.bl (decide (x = y))) H
def rNe : R2 := fun x y H Q => scal x y = true ∧ Q (.bl (!decide (x = y))) H

theorem dec_int {i j : Int} : decide (V.int i = V.int j) = (i == j) := by
  rw [Bool.eq_iff_iff]
  simp
theorem dec_bl {i j : Bool} : decide (V.bl i = V.bl j) = (i == j) := by
  rw [Bool.eq_iff_iff]
  simp
theorem dec_str {i j : Str} : decide (V.str i = V.str j) = (i == j) := by
  rw [Bool.eq_iff_iff]
  simp
theorem dec_byt {i j : Array UInt8} : decide (V.byt i = V.byt j) = (i.toList == j.toList) := by
  rw [Bool.eq_iff_iff]
  cases i
  cases j
  simp

section
variable {X : Cx} {a b c : Expr} {ta tb tc : TE} {pos : Pos}
theorem fin_bl {pins : List (Addr × Obj)} {σ : St} {H : Hp} {s : Shared} {Q : VK} {k k' : Bool} (I : Inv X pins σ H s) (q : Q (.bl k) H) (e : k = k') : EP X pins σ Q (.bool k') s := by
  subst e
  exact ⟨.bl k, H, I, rfl, q⟩
theorem op_eq : OpR X (compareOp .Eq) rEq := by
  intro pins s σ H x y v u Q I rx ry h
  obtain ⟨hs, q⟩ := h
  cases x with
  | non =>
    cases rx
    cases y with
    | non => cases ry; exact PySem.EqNone.eq_none_none (fin_bl I q (by simp))
    | bl j => cases ry; exact PySem.EqNone.eq_none_bool (fin_bl I q (by simp))
    | int j => obtain ⟨t', rfl⟩ := ry; exact PySem.EqNone.eq_none_int (fin_bl I q (by simp))
    | str j => obtain ⟨t', rfl⟩ := ry; exact PySem.EqNone.eq_none_str (fin_bl I q (by simp))
    | _ => exact absurd (show false = true from hs) Bool.false_ne_true
  | bl i =>
    cases rx
    cases y with
    | non => cases ry; exact PySem.EqNone.eq_bool_none (fin_bl I q (by simp))
    | bl j => cases ry; exact eq_bool (fin_bl I q dec_bl)
    | str j => obtain ⟨t', rfl⟩ := ry; exact PySem.EqMixed.eq_bool_str (fin_bl I q (by simp))
    | _ => exact absurd (show false = true from hs) Bool.false_ne_true
  | int i =>
    obtain ⟨t, rfl⟩ := rx
    cases y with
    | non => cases ry; exact PySem.EqNone.eq_int_none (fin_bl I q (by simp))
    | int j => obtain ⟨t', rfl⟩ := ry; exact eq_int (fin_bl I q dec_int)
    | str j => obtain ⟨t', rfl⟩ := ry; exact PySem.EqMixed.eq_int_str (fin_bl I q (by simp))
    | _ => exact absurd (show false = true from hs) Bool.false_ne_true
  | str i =>
    obtain ⟨t, rfl⟩ := rx
    cases y with
    | non => cases ry; exact PySem.EqNone.eq_str_none (fin_bl I q (by simp))
    | bl j => cases ry; exact PySem.EqMixed.eq_str_bool (fin_bl I q (by simp))
    | int j => obtain ⟨t', rfl⟩ := ry; exact PySem.EqMixed.eq_str_int (fin_bl I q (by simp))
    | str j => obtain ⟨t', rfl⟩ := ry; exact eq_str (fin_bl I q dec_str)
    | _ => exact absurd (show false = true from hs) Bool.false_ne_true
  | byt i =>
    obtain ⟨t, rfl⟩ := rx
    cases y with
    | byt j => obtain ⟨t', rfl⟩ := ry; exact PySem.W.eq_bytes (fin_bl I q dec_byt)
    | _ => exact absurd (show false = true from hs) Bool.false_ne_true
  | _ => cases y <;> exact absurd (show false = true from hs) Bool.false_ne_true
theorem op_ne : OpR X (compareOp .NotEq) rNe := by
  intro pins s σ H x y v u Q I rx ry h
  obtain ⟨hs, q⟩ := h
  cases x with
  | non =>
    cases rx
    cases y with
    | non => cases ry; exact PySem.EqNone.ne_none_none (fin_bl I q (by simp))
    | bl j => cases ry; exact PySem.EqNone.ne_none_bool (fin_bl I q (by simp))
    | int j => obtain ⟨t', rfl⟩ := ry; exact PySem.EqNone.ne_none_int (fin_bl I q (by simp))
    | str j => obtain ⟨t', rfl⟩ := ry; exact PySem.EqNone.ne_none_str (fin_bl I q (by simp))
    | _ => exact absurd (show false = true from hs) Bool.false_ne_true
  | bl i =>
    cases rx
    cases y with
    | non => cases ry; exact PySem.EqNone.ne_bool_none (fin_bl I q (by simp))
    | bl j => cases ry; exact ne_bool (fin_bl I q (congrArg not dec_bl))
    | str j => obtain ⟨t', rfl⟩ := ry; exact PySem.EqMixed.ne_bool_str (fin_bl I q (by simp))
    | _ => exact absurd (show false = true from hs) Bool.false_ne_true
  | int i =>
    obtain ⟨t, rfl⟩ := rx
    cases y with
    | non => cases ry; exact PySem.EqNone.ne_int_none (fin_bl I q (by simp))
    | int j => obtain ⟨t', rfl⟩ := ry; exact ne_int (fin_bl I q (congrArg not dec_int))
    | str j => obtain ⟨t', rfl⟩ := ry; exact PySem.EqMixed.ne_int_str (fin_bl I q (by simp))
    | _ => exact absurd (show false = true from hs) Bool.false_ne_true
  | str i =>
    obtain ⟨t, rfl⟩ := rx
    cases y with
    | non => cases ry; exact PySem.EqNone.ne_str_none (fin_bl I q (by simp))
    | bl j => cases ry; exact PySem.EqMixed.ne_str_bool (fin_bl I q (by simp))
    | int j => obtain ⟨t', rfl⟩ := ry; exact PySem.EqMixed.ne_str_int (fin_bl I q (by simp))
    | str j => obtain ⟨t', rfl⟩ := ry; exact ne_str (fin_bl I q (congrArg not dec_str))
    | _ => exact absurd (show false = true from hs) Bool.false_ne_true
  | byt i =>
    obtain ⟨t, rfl⟩ := rx
    cases y with
    | byt j => obtain ⟨t', rfl⟩ := ry; exact PySem.W.ne_bytes (fin_bl I q (congrArg not dec_byt))
    | _ => exact absurd (show false = true from hs) Bool.false_ne_true
  | _ => cases y <;> exact absurd (show false = true from hs) Bool.false_ne_true

theorem op_lt : OpR X (compareOp .Lt) (rI0 fun i j => .bl (decide (i < j))) := opB0 fun _ _ _ _ _ _ _ q => lt_int q
theorem op_le : OpR X (compareOp .LtE) (rI0 fun i j => .bl (decide (i ≤ j))) := opB0 fun _ _ _ _ _ _ _ q => le_int q
theorem op_ge : OpR X (compareOp .GtE) (rI0 fun i j => .bl (decide (j ≤ i))) := opB0 fun _ _ _ _ _ _ _ q => ge_int q

/-- is None, is not None: the right side a value none -/
theorem op_isN : OpR X (compareOp .Is) (fun x y H Q => y = .non ∧ Q (.bl (decide (x = .non))) H) := by
  intro pins s σ H x y v u Q I rx ry h
  obtain ⟨rfl, q⟩ := h
  cases ry
  refine is_none_gen (fin_bl I q ?_)
  cases x <;> first
    | (cases rx; rfl)
    | (obtain ⟨t, rfl⟩ := rx; rfl)
theorem op_notN : OpR X (compareOp .IsNot) (fun x y H Q => y = .non ∧ Q (.bl (!decide (x = .non))) H) := by
  intro pins s σ H x y v u Q I rx ry h
  obtain ⟨rfl, q⟩ := h
  cases ry
  refine isnot_none_gen (fin_bl I q ?_)
  cases x <;> first
    | (cases rx; rfl)
    | (obtain ⟨t, rfl⟩ := rx; rfl)



theorem nomark (b : Expr) {op : CmpOp} (h : op ≠ .In := by decide) (h2 : op ≠ .NotIn := by decide) : behindInMarks op b = false := by
  have e1 : (op == CmpOp.In) = false := by cases op <;> first | rfl | exact absurd rfl h
  have e2 : (op == CmpOp.NotIn) = false := by cases op <;> first | rfl | exact absurd rfl h2
  cases b <;> simp [behindInMarks, e1, e2]
/-- a comparison as a value; hm: nomark b, or (for in, not in) by with_unfolding_all rfl -/
theorem pe_cmpR {op : CmpOp} {r : R2} (ho : OpR X (compareOp op) r) (ha : PE X a ta) (hb : PE X b tb) (hm : behindInMarks op b = false) : PE X (.Compare a [op] [b] pos) (tOp r ta tb) := by
  intro pins s σ H Q I h
  exact wpAny_Compare1 (binT ha hb I h fun v u s2 x y H2 I2 rx ry q => ho pins s2 σ H2 x y v u Q I2 rx ry q) hm
/-- a reading of a value as a test -/
def tTest (t : TE) : TT := fun σ H Q => t σ H fun x H' => ∃ k, x = .bl k ∧ Q k H'
theorem pt_cmpR {op : CmpOp} {r : R2} (ho : OpR X (compareOp op) r) (ha : PE X a ta) (hb : PE X b tb) (hm : behindInMarks op b = false) : PT X (.Compare a [op] [b] pos) (tTest (tOp r ta tb)) := by
  intro pins s σ H Q I h
  refine wpAny_isTrue_Compare1 (thn (ha pins s σ H _ I h) fun v s1 ⟨x, H1, I1, r1, q1⟩ => thn (hb pins s1 σ H1 _ I1 q1) fun u s2 ⟨y, H2, I2, r2, q2⟩ =>
    thn (ho pins s2 σ H2 x y v u _ I2 r1 r2 q2) fun c s3 ⟨z, H3, I3, r3, k, e, q3⟩ => ?_) hm
  subst e
  cases r3
  exact wpAny_truthy_bool ⟨H3, I3, q3⟩
/-- a op1 b op2 c -/
def tChain (r r' : R2) (ta tb tc : TE) : TE := fun σ H Q => ta σ H fun x H1 => tb σ H1 fun y H2 => r x y H2 fun z H3 => ∃ k, z = .bl k ∧
  (if k = true then tc σ H3 fun w' H4 => r' y w' H4 Q else Q (.bl false) H3)
theorem pt_chain {op op' : CmpOp} {r r' : R2} (ho : OpR X (compareOp op) r) (ho' : OpR X (compareOp op') r') (ha : PE X a ta) (hb : PE X b tb) (hc : PE X c tc)
    (hm : lastMarks [op, op'] [b, c] = false := by with_unfolding_all rfl) : PT X (.Compare a [op, op'] [b, c] pos) (tTest (tChain r r' ta tb tc)) := by
  intro pins s σ H Q I h
  refine isTrue_chain (thn (ha pins s σ H _ I h) fun v s1 ⟨x, H1, I1, r1, q1⟩ => test_link (thn (hb pins s1 σ H1 _ I1 q1) fun u s2 ⟨y, H2, I2, r2, q2⟩ =>
    thn (ho pins s2 σ H2 x y v u _ I2 r1 r2 q2) fun d s3 ⟨z, H3, I3, r3, k, e, q3⟩ => ?_)) hm
  subst e
  cases r3
  refine wpAny_truthy_bool ?_
  cases k with
  | false =>
    obtain ⟨k', e', q'⟩ := q3
    cases e'
    exact ite_ff ⟨H3, I3, q'⟩
  | true =>
    refine ite_tt (test_last (thn (hc pins s3 σ H3 _ I3 q3) fun w' s4 ⟨z', H4, I4, r4, q4⟩ => thn (ho' pins s4 σ H4 y z' u w' _ I4 r2 r4 q4) fun d' s5 ⟨z2, H5, I5, r5, k2, e2, q5⟩ => ?_))
    subst e2
    cases r5
    exact wpAny_truthy_bool ⟨H5, I5, q5⟩

/-! ### truth -/
theorem line63 : (sizeLine : Nat) < 2 ^ 63 := by rw [sizeLine_eq]; decide

/-! ### strs and bytes -/


/-! ### scalar builtins, by CallR -/
theorem vals1 {x : V} {us : List Value} (r : Vals [x] us) : ∃ u, us = [u] ∧ RelV x u := by
  cases r with
  | cons r1 r2 => cases r2; exact ⟨_, rfl, r1⟩
theorem vals2 {x y : V} {us : List Value} (r : Vals [x, y] us) : ∃ u w', us = [u, w'] ∧ RelV x u ∧ RelV y w' := by
  cases r with
  | cons r1 r2 =>
    cases r2 with
    | cons r3 r4 => cases r4; exact ⟨_, _, rfl, r1, r3⟩
theorem call_int1 : CallR X (.type "int") (fun xs H Q => (∃ i, xs = [.int i] ∧ Q (.int i) H) ∨ ∃ k, xs = [.bl k] ∧ Q (.int (if k then 1 else 0)) H) := by
  intro pins s σ H xs us Q I r h
  rcases h with ⟨i, rfl, q⟩ | ⟨k, rfl, q⟩
  · obtain ⟨u, rfl, t, rfl⟩ := vals1 r
    exact call_int_int ⟨.int i, H, I, ⟨_, rfl⟩, q⟩
  · obtain ⟨u, rfl, r1⟩ := vals1 r
    cases r1
    exact call_int_bool ⟨.int (if k then 1 else 0), H, I.tok _, ⟨_, rfl⟩, q⟩
end
end L2

namespace L2
open PySem PySem.Spec PyProof.Rows

/-! ### an instance, its attributes a map -/
structure ObjM (h : Heap) (x dx C : Addr) (mA : Str → Option Value) : Prop where
  obj : h.get? x = some (PySem.W.instObj C dx)
  ns : h.Ns1 dx mA
  ne : dx ≠ x

theorem lookIn_ns {h : Heap} {dx : Addr} {mA : Str → Option Value} (n : h.Ns1 dx mA) : ∃ od, h.get? dx = some od ∧ ∀ name, PySem.W.lookIn name od = some (mA name) := by
  obtain ⟨o, es, ep, ho, hd, hk, _, hm⟩ := n
  refine ⟨o, ho, fun name => ?_⟩
  have e := hm name
  unfold nsFind findBy at e
  rw [← Array.find?_toList] at e
  unfold PySem.W.lookIn
  rw [hd]
  dsimp only
  split
  · rename_i y q
    rw [q] at e
    exact congrArg some e
  · rename_i q
    rw [q] at e
    have a : es.toList.any (·.refKey) = false := by
      rw [List.any_eq_false]
      intro y hy
      obtain ⟨z, t, hkey⟩ := hk y (Array.mem_toList_iff.mp hy)
      simp [DictEntry.refKey, hkey]
    have a' : ¬ es.toList.any (·.refKey) = true := by rw [a]; exact Bool.false_ne_true
    rw [if_neg a']
    exact congrArg some e

theorem ObjM.look {h : Heap} {x dx C : Addr} {mA : Str → Option Value} (I : ObjM h x dx C mA) : ∃ od, PySem.W.InstAt h x (PySem.W.instObj C dx) C (some od) ∧ ∀ name, PySem.W.lookIn name od = some (mA name) :=
  let ⟨od, ho, hl⟩ := lookIn_ns I.ns
  ⟨od, ⟨I.obj, rfl, rfl, ho⟩, hl⟩

section
variable {prog : Program} {w : World} {A : Around} {E : Value → Shared → Prop} {s : Shared} {K : PySem.W.Frag} {x dx C f : Addr} {mA : Str → Option Value} {name : Str} {v : Value}

theorem get_map {expr : Bool} {Q : Value → Shared → Prop} (X : K.In s.heap) (I : ObjM s.heap x dx C mA) (hg : PySem.W.plainGet K C name = true) (hh : PySem.W.hasDictIn K C = true)
    (ha : PySem.W.findIn K (.ref C) name = some none) (hv : mA name = some v) (hv' : PySem.W.handedIn v = true) (h : Q v { s with toks := s.toks + 1 }) :
    wpAny (model prog w) A (getAttr (.ref x) name expr) Q E s := by
  obtain ⟨od, J, hl⟩ := I.look
  exact PySem.W.get_value X J (PySem.W.plainGet_of hg).1 (PySem.W.findObj_own hh ha rfl (by rw [hl, hv])) hv' h


theorem get_meth {pl : Sem Bool} {Q : Value × List Value → Shared → Prop} (X : K.In s.heap) (I : ObjM s.heap x dx C mA) (hg : PySem.W.plainGet K C name = true)
    (hf : PySem.W.findIn K (.ref C) name = some (some (.ref f))) (ht : PySem.W.isFn K (.ref f) = true) (hv : mA name = none) (h : Q (.ref f, [.ref x]) s) :
    wpAny (model prog w) A (getMethod (.ref x) name pl) Q E s := by
  obtain ⟨od, J, hl⟩ := I.look
  exact PySem.W.method_fn X J (PySem.W.plainGet_of hg).1 (PySem.W.plainGet_of hg).2 hf (beq_iff_eq.mp ht) (by show (PySem.W.lookIn name od).map (·.isSome) = some false; rw [hl, hv]; rfl) h

theorem set_map {ns : List Str} {Q : Unit → Shared → Prop} (X : K.In s.heap) (I : ObjM s.heap x dx C mA)
    (hs : PySem.W.findIn K (.ref C) "__setattr__" = some (some (.builtin "object.__setattr__"))) (hp : PySem.W.plainOver K C = true) (ht : PySem.W.takerIn K C name = some none) (hh : PySem.W.hasDictIn K C = true)
    (hw : PySem.Within mA ns) (hsz : ns.length ≤ sizeLine)
    (h : ∀ h', ObjM h' x dx C (fun y => if y = name then some v else mA y) → Heap.SameBut dx s.heap h' → Q () { s with heap := h', toks := s.toks + 2 }) :
    wpAny (model prog w) A (setAttr (.ref x) name v) Q E s := by
  obtain ⟨od, J, hl⟩ := I.look
  refine PySem.W.set_plain X J hs (PySem.W.osa_open (s := { s with toks := s.toks + 1 }) (r := none) X J hp ht fun b => ?_)
  obtain ⟨cd, hc, hd'⟩ := PySem.W.any_some hh
  have hx : s.heap.get? x = some ⟨.ref C, some dx, .plain, #[]⟩ := I.obj
  refine wpAny_bind (wpAny_pure (wpAny_bind (wpAny_bind (wpAny_loadPart hx (wpAny_bind (PySem.W.Looks.here (s := { s with toks := s.toks + 1 }) (PySem.W.looks_clsIn X hc) ?_))))))
  rw [hd']
  refine wpAny_pure (a := some dx) (wpAny_bind (wpAny_pure (wpAny_bind ?_)))
  refine wpAny_nsSet1 (s := { s with toks := s.toks + 1 }) I.ns fun h' hn2 hs2 => ?_
  obtain ⟨oD, esD, epD, hoD, hdD, hcD⟩ := hn2.count (PySem.Within.cons name v hw)
  refine wpAny_bind (wpAny_lookBehind hoD (by rw [hdD]; exact pastItsLine_dict (Nat.le_trans hcD (by rw [List.length_cons]; omega))) ?_)
  exact wpAny_pure (h _ ⟨(hs2.2 _ (Ne.symm I.ne)).trans I.obj, hn2, I.ne⟩ hs2)

/-- C(..): the dict at the heap's end, the instance behind it; then its __init__ -/
theorem make_map {R : Result → Shared → Prop} {vs : List Value} {kw : List (Str × Value)} (X : K.In s.heap) (hm : PySem.W.makesIn K C = true)
    (hi : PySem.W.findIn K (.ref C) "__init__" = some (some (.ref f))) (hf : PySem.W.typeIn K (.ref f) = some (.type "function"))
    (h : codeAny (model prog w) (A.under (.builtin "type.__call__" ⟨.ref C :: vs, kw⟩)) (.call (.ref f) ⟨.ref (s.heap.objs.size + 1) :: vs, kw⟩) (PySem.W.InitBack (s.heap.objs.size + 1) R)
      { s with heap := (s.heap.push PySem.W.emptyDict).push (PySem.W.instObj C s.heap.objs.size) }) :
    codeAny (model prog w) A (.call (.ref C) ⟨vs, kw⟩) R s := by
  obtain ⟨hh, g, d, t, os⟩ := s
  exact PySem.W.make_core (PySem.W.makes_of X hm) (PySem.W.looks_findIn X hi) (fun self => PySem.W.bind_fn X self hf) (.inl rfl) h
end

/-! ### the attributes as a list of pairs -/
def putF (f : Str) (v : V) : List (Str × V) → List (Str × V)
  | [] => [(f, v)]
  | (g, x) :: r => if g = f then (g, v) :: r else (g, x) :: putF f v r
theorem lookup_putF (f g : Str) (v : V) : ∀ fs : List (Str × V), (putF f v fs).lookup g = if g = f then some v else fs.lookup g
  | [] => by
    show List.lookup g [(f, v)] = _
    by_cases h : g = f
    · have hb : (g == f) = true := beq_iff_eq.mpr h
      simp only [List.lookup, hb, if_pos h]
    · have hb : (g == f) = false := beq_eq_false_iff_ne.mpr h
      simp only [List.lookup, hb, if_neg h]
  | (k, x) :: r => by
    have ih := lookup_putF f g v r
    rw [show putF f v ((k, x) :: r) = (if k = f then (k, v) :: r else (k, x) :: putF f v r) from rfl]
    by_cases hk : k = f
    · rw [if_pos hk]
      by_cases h : g = k
      · have hb : (g == k) = true := beq_iff_eq.mpr h
        simp only [List.lookup, hb, if_pos (h.trans hk)]
      · have hb : (g == k) = false := beq_eq_false_iff_ne.mpr h
        simp only [List.lookup, hb, if_neg (fun e : g = f => h (e.trans hk.symm))]
    · rw [if_neg hk]
      by_cases h : g = k
      · have hb : (g == k) = true := beq_iff_eq.mpr h
        simp only [List.lookup, hb, if_neg (fun e : g = f => hk (h.symm.trans e))]
      · have hb : (g == k) = false := beq_eq_false_iff_ne.mpr h
        simp only [List.lookup, hb]
        exact ih
theorem keys_putF (f : Str) (v : V) : ∀ fs : List (Str × V), f ∈ (putF f v fs).map (·.1) ∧ ∀ g, g ∈ fs.map (·.1) → g ∈ (putF f v fs).map (·.1)
  | [] => ⟨by simp [putF], fun g h => by simp at h⟩
  | (k, x) :: r => by
    obtain ⟨i1, i2⟩ := keys_putF f v r
    rw [show putF f v ((k, x) :: r) = (if k = f then (k, v) :: r else (k, x) :: putF f v r) from rfl]
    by_cases hk : k = f
    · rw [if_pos hk]
      subst hk
      exact ⟨by simp, fun g h => by simpa using h⟩
    · rw [if_neg hk]
      refine ⟨?_, fun g h => ?_⟩
      · rw [List.map_cons]
        exact List.mem_cons_of_mem _ i1
      · rw [List.map_cons] at h ⊢
        rcases List.mem_cons.mp h with e | e
        · exact List.mem_cons.mpr (.inl e)
        · exact List.mem_cons_of_mem _ (i2 g e)
theorem length_putF (f : Str) (v : V) : ∀ fs : List (Str × V), (putF f v fs).length ≤ fs.length + 1
  | [] => by simp [putF]
  | (k, x) :: r => by
    have ih := length_putF f v r
    rw [show putF f v ((k, x) :: r) = (if k = f then (k, v) :: r else (k, x) :: putF f v r) from rfl]
    by_cases hk : k = f
    · rw [if_pos hk, List.length_cons, List.length_cons]; omega
    · rw [if_neg hk, List.length_cons, List.length_cons]; omega

theorem RelO.some_of {v : V} {o : Option Value} (r : RelO (some v) o) : ∃ u, o = some u ∧ RelV v u := by
  cases o with
  | none => exact (show False from r).elim
  | some u => exact ⟨u, rfl, r⟩
theorem RelO.none_of {o : Option Value} (r : RelO none o) : o = none := by
  cases o with
  | none => rfl
  | some u => exact (show False from r).elim
theorem handed_of {v : V} {u : Value} (r : RelV v u) : PySem.W.handedIn u = true := by
  cases v with
  | non => cases (show u = Value.none from r); rfl
  | bl b => cases (show u = Value.bool b from r); rfl
  | int i => obtain ⟨t, e⟩ := (show ∃ t, u = Value.int i t from r); cases e; rfl
  | str x => obtain ⟨t, e⟩ := (show ∃ t, u = Value.str x t from r); cases e; rfl
  | byt b => obtain ⟨t, e⟩ := (show ∃ t, u = Value.bytes b t from r); cases e; rfl
  | flt b => obtain ⟨t, e⟩ := (show ∃ t, u = Value.float b t from r); cases e; rfl
  | ref a => cases (show u = Value.ref a from r); rfl
  | ty n => cases (show u = Value.type n from r); rfl

section
variable {P : Program} {w : World} {H H' : Hp} {h h' : Heap} {a C dx : Addr} {fs fs' : List (Str × V)}
theorem ins_get (hok : HOk P w H h) (e : H a = some (.ins C dx fs)) : ∃ mA, ObjM h a dx C mA ∧ (∀ f, RelO (fs.lookup f) (mA f)) ∧ PySem.Within mA (fs.map (·.1)) ∧ fs.length ≤ 1000 ∧ H dx = some (.own a) := by
  obtain ⟨d, z, ne, ob, mA, n, r, q⟩ := (show ObjOk P w H h a (.ins C dx fs) from hok a _ e)
  exact ⟨mA, ⟨ob, n, ne⟩, r, q, z, d⟩
end

/-! ### what of the text a class must have -/
structure Cls (K : PySem.W.Frag) (C : Addr) : Prop where
  pg : PySem.W.plainGet K C Str.empty = true
  hd : PySem.W.hasDictIn K C = true
  po : PySem.W.plainOver K C = true
  sa : PySem.W.findIn K (.ref C) "__setattr__" = some (some (.builtin "object.__setattr__"))
theorem Cls.get {K : PySem.W.Frag} {C : Addr} (c : Cls K C) (f : Str) : PySem.W.plainGet K C f = true := c.pg
/-- no class of it has the name -/
def NoAttr (K : PySem.W.Frag) (C : Addr) (f : Str) : Prop := PySem.W.findIn K (.ref C) f = some none
theorem NoAttr.taker {K : PySem.W.Frag} {C : Addr} {f : Str} (n : NoAttr K C f) : PySem.W.takerIn K C f = some none := by
  unfold PySem.W.takerIn
  rw [show PySem.W.findIn K (.ref C) f = some none from n]
  rfl
/-- a method: a plain def of the class or of one above it -/
structure Meth (K : PySem.W.Frag) (C : Addr) (m : Str) (f : Addr) : Prop where
  at_ : PySem.W.findIn K (.ref C) m = some (some (.ref f))
  fn : PySem.W.isFn K (.ref f) = true
  kp : PySem.W.keepIn K (.ref f) = true

section
variable {X : Cx} {pins : List (Addr × Obj)} {σ : St} {H : Hp} {s : Shared} {a C dx : Addr} {fs : List (Str × V)} {f : Str} {v : V} {A : Around} {E : Value → Shared → Prop}

theorem getattr_ok {b : Bool} {Q : Value → Shared → Prop} (I : Inv X pins σ H s) (e : H a = some (.ins C dx fs)) (c : Cls X.K C) (n : NoAttr X.K C f) (l : fs.lookup f = some v)
    (h : ∀ u s', Inv X pins σ H s' → RelV v u → Q u s') : wpAny (model X.prog X.w) A (getAttr (.ref a) f b) Q E s := by
  obtain ⟨mA, O, r, _, _, _⟩ := ins_get I.hok e
  obtain ⟨u, hu, ru⟩ := RelO.some_of (v := v) (o := mA f) (by rw [← l]; exact r f)
  exact get_map I.kIn O (c.get f) c.hd n hu (handed_of ru) (h u _ (I.tok _) ru)


theorem getmeth_ok {m : Str} {g : Addr} {pl : Sem Bool} {Q : Value × List Value → Shared → Prop} (I : Inv X pins σ H s) (e : H a = some (.ins C dx fs)) (c : Cls X.K C) (k : Meth X.K C m g) (l : fs.lookup m = none)
    (h : Q (.ref g, [.ref a]) s) : wpAny (model X.prog X.w) A (getMethod (.ref a) m pl) Q E s := by
  obtain ⟨mA, O, r, _, _, _⟩ := ins_get I.hok e
  have hn : mA m = none := RelO.none_of (by rw [← l]; exact r m)
  exact get_meth I.kIn O (c.get m) k.at_ k.fn hn h

theorem setattr_ok {y : V} {u : Value} {Q : Unit → Shared → Prop} (I : Inv X pins σ H s) (e : H a = some (.ins C dx fs)) (c : Cls X.K C) (n : NoAttr X.K C f) (hl : fs.length < 1000) (ry : RelV y u)
    (h : ∀ s', Inv X pins σ (upd H a (.ins C dx (putF f y fs))) s' → Q () s') : wpAny (model X.prog X.w) A (setAttr (.ref a) f u) Q E s := by
  obtain ⟨mA, O, r, wi, _, ho⟩ := ins_get I.hok e
  have hz : (fs.map (·.1)).length ≤ sizeLine := by rw [List.length_map, sizeLine_eq]; omega
  refine set_map I.kIn O c.sa c.po n.taker c.hd wi hz fun h' O' sb => h _ ?_
  have hd : ∃ o, h'.get? dx = some o := let ⟨o, _, _, e', _⟩ := O'.ns; ⟨o, e'⟩
  refine I.write (x := a) (e := dx) (by rw [e]; exact True.intro) (.inr ho) (fun b q hb z => (sb.2 b hb).trans z) hd ?_
  refine ⟨by rw [upd_ne O.ne]; exact ho, ?_, O.ne, O'.obj, _, O'.ns, fun g => ?_, fun g hg => ?_⟩
  · have := length_putF f y fs; omega
  · show RelO ((putF f y fs).lookup g) (if g = f then some u else mA g)
    rw [lookup_putF]
    by_cases q : g = f
    · rw [if_pos q, if_pos q]; exact ry
    · rw [if_neg q, if_neg q]; exact r g
  · by_cases q : g = f
    · rw [q]; exact (keys_putF f y fs).1
    · refine (keys_putF f y fs).2 g (wi g fun z => hg ?_)
      show (if g = f then some u else mA g) = none
      rw [if_neg q]; exact z

/-- a new instance, tracked, without attributes -/
theorem Inv.made (I : Inv X pins σ H s) : Inv X pins σ (upd (upd H s.heap.objs.size (.own (s.heap.objs.size + 1))) (s.heap.objs.size + 1) (.ins C s.heap.objs.size []))
    { s with heap := (s.heap.push PySem.W.emptyDict).push (PySem.W.instObj C s.heap.objs.size) } := by
  have e1 : (s.heap.push PySem.W.emptyDict).get? s.heap.objs.size = some PySem.W.emptyDict := Heap.get?_push_size s.heap rfl
  have e2 : ((s.heap.push PySem.W.emptyDict).push (PySem.W.instObj C s.heap.objs.size)).get? (s.heap.objs.size + 1) = some (PySem.W.instObj C s.heap.objs.size) := by
    have := Heap.get?_push_size (s.heap.push PySem.W.emptyDict) (o := PySem.W.instObj C s.heap.objs.size) rfl
    rwa [Heap.size_push] at this
  have e3 : (s.heap.push PySem.W.emptyDict).Ns s.heap.objs.size (fun _ => none) := ⟨PySem.W.emptyDict, #[], _, e1, rfl, (fun e he => absurd he (by simp)), fun _ => rfl⟩
  have I1 := I.laid (a := s.heap.objs.size) (o := .own (s.heap.objs.size + 1)) (h' := s.heap.push PySem.W.emptyDict) (t' := s.toks) (fun b u q => Heap.get?_push_of_some _ q) (Nat.le_refl _) ⟨_, e1⟩
  refine I1.laid (a := s.heap.objs.size + 1) (o := .ins C s.heap.objs.size []) (t' := s.toks) (fun b u q => Heap.get?_push_of_some _ q) (Nat.le_of_eq (Heap.size_push _ _)) ?_
  have ne : s.heap.objs.size ≠ s.heap.objs.size + 1 := Nat.ne_of_lt (Nat.lt_succ_self _)
  refine ⟨by rw [upd_ne ne, upd_same], Nat.zero_le _, ne, e2, fun _ => none, (Heap.Ns1.of_empty e3).at fun o q => Heap.get?_push_of_some _ q, fun _ => True.intro, fun y hy => absurd rfl hy⟩

/-- e.f where nothing but the object is asked: through attributeBase (super) and the last hold -/
theorem attr_of {prog : Program} {w : World} {env : Env} {e : Expr} {f : Str} {pos : Pos} {s : Shared} {Q : Value → Shared → Prop} (hb : attributeBase e f env (eval e env) = eval e env)
    (h : wpAny (model prog w) A (eval e env) (fun o s₁ => wpAny (model prog w) A (getAttr o f true) Q E s₁) E s) : wpAny (model prog w) A (eval (.Attribute e f pos) env) Q E s :=
  Attribute_any_ h (by rw [arm_eval_Attribute, hb])
end

/-! ### readings and rules -/
/-- e.f, an attribute of the instance -/
def tFld (K : PySem.W.Frag) (ta : TE) (f : Str) : TE := fun σ H Q => ta σ H fun x H1 => ∃ a C dx fs v, x = .ref a ∧ H1 a = some (.ins C dx fs) ∧ Cls K C ∧ NoAttr K C f ∧ fs.lookup f = some v ∧ Q v H1
/-- e.f = value -/
def sFld (K : PySem.W.Frag) (ta tv : TE) (f : Str) : TS := fun D σ H => tv σ H fun y H1 => ta σ H1 fun x H2 => ∃ a C dx fs, x = .ref a ∧ H2 a = some (.ins C dx fs) ∧ Cls K C ∧ NoAttr K C f ∧ fs.length < 1000 ∧
  D.nx σ (upd H2 a (.ins C dx (putF f y fs)))

section
variable {X : Cx} {o e value : Expr} {f : Str} {pos pos' tpos : Pos} {ta tv : TE}
theorem pe_fld (he : PE X e ta) (hb : attributeBase e f X.env (eval e X.env) = eval e X.env) : PE X (.Attribute e f pos) (tFld X.K ta f) := by
  intro pins s σ H Q I h
  refine attr_of hb (thn (he pins s σ H _ I h) fun u s1 ⟨x, H1, I1, rx, a, C, dx, fs, v, ex, ea, c, n, l, q⟩ => ?_)
  subst ex
  obtain rfl : u = Value.ref a := rx
  exact getattr_ok I1 ea c n l fun u' s2 I2 ru => ⟨v, H1, I2, ru, q⟩
theorem ps_fld (ha : PE X o ta) (hv : PE X value tv) (hs : swapsWith value (some (.Attribute o f pos')) pos.line X.env = pure false) : PS X (.Assign [.Attribute o f pos'] value pos) (sFld X.K ta tv f) := by
  intro pins s σ H D I h
  refine plainObj_wpAny_Assign_Attribute (thn (hv pins s σ H _ I h) fun u s1 ⟨y, H1, I1, ry, q⟩ => thn (ha pins s1 σ H1 _ I1 q) fun ov s2 ⟨x, H2, I2, rx, a, C, dx, fs, ex, ea, c, n, l, q2⟩ => ?_) hs
  subst ex
  obtain rfl : ov = Value.ref a := rx
  exact setattr_ok I2 ea c n l ry fun s3 I3 => ⟨σ, _, I3, q2⟩

end

/-! ### isinstance -/
section
variable {X : Cx} {pins : List (Addr × Obj)} {σ : St} {H : Hp} {s : Shared} {A : Around} {E : Value → Shared → Prop} {Q : Value → Shared → Prop} {c : Value} {b : Bool}
/-- the type of a value, as the fragment's deciders take it; for an instance its class -/
inductive TyOf (K : PySem.W.Frag) (H : Hp) : V → Value → Prop where
  | non : TyOf K H .non (.type "NoneType")
  | bl (x : Bool) : TyOf K H (.bl x) (.type "bool")
  | int (i : Int) : TyOf K H (.int i) (.type "int")
  | str (x : Str) : TyOf K H (.str x) (.type "str")
  | flt (x : UInt64) : TyOf K H (.flt x) (.type "float")
  | lst {a : Addr} {xs : List V} (e : H a = some (.lst xs)) : TyOf K H (.ref a) (.type "list")
  | frz {a : Addr} {o : Obj} {xs : List V} (e : H a = some (.frz o (.lst xs))) : TyOf K H (.ref a) (.type "list")
  | tup {a : Addr} {xs : List V} (e : H a = some (.tup xs)) : TyOf K H (.ref a) (.type "tuple")
  | dK {a : Addr} {kvs : List (Key × V)} (e : H a = some (.dK kvs)) : TyOf K H (.ref a) (.type "dict")
  | dT {a : Addr} {kvs : List (List Key × V)} (e : H a = some (.dT kvs)) : TyOf K H (.ref a) (.type "dict")
  | ins {a C dx : Addr} {fs : List (Str × V)} (e : H a = some (.ins C dx fs)) (cl : Cls K C) (ha : PySem.W.findIn K (.ref C) "__class__" = some (some (.builtin "object.__class__")))
      (hn : PySem.W.specialIn K (.builtin "object.__class__") "__get__" = some (some (.builtin "getset_descriptor.__get__"))) (htk : PySem.W.takesIn K (.builtin "object.__class__") = some true)
      (hm : PySem.W.mroIn K C (.type "object") = some true) : TyOf K H (.ref a) (.ref C)
/-- isinstance(x, c) for one class c, a built-in or an own one: kitOne's answer -/
theorem isinst_ok {x : V} {u t : Value} (I : Inv X pins σ H s) (rx : RelV x u) (ty : TyOf X.K H x t) (e : PySem.W.kitOne X.K t c = some b) (h : ∀ tk, Q (.bool b) { s with toks := tk }) :
    wpAny (model X.prog X.w) A (call (.builtin "isinstance") [u, c]) Q E s := by
  cases ty with
  | non => cases (show u = Value.none from rx); exact PySem.W.kia_one PySem.W.kitx_none I.kIn True.intro e (fun z => nomatch z) h
  | bl y => cases (show u = Value.bool y from rx); exact PySem.W.kia_one PySem.W.kitx_bool I.kIn True.intro e (fun z => nomatch z) h
  | int i => obtain ⟨t, q⟩ := (show ∃ t, u = Value.int i t from rx); cases q; exact PySem.W.kia_one PySem.W.kitx_int I.kIn True.intro e (fun z => nomatch z) h
  | str y => obtain ⟨t, q⟩ := (show ∃ t, u = Value.str y t from rx); cases q; exact PySem.W.kia_one PySem.W.kitx_str I.kIn True.intro e (fun z => nomatch z) h
  | flt y => obtain ⟨t, q⟩ := (show ∃ t, u = Value.float y t from rx); cases q; exact PySem.W.kia_one PySem.W.kitx_float I.kIn True.intro e (fun z => nomatch z) h
  | @lst a xs ea =>
    cases (show u = Value.ref a from rx)
    obtain ⟨_, _, n, _, h1⟩ := (show ObjOk X.prog X.w H s.heap a (.lst xs) from I.hok a _ ea)
    exact PySem.W.kia_one PySem.W.kitx_list I.kIn ⟨_, h1, rfl⟩ e (fun z => nomatch z) h
  | @frz a ob xs ea =>
    cases (show u = Value.ref a from rx)
    obtain ⟨_, _, _, n, _, h1⟩ := (show ObjOk X.prog X.w H s.heap a (.frz ob (.lst xs)) from I.hok a _ ea)
    exact PySem.W.kia_one PySem.W.kitx_list I.kIn ⟨_, h1, rfl⟩ e (fun z => nomatch z) h
  | @tup a xs ea =>
    cases (show u = Value.ref a from rx)
    obtain ⟨_, _, _, p⟩ := (show ObjOk X.prog X.w H s.heap a (.tup xs) from I.hok a _ ea)
    obtain ⟨o, h1, h2, _⟩ := p
    exact PySem.W.kia_one PySem.W.kitx_tuple I.kIn ⟨o, h1, h2⟩ e (fun z => nomatch z) h
  | @dK a kvs ea =>
    cases (show u = Value.ref a from rx)
    obtain ⟨_, _, vs, _, p⟩ := (show ObjOk X.prog X.w H s.heap a (.dK kvs) from I.hok a _ ea)
    obtain ⟨o, es, ep, h1, h2, _⟩ := p
    exact PySem.W.kia_one PySem.W.kitx_dict I.kIn ⟨o, h1, h2.1⟩ e (fun z => nomatch z) h
  | @dT a kvs ea =>
    cases (show u = Value.ref a from rx)
    obtain ⟨_, _, xs, _, o, es, ep, h1, h2, _⟩ := (show ObjOk X.prog X.w H s.heap a (.dT kvs) from I.hok a _ ea)
    exact PySem.W.kia_one PySem.W.kitx_dict I.kIn ⟨o, h1, h2.1⟩ e (fun z => nomatch z) h
  | @ins a C dx fs ea cl ha hn htk hm =>
    cases (show u = Value.ref a from rx)
    obtain ⟨mA, O, _⟩ := ins_get I.hok ea
    obtain ⟨od, J, _⟩ := O.look
    exact PySem.W.kia_one (PySem.W.kitx_own (cl.get _) cl.hd ha hn htk hm) I.kIn J e (fun z => nomatch z) h
end
end L2

namespace L2
open PySem PySem.Spec PyProof.Rows

/-! ### room -/
structure Room (k : Nat) (A : Around) : Prop where
  hd : A.handled = none
  dp : A.depth + 3 * k + 5 < recursionLimit
  un : A.units + 16 * k + 200 < cLine
theorem Room.mono {j k : Nat} {A : Around} (r : Room k A) (h : j ≤ k) : Room j A := ⟨r.hd, by have := r.dp; omega, by have := r.un; omega⟩
theorem Room.deeper {k : Nat} {A : Around} (r : Room (k + 1) A) (env : Env) : Room k (A.deeper env) :=
  ⟨r.hd, by have := r.dp; show A.depth + 1 + 3 * k + 5 < _; omega, by have := r.un; show A.units + 3 + 16 * k + 200 < _; omega⟩
theorem make_depth {A : Around} {C : Addr} {us : List Value} {kw : List (Str × Value)} : (A.under (.builtin "type.__call__" ⟨.ref C :: us, kw⟩)).depth = A.depth + 1 := by
  first | rfl | simp [Around.under, Code.weight, Code.isCreation, Code.isGuard, Code.isCaller, Code.frames, Code.isFrame, guardIds]
theorem make_units {A : Around} {C : Addr} {us : List Value} {kw : List (Str × Value)} : (A.under (.builtin "type.__call__" ⟨.ref C :: us, kw⟩)).units = A.units + 1 := by
  first | rfl | simp [Around.under, Code.cUnits, Code.frames, Code.isFrame]
theorem Room.make {k : Nat} {A : Around} (r : Room (k + 1) A) (C : Addr) (us : List Value) (kw : List (Str × Value)) : Room k (A.under (.builtin "type.__call__" ⟨.ref C :: us, kw⟩)) :=
  ⟨r.hd, by have := r.dp; rw [make_depth]; omega, by have := r.un; rw [make_units]; omega⟩
theorem Room.depth {k : Nat} {A : Around} (r : Room k A) : A.depth < recursionLimit := by have := r.dp; omega
theorem Room.units {k : Nat} {A : Around} (r : Room k A) : A.units + 64 < cLine := by have := r.un; omega
theorem Room.units0 {k : Nat} {A : Around} (r : Room k A) : A.units < cLine := by have := r.un; omega

/-! ### argument lists and displays -/
def tNil : TA := fun _ H Q => Q [] H
def tCons (ta : TE) (tr : TA) : TA := fun σ H Q => ta σ H fun x H1 => tr σ H1 fun xs H2 => Q (x :: xs) H2
section
variable {X : Cx} {e : Expr} {es : List Expr} {te : TE} {t : TA} {pos : Pos}
theorem pa_nil : PA X [] tNil := fun _ _ _ _ H Q I h => Calls.spliced_nil ⟨[], H, I, .nil, h⟩
theorem pa_cons (ha : PE X e te) (hr : PA X es t) (hs : starEach (e :: es) X.env = (false, eval e X.env) :: starEach es X.env := by rfl) : PA X (e :: es) (tCons te t) := by
  intro pos pins s σ H Q I h
  rw [hs]
  show wpAny _ _ (spliced ((false, eval e X.env) :: backTo pos (starEach es X.env))) _ _ s
  refine Calls.spliced_cons (thn (ha pins s σ H _ I h) fun u s1 ⟨x, H1, I1, r1, q1⟩ => ?_)
  exact thn (hr pos pins s1 σ H1 _ I1 q1) fun us s2 ⟨xs, H2, I2, r2, q2⟩ => ⟨x :: xs, H2, I2, .cons r1 r2, q2⟩

/-- a tuple, a list of written items -/
def tTup (t : TA) : TE := fun σ H Q => t σ H fun xs H1 => xs.length ≤ sizeLine ∧ ∀ p, H1 p = none → Q (.ref p) (upd H1 p (.tup xs))
def tLst (t : TA) : TE := fun σ H Q => t σ H fun xs H1 => xs.length ≤ sizeLine ∧ ∀ p, H1 p = none → Q (.ref p) (upd H1 p (.lst xs))
theorem pe_tup {x1} (h : PA X es t) : PE X (.Tuple es x1 pos) (tTup t) := by
  intro pins s σ H Q I hq
  refine wpAny_Tuple_spliced (thn (h pos pins s σ H _ I hq) fun us s1 ⟨xs, H1, I1, r, z, q⟩ => ⟨by rw [← r.length]; exact z, ?_⟩)
  have hf : H1 s1.heap.objs.size = none := I1.hok.fresh (Nat.le_refl _)
  refine ⟨.ref s1.heap.objs.size, upd H1 s1.heap.objs.size (.tup xs), I1.laid (t' := s1.toks) (fun b u e => Heap.get?_push_of_some _ e) (Nat.le_refl _) ?_, rfl, q _ hf⟩
  exact ⟨z, us, r, ⟨_, Heap.get?_push_size _ rfl, rfl, _, rfl⟩⟩
theorem pe_lst (h : PA X es t) : PE X (.List es pos) (tLst t) := by
  intro pins s σ H Q I hq
  refine wpAny_List_spliced (thn (h pos pins s σ H _ I hq) fun us s1 ⟨xs, H1, I1, r, z, q⟩ => ⟨by rw [← r.length]; exact z, ?_⟩)
  have hf : H1 s1.heap.objs.size = none := I1.hok.fresh (Nat.le_refl _)
  refine ⟨.ref s1.heap.objs.size, upd H1 s1.heap.objs.size (.lst xs), I1.laid (t' := s1.toks) (fun b u e => Heap.get?_push_of_some _ e) (Nat.le_refl _) ?_, rfl, q _ hf⟩
  exact ⟨z, us, 0, r, Heap.get?_push_size _ rfl⟩
end

/-! ### what a def promises -/
/-- a def's promise: the bound arguments in the parameters' order, the heap, the wanted end, the wanted exception -/
abbrev Sp := List V → Hp → VK → XK → Prop
/-- how an exception lies behind a call (file 08 gives it): the callers' frames, abstract heap and state ahead of the call, the wish, the exception, the state -/
abbrev CXT := List Env → Hp → Shared → XK → Value → Shared → Prop

/-- the state at a call -/
structure Env0 (P : Program) (w : World) (K : PySem.W.Frag) (mg : Str → Option Value) (base : Heap) (A : Around) (outer : List Env) (s : Shared) (H : Hp) : Prop where
  frames : A.frames = some outer
  mod : Mod K mg base
  bs : ∀ b o, base.get? b = some o → s.heap.get? b = some o ∧ H b = none
  bsz : base.objs.size ≤ s.heap.objs.size
  funs : s.heap.FunFrames base outer
  frf : ∀ b ∈ frs outer, H b = none
  hok : HOk P w H s.heap
  bare : AllBare s.gens
/-- a call's end -/
def CE (outer : List Env) (P : Program) (w : World) (H : Hp) (s : Shared) (Q : VK) (u : Value) (s' : Shared) : Prop :=
  ∃ v H', s'.os = s.os ∧ AllBare s'.gens ∧ Un (frs outer) [] H H' s.heap s'.heap ∧ HOk P w H' s'.heap ∧ RelV v u ∧ Q v H'
def CR (CX : CXT) (outer : List Env) (P : Program) (w : World) (H : Hp) (s : Shared) (Q : VK) (E : XK) (r : Result) (s' : Shared) : Prop :=
  match r with
  | .ok (.ret u) => CE outer P w H s Q u s'
  | .ok _ => False
  | .error e => CX outer H s E e s'
structure FnOk (P : Program) (w : World) (K : PySem.W.Frag) (mg : Str → Option Value) (base : Heap) (CX : CXT) (k : Nat) (f : Addr) (fd : FuncData) (ps : List Str) (sp : Sp) : Prop where
  len : ∀ vs H Q E, sp vs H Q E → vs.length = ps.length
  run : ∀ (A : Around) (outer : List Env) (s : Shared) (H : Hp) (args : Args) (us : List Value) (vs : List V) (Q : VK) (E : XK), Room k A → Env0 P w K mg base A outer s H → BindsTo s fd args (ps.zip us) → Vals vs us → sp vs H Q E →
    codeAny (model P w) A (.call (.ref f) args) (CR CX outer P w H s Q E) s
theorem FnOk.mono {P : Program} {w : World} {K : PySem.W.Frag} {mg : Str → Option Value} {base : Heap} {CX : CXT} {j k : Nat} {f : Addr} {fd : FuncData} {ps : List Str} {sp : Sp} (F : FnOk P w K mg base CX j f fd ps sp) (h : j ≤ k) :
    FnOk P w K mg base CX k f fd ps sp := ⟨F.len, fun A outer s H args us vs Q E hr => F.run A outer s H args us vs Q E (hr.mono h)⟩

theorem Env0.make {P : Program} {w : World} {K : PySem.W.Frag} {mg : Str → Option Value} {base : Heap} {A : Around} {outer : List Env} {s : Shared} {H : Hp} (e : Env0 P w K mg base A outer s H) (C : Addr) (us : List Value) (kw : List (Str × Value)) :
    Env0 P w K mg base (A.under (.builtin "type.__call__" ⟨.ref C :: us, kw⟩)) outer s H := ⟨by first | exact e.frames | (simpa [Around.under, Code.envs, Code.isFrame, pushEnvs] using e.frames), e.mod, e.bs, e.bsz, e.funs, e.frf, e.hok, e.bare⟩

section
variable {X : Cx} {pins : List (Addr × Obj)} {σ : St} {H : Hp} {s s' : Shared}
/-- from a body: what a callee wants -/
theorem Inv.env0 (I : Inv X pins σ H s) : Env0 X.prog X.w X.K X.mg X.base X.A X.stack s H :=
  ⟨I.ok.frames, I.ok.mod, I.bs, Nat.le_trans I.ok.bsz I.sz, I.stack, I.stkFree, I.hok, I.bare⟩
/-- behind a call -/
theorem Inv.after {Q : VK} {u : Value} (I : Inv X pins σ H s) (h : CE X.stack X.prog X.w H s Q u s') : EP X pins σ Q u s' := by
  obtain ⟨v, H', os, bare, un, hok, r, q⟩ := h
  obtain ⟨hh, g, d, t, os'⟩ := s'
  obtain rfl : os' = s.os := os
  exact ⟨v, H', I.call (h' := hh) (g' := g) (d' := d) (t' := t) (ch := []) un hok bare (fun b z => absurd z (by simp)), r, q⟩
end

/-! ### calls -/
/-- f(..): the written arguments, then the defaults dvs; E: what is wanted of an exception -/
def tCall (sp : Sp) (dvs : List V) (E : XK) (t : TA) : TE := fun σ H Q => t σ H fun vs H1 => sp (vs ++ dvs) H1 Q E
/-- o.m(..) of an instance of the class at C -/
def tMeth (C : Addr) (m : Str) (sp : Sp) (dvs : List V) (E : XK) (ta : TE) (t : TA) : TE := fun σ H Q => ta σ H fun x H1 => ∃ a dx fs, x = .ref a ∧ H1 a = some (.ins C dx fs) ∧ fs.lookup m = none ∧
  t σ H1 fun vs H2 => sp (x :: (vs ++ dvs)) H2 Q E
/-- C(..): a new instance and its dict, then __init__ -/
def tMake (C : Addr) (sp : Sp) (dvs : List V) (E : XK) (t : TA) : TE := fun σ H Q => t σ H fun vs H1 => ∀ x dx, H1 x = none → H1 dx = none → dx ≠ x →
  sp (.ref x :: (vs ++ dvs)) (upd (upd H1 dx (.own x)) x (.ins C dx [])) (fun v H2 => v = .non ∧ Q (.ref x) H2) E

/-- how the parameters are bound: us the positional arguments, kw the keywords' values by name, ds the defaults that fill up -/
def Binds (K : PySem.W.Frag) (fd : FuncData) (ps : List Str) (ds : List Value) : Prop :=
  ∀ (s : Shared) (us : List Value), K.In s.heap → (us ++ ds).length = ps.length → BindsTo s fd ⟨us, []⟩ (ps.zip (us ++ ds))
/-- every parameter is given -/
theorem Binds.all {K : PySem.W.Frag} {fd : FuncData} {ps : List Str} (h : ∀ us : List Value, us.length = ps.length → bindArgs fd ⟨us, []⟩ = pure (ps.zip us)) : Binds K fd ps [] := fun s us _ hl => by
  rw [List.append_nil] at hl ⊢
  exact .of_eq (h us hl)

/-- an exception of a callee reaches what this body wants of exceptions -/
def Passes (CX : CXT) (X : Cx) (E : XK) : Prop := ∀ (pins : List (Addr × Obj)) (σ : St) (H : Hp) (s : Shared) (e : Value) (s' : Shared), Inv X pins σ H s → CX X.stack H s E e s' → X.xe e s'

section
variable {X : Cx} {CX : CXT} {k : Nat} {f C : Addr} {fd : FuncData} {ps : List Str} {sp : Sp} {dvs : List V} {ds : List Value} {E : XK} {x m : Str} {p pos apos : Pos} {e o : Expr} {es : List Expr} {ta : TE} {t : TA}

/-- the callee runs -/
theorem run_fn {pins : List (Addr × Obj)} {σ : St} {H : Hp} {s : Shared} {Q : VK} {us : List Value} {vs : List V} (F : FnOk X.prog X.w X.K X.mg X.base CX k f fd ps sp) (hr : Room k X.A) (hb : Binds X.K fd ps ds) (hd : Vals dvs ds) (hx : Passes CX X E)
    (I : Inv X pins σ H s) (r : Vals vs us) (h : sp (vs ++ dvs) H Q E) : wpAny (model X.prog X.w) X.A (call (.ref f) us) (EP X pins σ Q) X.xe s := by
  have r2 : Vals (vs ++ dvs) (us ++ ds) := r.append hd
  have hl : (us ++ ds).length = ps.length := by rw [← r2.length]; exact F.len _ _ _ _ h
  refine wpAny_call (codeAny_mono (F.run X.A X.stack s H ⟨us, []⟩ (us ++ ds) (vs ++ dvs) Q E hr I.env0 (hb s us I.kIn hl) r2 h) fun r s' hq => ?_)
  cases r with
  | error e => exact hx pins σ H s e s' I hq
  | ok fl =>
    cases fl with
    | ret u => exact I.after hq
    | next => exact False.elim hq
    | brk => exact False.elim hq
    | cont => exact False.elim hq

theorem pe_call (F : FnOk X.prog X.w X.K X.mg X.base CX k f fd ps sp) (hr : Room k X.A) (hg : Gl X x) (hm : X.mg x = some (.ref f)) (hk : PySem.W.keepIn X.K (.ref f) = true) (hb : Binds X.K fd ps ds) (hd : Vals dvs ds) (hx : Passes CX X E)
    (ha : PA X (e :: es) t) (hdb : (x == ("__debug__" : Str)) = false := by decide) (he : starEach (e :: es) X.env = (false, eval e X.env) :: starEach es X.env := by rfl) (hpl : (backTo pos (starEach es X.env)).any (·.1) = false := by rfl) :
    PE X (.Call (.Name x p) (e :: es) [] pos) (tCall sp dvs E t) := by
  intro pins s σ H Q I h
  refine wpAny_Call_Name_kw (ld_glob I hg hm ?_ hdb)
  refine PySem.W.callWith_K (h₀ := X.base) I.ok.mod.kin hk (thn (ha pos pins s σ H _ I h) fun us s1 ⟨vs, H1, I1, r, q⟩ => ⟨I1.kIn, ?_⟩) he hpl
  exact run_fn F hr hb hd hx I1 r q

/-- o.m(e, ..) -/
theorem pe_meth {pl : Sem Bool} (he : PE X o ta) (c : Cls X.K C) (hm : Meth X.K C m f) (F : FnOk X.prog X.w X.K X.mg X.base CX k f fd ps sp) (hr : Room k X.A) (hb : Binds X.K fd ps ds) (hd : Vals dvs ds) (hx : Passes CX X E) (ha : PA X (e :: es) t)
    (hst : starEach (e :: es) X.env = (false, eval e X.env) :: starEach es X.env := by rfl) (hpl : (backTo pos (starEach es X.env)).any (·.1) = false := by rfl)
    (ht : eval (.Call (.Attribute o m apos) (e :: es) [] pos) X.env = (do
      let ov ← eval o X.env
      standAt apos.atName
      let (f, first) ← holding [ov] (getMethod ov m pl)
      callWith pos f first (backTo pos (starEach (e :: es) X.env)) (backToKw pos (keywordEach [] X.env))) := by rfl) :
    PE X (.Call (.Attribute o m apos) (e :: es) [] pos) (tMeth C m sp dvs E ta t) := by
  intro pins s σ H Q I h
  refine PySem.W.methodCall_KW (pl := pl) (thn (he pins s σ H _ I h) fun u s1 ⟨x, H1, I1, rx, a, dx, fs, ex, ea, l, q⟩ => ?_) ht
  subst ex
  obtain rfl : u = Value.ref a := rx
  refine getmeth_ok I1 ea c hm l ?_
  refine PySem.W.callWith_K (first := [.ref a]) (h₀ := X.base) I.ok.mod.kin hm.kp (thn (ha pos pins s1 σ H1 _ I1 q) fun us s2 ⟨vs, H2, I2, r, q2⟩ => ⟨I2.kIn, ?_⟩) hst hpl
  exact run_fn (us := .ref a :: us) (vs := .ref a :: vs) F hr hb hd hx I2 (.cons rfl r) q2
/-- o.m() -/
theorem pe_meth0 {pl : Sem Bool} (he : PE X o ta) (c : Cls X.K C) (hm : Meth X.K C m f) (F : FnOk X.prog X.w X.K X.mg X.base CX k f fd ps sp) (hr : Room k X.A) (hb : Binds X.K fd ps ds) (hd : Vals dvs ds) (hx : Passes CX X E)
    (ht : eval (.Call (.Attribute o m apos) [] [] pos) X.env = (do
      let ov ← eval o X.env
      standAt apos.atName
      let (f, first) ← holding [ov] (getMethod ov m pl)
      callWith pos f first (backTo pos (starEach [] X.env)) (backToKw pos (keywordEach [] X.env))) := by rfl) :
    PE X (.Call (.Attribute o m apos) [] [] pos) (tMeth C m sp dvs E ta tNil) := by
  intro pins s σ H Q I h
  refine PySem.W.methodCall_KW (pl := pl) (thn (he pins s σ H _ I h) fun u s1 ⟨x, H1, I1, rx, a, dx, fs, ex, ea, l, q⟩ => ?_) ht
  subst ex
  obtain rfl : u = Value.ref a := rx
  refine getmeth_ok I1 ea c hm l ?_
  exact PySem.W.callWith_K0 (first := [.ref a]) I1.kIn hm.kp (run_fn (us := [.ref a]) (vs := [.ref a]) F hr hb hd hx I1 (.cons rfl .nil) q)

/-- what a class must have to be made -/
structure Mk (K : PySem.W.Frag) (C f : Addr) : Prop where
  makes : PySem.W.makesIn K C = true
  init : PySem.W.findIn K (.ref C) "__init__" = some (some (.ref f))
  fn : PySem.W.isFn K (.ref f) = true
  kp : PySem.W.keepIn K (.ref C) = true

theorem run_make {pins : List (Addr × Obj)} {σ : St} {H : Hp} {s : Shared} {Q : VK} {us : List Value} {vs : List V} (M : Mk X.K C f) (F : FnOk X.prog X.w X.K X.mg X.base CX k f fd ps sp) (hr : Room (k + 1) X.A) (hb : Binds X.K fd ps ds) (hd : Vals dvs ds)
    (hx : Passes CX X E) (I : Inv X pins σ H s) (r : Vals vs us)
    (h : ∀ x dx, H x = none → H dx = none → dx ≠ x → sp (.ref x :: (vs ++ dvs)) (upd (upd H dx (.own x)) x (.ins C dx [])) (fun v H2 => v = .non ∧ Q (.ref x) H2) E) :
    wpAny (model X.prog X.w) X.A (call (.ref C) us) (EP X pins σ Q) X.xe s := by
  have hq := h (s.heap.objs.size + 1) s.heap.objs.size (I.hok.fresh (Nat.le_succ _)) (I.hok.fresh (Nat.le_refl _)) (Nat.ne_of_lt (Nat.lt_succ_self _))
  have I2 := Inv.made (C := C) I
  have r2 : Vals (V.ref (s.heap.objs.size + 1) :: (vs ++ dvs)) (Value.ref (s.heap.objs.size + 1) :: (us ++ ds)) := .cons rfl (r.append hd)
  have hl : (Value.ref (s.heap.objs.size + 1) :: us ++ ds).length = ps.length := by
    have e := r2.length
    rw [F.len _ _ _ _ hq] at e
    exact e.symm
  refine wpAny_call (make_map (f := f) I.kIn M.makes M.init (beq_iff_eq.mp M.fn) (codeAny_mono (F.run _ X.stack _ _ ⟨Value.ref (s.heap.objs.size + 1) :: us, []⟩ (Value.ref (s.heap.objs.size + 1) :: (us ++ ds)) _ _ E (hr.make C us [])
    (I2.env0.make C us []) (hb _ (Value.ref (s.heap.objs.size + 1) :: us) I2.kIn hl) r2 hq) fun r s' hq' => ?_))
  cases r with
  | error e => exact hx pins σ _ _ e s' I2 hq'
  | ok fl =>
    cases fl with
    | ret u =>
      obtain ⟨v, H', I3, rv, ev, q3⟩ := I2.after hq'
      subst ev
      exact ⟨rv, ⟨V.ref (s.heap.objs.size + 1), H', I3, rfl, q3⟩⟩
    | next => exact False.elim hq'
    | brk => exact False.elim hq'
    | cont => exact False.elim hq'
theorem pe_make (M : Mk X.K C f) (F : FnOk X.prog X.w X.K X.mg X.base CX k f fd ps sp) (hr : Room (k + 1) X.A) (hg : Gl X x) (hm : X.mg x = some (.ref C)) (hb : Binds X.K fd ps ds) (hd : Vals dvs ds) (hx : Passes CX X E)
    (ha : PA X (e :: es) t) (hdb : (x == ("__debug__" : Str)) = false := by decide) (he : starEach (e :: es) X.env = (false, eval e X.env) :: starEach es X.env := by rfl) (hpl : (backTo pos (starEach es X.env)).any (·.1) = false := by rfl) :
    PE X (.Call (.Name x p) (e :: es) [] pos) (tMake C sp dvs E t) := by
  intro pins s σ H Q I h
  refine wpAny_Call_Name_kw (ld_glob I hg hm ?_ hdb)
  refine PySem.W.callWith_K (h₀ := X.base) I.ok.mod.kin M.kp (thn (ha pos pins s σ H _ I h) fun us s1 ⟨vs, H1, I1, r, q⟩ => ⟨I1.kIn, ?_⟩) he hpl
  exact run_make M F hr hb hd hx I1 r q
end

/-! ### keywords -/
section
variable {X : Cx} {CX : CXT} {k : Nat} {f C : Addr} {fd : FuncData} {ps ks : List Str} {sp : Sp} {E : XK} {x m : Str} {p pos apos kpos : Pos} {e o : Expr} {es : List Expr} {kws : List Keyword} {te ta : TE} {t tk : TA} {nm : Option Str}

variable {g : List Value → List Value → List Value} {gV : List V → List V → List V}
end

/-! ### a def's body keeps its promise -/
/-- names: the parameters first -/
structure FnScope (N P : List Str) (sc : Scope) : Prop where
  kind : sc.kind = .function
  co : sc.isCoroutine = false
  gen : sc.isGenerator = false
  nd : N.Nodup
  pre : N.take P.length = P
  par : ∀ x ∈ P, sc.names.lookup x = some .local ∨ sc.names.lookup x = some .cell
  nofree : ∀ y ∈ sc.names, y.2 ≠ .free

theorem bindL_out {kindOf : Str → Option NameKind} {x : Str} : ∀ {binds : List (Str × Value)} {m : Str → Option Value}, (∀ v, (x, v) ∉ binds) → bindL kindOf binds m x = m x
  | [], _, _ => rfl
  | (n, v) :: r, m, h => by
    unfold bindL
    rw [bindL_out fun w hw => h w (List.mem_cons_of_mem _ hw)]
    split
    · have : x ≠ n := by rintro rfl; exact h v List.mem_cons_self
      simp [this]
    · rfl
theorem bindC_out {kindOf : Str → Option NameKind} {x : Str} : ∀ {binds : List (Str × Value)} {m : Str → Option Value}, (∀ v, (x, v) ∉ binds) → bindC kindOf binds m x = m x
  | [], _, _ => rfl
  | (n, v) :: r, m, h => by
    unfold bindC
    rw [bindC_out fun w hw => h w (List.mem_cons_of_mem _ hw)]
    split
    · rfl
    · have : x ≠ n := by rintro rfl; exact h v List.mem_cons_self
      simp [this]
theorem bindL_get {kindOf : Str → Option NameKind} {x : Str} {v : Value} : ∀ {P : List Str} {vs : List Value} {i : Nat} {m : Str → Option Value}, P.Nodup → P[i]? = some x → vs[i]? = some v → kindOf x = some .local →
    bindL kindOf (P.zip vs) m x = some v
  | [], _, _, _, _, h, _, _ => by simp at h
  | _ :: _, [], _, _, _, _, h, _ => by simp at h
  | p :: P, w :: vs, 0, m, nd, h1, h2, hk => by
    simp at h1 h2; subst h1; subst h2
    show bindL kindOf ((p, w) :: P.zip vs) m p = _
    unfold bindL
    rw [bindL_out fun v hv => (List.nodup_cons.mp nd).1 (List.of_mem_zip hv).1, if_pos hk]
    simp
  | p :: P, w :: vs, i + 1, m, nd, h1, h2, hk => by
    show bindL kindOf ((p, w) :: P.zip vs) m x = _
    unfold bindL
    exact bindL_get (i := i) (List.nodup_cons.mp nd).2 (by simpa using h1) (by simpa using h2) hk
theorem bindC_get {kindOf : Str → Option NameKind} {x : Str} {v : Value} : ∀ {P : List Str} {vs : List Value} {i : Nat} {m : Str → Option Value}, P.Nodup → P[i]? = some x → vs[i]? = some v → kindOf x ≠ some .local →
    bindC kindOf (P.zip vs) m x = some v
  | [], _, _, _, _, h, _, _ => by simp at h
  | _ :: _, [], _, _, _, _, h, _ => by simp at h
  | p :: P, w :: vs, 0, m, nd, h1, h2, hk => by
    simp at h1 h2; subst h1; subst h2
    show bindC kindOf ((p, w) :: P.zip vs) m p = _
    unfold bindC
    rw [bindC_out fun v hv => (List.nodup_cons.mp nd).1 (List.of_mem_zip hv).1, if_neg hk]
    simp
  | p :: P, w :: vs, i + 1, m, nd, h1, h2, hk => by
    show bindC kindOf ((p, w) :: P.zip vs) m x = _
    unfold bindC
    exact bindC_get (i := i) (List.nodup_cons.mp nd).2 (by simpa using h1) (by simpa using h2) hk

/-- the names' values at the entry -/
def start (N : List Str) (vs : List V) : St := vs.map some ++ List.replicate (N.length - vs.length) none

/-- the context of a def's body, at its entry; an exception leaves the frame, then lies as CX says -/
def cxOf (CX : CXT) (P : Program) (w : World) (K : PySem.W.Frag) (mg : Str → Option Value) (base : Heap) (N : List Str) (qual : Str) (scope : Scope) (f : Addr) (cd : Value) (A : Around) (outer : List Env) (s : Shared) (H : Hp) (E : XK) : Cx where
  prog := P
  w := w
  K := K
  mg := mg
  base := base
  A := A.deeper (envOfC qual scope s.heap.objs.size f cd)
  N := N
  s₀ := s
  H₀ := H
  env := envOfC qual scope s.heap.objs.size f cd
  outer := outer
  stack := envOfC qual scope s.heap.objs.size f cd :: outer
  ex := []
  calm := true
  fn := fun _ => true
  pn := []
  xe := fun e s' => wpAny (model P w) (A.deeper (envOfC qual scope s.heap.objs.size f cd)) (leaving (envOfC qual scope s.heap.objs.size f cd) e) (fun _ s'' => CX outer H s E e s'') (fun e' s'' => CX outer H s E e' s'') s'

theorem cell_has {sc : Scope} {n : Nat} {x : Str} (h : sc.names.lookup x = some .cell) : ∃ c, (cellsFrom n sc.names []).lookup x = some c := by
  have q := PySem.W.cellsFrom_some sc.names n [] (.inl h)
  exact Option.isSome_iff_exists.mp q

theorem inv_start {CX : CXT} {P : Program} {w : World} {K : PySem.W.Frag} {mg : Str → Option Value} {base : Heap} {N ps : List Str} {qual : Str} {scope : Scope} {f : Addr} {cd : Value} {A : Around} {outer : List Env} {s s1 : Shared} {H : Hp} {E : XK} {us : List Value} {vs : List V}
    (S : FnScope N ps scope) (hd : A.handled = none) (e0 : Env0 P w K mg base A outer s H) (hl : vs.length = ps.length) (r : Vals vs us)
    (x : InCallC s s.heap.objs.size (bindL (envOfC qual scope s.heap.objs.size f cd).kindOf (ps.zip us) fun _ => none) (cellsFrom (s.heap.objs.size + 1) scope.names []) (bindC (envOfC qual scope s.heap.objs.size f cd).kindOf (ps.zip us) fun _ => none) s1) :
    Inv (cxOf CX P w K mg base N qual scope f cd A outer s H E) [] (start N vs) H s1 := by
  have hpl : ps.length ≤ N.length := by have := congrArg List.length S.pre; rw [List.length_take] at this; omega
  obtain ⟨h1, tk, rfl, hk⟩ := x.done
  have noA : ∀ b : Addr, b ∉ (cxOf CX P w K mg base N qual scope f cd A outer s H E).ex := fun b z => absurd (show b ∈ ([] : List Addr) from z) (by simp)
  refine ⟨⟨e0.mod, S.kind, rfl, rfl, Nat.le_refl _, fun y z c h1 h2 => ?_, fun y hy => ?_, fun y c _ h => ?_, fun _ => hd, Around.frames_deeper e0.frames, .inr ⟨rfl, rfl⟩, fun b z => absurd z (noA b), e0.bs, e0.bsz, fun b _ _ => noA b, fun b z => absurd z (noA b), e0.funs, e0.frf⟩,
    rfl, e0.bare, Un.kept hk, ⟨_, x.toInCall.ns, fun i y v h1 h2 h3 => ?_⟩, fun y c h => ⟨_, x.cell y c h⟩, e0.hok.fresh (Nat.le_refl _), fun y c h => ?_, fun p hp => absurd (show p ∈ ([] : List (Addr × Obj)) from hp) (by simp), e0.hok.kept hk, ?_⟩
  · exact name_of_addr x.apart (PySem.mem_of_lookup h1) (PySem.mem_of_lookup h2)
  · have hy : scope.names.lookup y = some .cell ∨ scope.names.lookup y = some .free := hy
    rcases hy with hy | hy
    · exact cell_has hy
    · exact absurd rfl (S.nofree _ (PySem.mem_of_lookup hy))
  · exact Nat.le_of_lt (x.above y c (PySem.mem_of_lookup h))
  · have hi : i < vs.length := by
      unfold start at h2
      by_cases hi : i < vs.length
      · exact hi
      · rw [List.getElem?_append_right (by simpa using hi)] at h2
        rw [List.getElem?_replicate] at h2
        split at h2 <;> cases h2
    have ha : vs[i]? = some v := by
      unfold start at h2
      rw [List.getElem?_append_left (by simpa using hi), List.getElem?_map] at h2
      cases e : vs[i]? with
      | none => rw [e] at h2; cases h2
      | some a => rw [e] at h2; cases h2; rfl
    obtain ⟨u, hu, rv⟩ := r.get ha
    have hp : ps[i]? = some y := by
      rw [← S.pre, List.getElem?_take_of_lt (by omega)]; exact h1
    have ndP : ps.Nodup := by rw [← S.pre]; exact S.nd.sublist (List.take_sublist _ _)
    refine ⟨u, rv, ?_⟩
    rcases S.par y (List.mem_of_getElem? hp) with k | k
    · exact .inl ⟨k, bindL_get ndP hp hu k⟩
    · obtain ⟨c, e⟩ := cell_has (n := s.heap.objs.size + 1) k
      refine .inr ⟨.inl k, c, e, ?_⟩
      have q := x.cell y c e
      rw [bindC_get ndP hp hu (by show scope.names.lookup y ≠ _; rw [k]; decide)] at q
      exact q
  · exact e0.hok.fresh (Nat.le_of_lt (x.above y c (PySem.mem_of_lookup h)))
  · unfold start
    show _ = N.length
    rw [List.length_append, List.length_map, List.length_replicate]
    omega

/-- THE RULE: a def (or a method) of the text, by its body. The body's reading t is chosen for each entry; it is run at the parameters' values -/
theorem fn_of {CX : CXT} {P : Program} {w : World} {K : PySem.W.Frag} {mg : Str → Option Value} {base : Heap} {k : Nat} {f : Addr} {name qual : Str} {params : Arguments} {body : List Stmt} {scope : Scope} {dV kV doc pm cdv ct oc : Value} {an od : Option Addr}
    {osl : Array (Option Value)} {N ps : List Str} {sp : Sp} (lk : K.lookup f = some ⟨oc, od, .func (PySem.W.fnOf name qual params body scope dV kV doc pm an cdv ct), osl⟩) (hcd : PySem.W.codeIn K cdv qual = true) (S : FnScope N ps scope)
    (len : ∀ vs H Q E, sp vs H Q E → vs.length = ps.length)
    (hbody : ∀ (A : Around) (outer : List Env) (s : Shared) (H : Hp) (vs : List V) (Q : VK) (E : XK), Room k (A.deeper (envOfC qual scope s.heap.objs.size f cdv)) → sp vs H Q E →
      ∃ t, PSs (cxOf CX P w K mg base N qual scope f cdv A outer s H E) body t ∧ t { nx := fun _ H' => Q .non H', rt := Q } (start N vs) H) :
    FnOk P w K mg base CX (k + 1) f (PySem.W.fnOf name qual params body scope dV kV doc pm an cdv ct) ps sp := by
  refine ⟨len, fun A outer s H args us vs Q E hr e0 hb r hsp => ?_⟩
  have hl := len _ _ _ _ hsp
  have KX : K.In s.heap := e0.mod.kin.keeps fun b o e => (e0.bs b o e).1
  have lim : s.heap.NoLimit := e0.mod.nolimit.keeps fun b o e => (e0.bs b o e).1
  have hkind : ∀ y ∈ ps.zip us, scope.names.lookup y.1 = some .local ∨ (scope.names.lookup y.1 = some .cell ∧ ((cellsFrom (s.heap.objs.size + 1) scope.names []).lookup y.1).isSome = true) := fun ⟨n, v⟩ hy => by
    rcases S.par n (List.of_mem_zip hy).1 with q | q
    · exact .inl q
    · exact .inr ⟨q, PySem.W.cellsFrom_some _ _ _ (.inl q)⟩
  refine codeAny_call_function hr.depth (KX _ _ lk) rfl S.co S.gen rfl (PySem.W.codeRec_of KX hcd) (hb _ _ _ _ ?_)
  refine wpAny_newFunctionEnv_cells S.kind hkind fun env he s1 x => ?_
  subst he
  refine ⟨lim.keeps x.toInCall.keep, codeAny_func ?_⟩
  obtain ⟨t, ht, hq⟩ := hbody A outer s H vs Q E (hr.deeper _) hsp
  have I : Inv (cxOf CX P w K mg base N qual scope f cdv A outer s H E) [] (start N vs) H s1 := inv_start S hr.hd e0 hl r x
  refine wpAny_mono (ht [] s1 (start N vs) H _ I hq) (fun fl s' hs => ?_) fun e s' hs => hs
  have fin : ∀ {σ' : St} {H' : Hp} {v : V} {u : Value}, Inv (cxOf CX P w K mg base N qual scope f cdv A outer s H E) [] σ' H' s' → RelV v u → Q v H' → CE outer P w H s Q u s' :=
    fun {σ' H' v u} J rv q => ⟨v, H', J.os, J.bare, J.base, J.hok, rv, q⟩
  cases fl with
  | ret u =>
    obtain ⟨v, σ', H', J, rv, q⟩ := hs
    exact fin J rv q
  | next =>
    obtain ⟨σ', H', J, q⟩ := hs
    exact fin (v := V.non) (u := Value.none) J rfl q
  | brk =>
    obtain ⟨_, _, _, q⟩ := hs
    exact False.elim q
  | cont =>
    obtain ⟨_, _, _, q⟩ := hs
    exact False.elim q
end L2

namespace L2
open PySem PySem.Spec PyProof.Rows
section
variable {X : Cx} {x : Str} {p pos : Pos} {e : Expr} {es : List Expr} {t : TA} {id T : String} {r : List V → Hp → VK → Prop}

def tCB (r : List V → Hp → VK → Prop) (t : TA) : TE := fun σ H Q => t σ H fun vs H1 => r vs H1 Q
/-- f(e, ..), f a built-in function -/
theorem pe_callB (hc : CallR X (.builtin id) r) (hg : Gl X x) (hm : X.mg x = none) (hv : bootBuiltins x = some (.builtin id)) (ha : PA X (e :: es) t) (hn : x ≠ "__name__" := by decide) (hdb : (x == ("__debug__" : Str)) = false := by decide)
    (he : starEach (e :: es) X.env = (false, eval e X.env) :: starEach es X.env := by rfl) (hpl : (backTo pos (starEach es X.env)).any (·.1) = false := by rfl) : PE X (.Call (.Name x p) (e :: es) [] pos) (tCB r t) := by
  intro pins s σ H Q I h
  refine wpAny_Call_Name_kw (ld_blt I hg hm hv ?_ hn hdb)
  exact PyProof.Rows.callWith_builtin1 (thn (ha pos pins s σ H _ I h) fun us s1 ⟨vs, H1, I1, r1, q1⟩ => hc pins s1 σ H1 vs us Q I1 r1 q1) he hpl
/-- T(e, ..), T a built-in type -/
theorem pe_callTy (hc : CallR X (.type T) r) (hg : Gl X x) (hm : X.mg x = none) (hv : bootBuiltins x = some (.type T)) (ha : PA X (e :: es) t) (hn : x ≠ "__name__" := by decide) (hdb : (x == ("__debug__" : Str)) = false := by decide)
    (he : starEach (e :: es) X.env = (false, eval e X.env) :: starEach es X.env := by rfl) (hpl : (backTo pos (starEach es X.env)).any (·.1) = false := by rfl) : PE X (.Call (.Name x p) (e :: es) [] pos) (tCB r t) := by
  intro pins s σ H Q I h
  refine wpAny_Call_Name_kw (ld_blt I hg hm hv ?_ hn hdb)
  exact PyProof.Rows.callWith_type1 (thn (ha pos pins s σ H _ I h) fun us s1 ⟨vs, H1, I1, r1, q1⟩ => hc pins s1 σ H1 vs us Q I1 r1 q1) he hpl
end
end L2

namespace HT
open PySem PyProof.Rows



section
open PySem.SeqAt
open PySem.AutoSeq1 (wpAny_loadPart')
open PySem.MeetsSeq PySem.MeetsSeq2 PySem.MeetsSeq3

end

section
variable {prog : Program} {w : World} {A : Around} {E : Value → Shared → Prop} {s : Shared}



/-! ### t[a:b], not the whole -/
/-- a slice's bound as a place among n (d where it is left out) -/
def sIx (n d : Nat) : Option Int → Nat
  | none => d
  | some v => if v < 0 then (v + (n : Int)).toNat else min v.toNat n
theorem sIx_nat (n d k : Nat) : sIx n d (some (k : Int)) = min k n := by
  show (if (k : Int) < 0 then ((k : Int) + (n : Int)).toNat else min (k : Int).toNat n) = min k n
  rw [if_neg (by omega), Int.toNat_natCast]

end
end HT

namespace L2
open PySem PySem.Spec PyProof.Rows

/-! ### the parts of a slice -/
abbrev TO := St → Hp → (Option Int → Hp → Prop) → Prop
/-- a slice's part (left out, or an int) -/
def PO (X : Cx) (e : Option Expr) (t : TO) : Prop :=
  ∀ (pins : List (Addr × Obj)) (s : Shared) (σ : St) (H : Hp) (Q : Option Int → Hp → Prop), Inv X pins σ H s → t σ H Q →
    wpAny (model X.prog X.w) X.A (evalPart e X.env) (fun u s' => ∃ o H', Inv X pins σ H' s' ∧ IsPart u o ∧ Q o H') X.xe s
def tNoPart : TO := fun _ H Q => Q none H
def tPart (t : TE) : TO := fun σ H Q => t σ H fun x H1 => ∃ i, x = .int i ∧ Q (some i) H1


section
variable {X : Cx} {e : Expr} {te : TE} {lo hi : Option Expr} {tl th : TO} {pos p2 : Pos}

theorem po_none : PO X none tNoPart := by
  intro pins s σ H Q I h
  rw [evalPart_none]
  exact wpAny_pure ⟨none, H, I, .none, h⟩
theorem po_some (h : PE X e te) : PO X (some e) (tPart te) := by
  intro pins s σ H Q I hw
  rw [evalPart_some]
  refine thn (h pins s σ H _ I hw) fun u s1 ⟨x, H1, I1, r1, q1⟩ => ?_
  obtain ⟨i, rfl, q⟩ := q1
  obtain ⟨t, rfl⟩ := r1
  exact ⟨some i, H1, I1, .int i t, q⟩

/-- what a slice of a value is, by values: the slice object stands at sl -/
def SlR (X : Cx) (r : V → Option Int → Option Int → Hp → VK → Prop) : Prop :=
  ∀ (pins : List (Addr × Obj)) (s : Shared) (σ : St) (H : Hp) (x : V) (v vl vu : Value) (lo hi : Option Int) (sl : Addr) (Q : VK), Inv X pins σ H s → RelV x v → s.heap.IsSliceOf sl vl vu .none → IsPart vl lo → IsPart vu hi → r x lo hi H Q →
    ∃ T id, typeLookup (.type T) "__getitem__" = pure (some (.builtin id)) ∧ s.TypeIs v T ∧ wpAny (model X.prog X.w) X.A (getItem v (.ref sl)) (EP X pins σ Q) X.xe s
def tSl (r : V → Option Int → Option Int → Hp → VK → Prop) (te : TE) (tl th : TO) : TE := fun σ H Q => te σ H fun x H1 => tl σ H1 fun l H2 => th σ H2 fun u H3 => r x l u H3 Q
/-- a[lo:hi], any a -/
theorem pe_slice {r : V → Option Int → Option Int → Hp → VK → Prop} (hr : SlR X r) (he : PE X e te) (hl : PO X lo tl) (hu : PO X hi th) : PE X (.Subscript e (.Slice lo hi none p2) pos) (tSl r te tl th) := by
  intro pins s σ H Q I h
  refine Subscript_ (thn (he pins s σ H _ I h) fun v s1 ⟨x, H1, I1, r1, q1⟩ => ?_)
  refine wpAny_Slice (thn (hl pins s1 σ H1 _ I1 q1) fun vl s2 ⟨l, H2, I2, pl, q2⟩ => thn (hu pins s2 σ H2 _ I2 q2) fun vu s3 ⟨u, H3, I3, pu, q3⟩ => ?_)
  rw [evalPart_none]
  refine wpAny_pure ?_
  have I4 : Inv X pins σ H3 { s3 with heap := s3.heap.push { cls := .type "slice", data := .fields #[vl, vu, .none] } } := I3.kept (t' := s3.toks) fun b ob q => Heap.get?_push_of_some _ q
  obtain ⟨T, id, hT, ht, hg⟩ := hr pins { s3 with heap := s3.heap.push { cls := .type "slice", data := .fields #[vl, vu, .none] } } σ H3 x v vl vu l u s3.heap.objs.size Q I4 r1 (Heap.IsSliceOf.new ..) pl pu q3
  show wpAny (model X.prog X.w) X.A (subscriptTail e (.Slice lo hi none p2) v (.ref s3.heap.objs.size)) (EP X pins σ Q) X.xe { s3 with heap := s3.heap.push { cls := .type "slice", data := .fields #[vl, vu, .none] } }
  exact tail_any (ops := [.ref s3.heap.objs.size, v]) ht hT hg (by with_unfolding_all rfl)

/-- the items of xs[lo:hi] -/
def cutV (xs : List V) (lo hi : Option Int) : List V := (xs.drop (HT.sIx xs.length 0 lo)).take (HT.sIx xs.length xs.length hi - HT.sIx xs.length 0 lo)
theorem cutV_length (xs : List V) (lo hi : Option Int) : (cutV xs lo hi).length ≤ xs.length := by
  unfold cutV
  rw [List.length_take, List.length_drop]
  omega

/-! ### t < u, t + u -/
end
end L2

namespace L2
open PySem PySem.Spec PyProof.Rows

/-! ### places -/
/-- the place that an index of any sign means -/
def ixN (n : Nat) (i : Int) : Option Nat := if 0 ≤ i then (if i < n then some i.toNat else none) else if -(n : Int) ≤ i then some (i + n).toNat else none
def atI {α : Type} (xs : List α) (i : Int) : Option α := (ixN xs.length i).bind fun j => xs[j]?
theorem ixN_seq {n : Nat} {i : Int} {j : Nat} (h : ixN n i = some j) : seqIndex? i n = some j ∧ j < n ∧ -(n : Int) ≤ i ∧ i < n := by
  unfold ixN at h
  by_cases h0 : 0 ≤ i
  · rw [if_pos h0] at h
    by_cases h1 : i < n
    · rw [if_pos h1] at h
      have e : i.toNat = j := Option.some.inj h
      exact ⟨by rw [seqIndex_of h0 h1, e], by omega, by omega, h1⟩
    · rw [if_neg h1] at h; cases h
  · rw [if_neg h0] at h
    by_cases h1 : -(n : Int) ≤ i
    · rw [if_pos h1] at h
      have e : (i + n).toNat = j := Option.some.inj h
      exact ⟨by rw [seqIndex_neg (by omega) h1, e], by omega, h1, by omega⟩
    · rw [if_neg h1] at h; cases h
theorem atI_get {α : Type} {xs : List α} {i : Int} {v : α} (h : atI xs i = some v) : ∃ j, seqIndex? i xs.length = some j ∧ xs[j]? = some v ∧ j < xs.length ∧ -(xs.length : Int) ≤ i ∧ i < xs.length := by
  unfold atI at h
  cases e : ixN xs.length i with
  | none => rw [e] at h; cases h
  | some j =>
    rw [e] at h
    obtain ⟨h1, h2, h3, h4⟩ := ixN_seq e
    exact ⟨j, h1, h, h2, h3, h4⟩
theorem atI_nat {α : Type} {xs : List α} {j : Nat} {v : α} (h : xs[j]? = some v) : atI xs (j : Int) = some v := by
  have hj : j < xs.length := (List.getElem?_eq_some_iff.mp h).1
  have e : ixN xs.length (j : Int) = some j := by
    unfold ixN
    rw [if_pos (by omega), if_pos (by omega)]; simp
  unfold atI; rw [e]; exact h
theorem atI_last {α : Type} (xs : List α) (v : α) : atI (xs ++ [v]) (-1) = some v := by
  have hl : (xs ++ [v]).length = xs.length + 1 := by simp
  have e : ixN (xs ++ [v]).length (-1) = some xs.length := by
    unfold ixN
    rw [hl, if_neg (by decide), if_pos (by omega)]
    congr 1
    omega
  unfold atI
  rw [e]
  show (xs ++ [v])[xs.length]? = some v
  simp

/-! ### what may be subscripted -/
/-- what stands as an index of a plain subscript -/
def PlainIx (b : Expr) : Prop := ∀ o i, subscripted b false o i = operate [o, i] (getItem o i)
/-- a subscript by values -/
def IxR (X : Cx) (r : R2) : Prop :=
  ∀ (value slice : Expr) (pins : List (Addr × Obj)) (s : Shared) (σ : St) (H : Hp) (x y : V) (v u : Value) (Q : VK), Inv X pins σ H s → RelV x v → RelV y u → r x y H Q →
    subscripted slice false v u = operate [v, u] (getItem v u) → wpAny (model X.prog X.w) X.A (subscriptTail value slice v u) (EP X pins σ Q) X.xe s
/-- a call of a builtin's method by values: the receiver, the arguments -/
def MtR (X : Cx) (id : String) (r : V → List V → Hp → VK → Prop) : Prop :=
  ∀ (pins : List (Addr × Obj)) (s : Shared) (σ : St) (H : Hp) (x : V) (xs : List V) (v : Value) (us : List Value) (Q : VK), Inv X pins σ H s → RelV x v → Vals xs us → r x xs H Q →
    wpAny (model X.prog X.w) X.A (call (.builtin id) (v :: us)) (EP X pins σ Q) X.xe s
section
variable {X : Cx} {a b : Expr} {ta tb : TE} {pos : Pos}
/-- a[b] -/
theorem pe_ix {r : R2} (hr : IxR X r) (ha : PE X a ta) (hb : PE X b tb) (hs : PlainIx b) : PE X (.Subscript a b pos) (tOp r ta tb) := by
  intro pins s σ H Q I h
  exact Subscript_ (binT ha hb I h fun v u s2 x y H2 I2 rx ry q => hr a b pins s2 σ H2 x y v u Q I2 rx ry q (hs _ _))

def rIxL (K : PySem.W.Frag) : R2 := fun x y H Q => ∃ p xs i v, x = .ref p ∧ y = .int i ∧ SqL K H p xs ∧ atI xs i = some v ∧ Q v H
def rIxT (K : PySem.W.Frag) : R2 := fun x y H Q => ∃ p xs i v, x = .ref p ∧ y = .int i ∧ SqT K H p xs ∧ atI xs i = some v ∧ Q v H
theorem ix_list : IxR X (rIxL X.K) := by
  intro value slice pins s σ H x y v u Q I rx ry h hs
  obtain ⟨p, xs, i, z, rfl, rfl, hq, he, q⟩ := h
  cases rx
  obtain ⟨t, rfl⟩ := ry
  obtain ⟨its, r, pl, hz⟩ := I.list hq
  obtain ⟨j, h1, h2, h3, h4, h5⟩ := atI_get he
  obtain ⟨w, ew, rw'⟩ := r.get h2
  have hl := r.length
  have hn := line63
  have fin : EP X pins σ Q w s := ⟨z, H, I, rw', q⟩
  by_cases h0 : 0 ≤ i
  · have hj : i.toNat = j := by
      rw [seqIndex_of h0 h5] at h1
      exact Option.some.inj h1
    exact item_listR pl.isList h0 (by omega) (by rw [hj]; simpa using ew) fin hs
  · have hj : (i + (its.toArray.size : Int)).toNat = j := by
      rw [seqIndex_neg (by omega) h4] at h1
      rw [List.size_toArray, ← hl]
      exact Option.some.inj h1
    exact subscriptTail_builtinR (x := w) pl.isList.typeIs slot_list_getitem.lookup
      (wpAny_getItem_list_neg (Q := fun r s' => r = w ∧ EP X pins σ Q r s') pl.isList (by omega) (by rw [List.size_toArray] <;> omega) (by omega) (by rw [hj]; simpa using ew) ⟨rfl, fin⟩) hs
theorem ix_tup : IxR X (rIxT X.K) := by
  intro value slice pins s σ H x y v u Q I rx ry h hs
  obtain ⟨p, xs, i, z, rfl, rfl, hq, he, q⟩ := h
  cases rx
  obtain ⟨t, rfl⟩ := ry
  obtain ⟨its, r, pl, hz⟩ := I.tuple hq
  obtain ⟨j, h1, h2, h3, h4, h5⟩ := atI_get he
  obtain ⟨w, ew, rw'⟩ := r.get h2
  have hl := r.length
  have hn := line63
  have fin : EP X pins σ Q w s := ⟨z, H, I, rw', q⟩
  exact subscriptTail_builtinR (x := w) pl.typeIs slot_tuple_getitem.lookup
    (getItem_tuple (j := j) (Q := fun r s' => r = w ∧ EP X pins σ Q r s') pl (by omega) (by omega) (by rw [List.size_toArray, ← hl]; exact h1) (by simpa using ew) ⟨rfl, fin⟩) hs

/-! ### xs[i] = v, any sign -/
/-- the list's object behind a store -/
theorem mapSeq_set (its : List Value) (n j : Nat) (u : Value) : Obj.mapSeq (·.setIfInBounds j u) { cls := .type "list", data := .seq its.toArray n } = { cls := .type "list", data := .seq (its.set j u).toArray n } := by
  simp [Obj.mapSeq]
theorem Inv.lst {pins : List (Addr × Obj)} {σ : St} {H : Hp} {s : Shared} {p : Addr} {xs : List V} (I : Inv X pins σ H s) (h : H p = some (.lst xs)) :
    ∃ (its : List Value) (n : Nat), Vals xs its ∧ s.heap.get? p = some { cls := .type "list", data := .seq its.toArray n } ∧ xs.length ≤ sizeLine := by
  obtain ⟨z, its, n, r, e⟩ := I.hok p _ h
  exact ⟨its, n, r, e, z⟩
/-- the list at p is written by an update of its object -/
theorem Inv.lstUpd {pins : List (Addr × Obj)} {σ : St} {H : Hp} {s : Shared} {p : Addr} {xs ys : List V} {its its' : List Value} {n n' : Nat} {f : Obj → Obj} (I : Inv X pins σ H s) (h : H p = some (.lst xs))
    (ho : s.heap.get? p = some { cls := .type "list", data := .seq its.toArray n }) (hf : f { cls := .type "list", data := .seq its.toArray n } = { cls := .type "list", data := .seq its'.toArray n' }) (r : Vals ys its') (hz : ys.length ≤ sizeLine) (t : Nat) :
    Inv X pins σ (upd H p (.lst ys)) { s with heap := s.heap.update p f, toks := t } := by
  have e : (s.heap.update p f).get? p = some { cls := .type "list", data := .seq its'.toArray n' } := by
    rw [Heap.get?_update_self f ho (by rw [hf] <;> rfl), hf]
  refine I.write (x := p) (e := p) (by rw [h]; trivial) (.inl rfl) (fun b u hb q => (Heap.get?_update_other _ _ (Ne.symm hb)).trans q) ⟨_, e⟩ ?_
  exact ⟨hz, its', n', r, e⟩
def rSetL : V → V → V → Hp → (Hp → Prop) → Prop := fun o i v H Q => ∃ p xs k j, o = .ref p ∧ i = .int k ∧ H p = some (.lst xs) ∧ ixN xs.length k = some j ∧ Q (upd H p (.lst (xs.set j v)))
theorem set_list : PSet X rSetL := by
  intro pins s σ H o i v ov iv u Q I ro ri rv h
  obtain ⟨p, xs, k, j, rfl, rfl, hp, hj, q⟩ := h
  cases ro
  obtain ⟨t, rfl⟩ := ri
  obtain ⟨its, n, r, ho, hz⟩ := I.lst hp
  obtain ⟨h1, h2, h3, h4⟩ := ixN_seq hj
  have hl := r.length
  have hn := line63
  have I' : Inv X pins σ (upd H p (.lst (xs.set j v))) { s with heap := s.heap.update p (Obj.mapSeq (·.setIfInBounds j u)) } :=
    I.lstUpd hp ho (mapSeq_set its n j u) (r.set rv j) (by rw [List.length_set]; exact hz) s.toks
  by_cases h0 : 0 ≤ k
  · have hk : k.toNat = j := by
      rw [seqIndex_of h0 h4] at h1
      exact Option.some.inj h1
    exact PySem.W.ki_setAt ho h0 (by omega) (by rw [List.size_toArray, ← hl]; exact h4) (by rw [hk]; exact ⟨_, I', q⟩)
  · have hk : (k + (its.toArray.size : Int)).toNat = j := by
      rw [seqIndex_neg (by omega) h3] at h1
      rw [List.size_toArray, ← hl]
      exact Option.some.inj h1
    exact PySem.W.ki_setBack ho (by omega) (by rw [List.size_toArray, ← hl]; exact h3) (by omega) (by rw [hk]; exact ⟨_, I', q⟩)

/-! ### slices -/
theorem slice_bounds (lo hi : Option Int) (n : Nat) : (sliceBounds lo hi none n).1 = ((HT.sIx n 0 lo : Nat) : Int) ∧ (sliceBounds lo hi none n).2.1 = ((HT.sIx n n hi : Nat) : Int) ∧ (sliceBounds lo hi none n).2.2 = 1 := by
  refine ⟨?_, ?_, rfl⟩
  · cases lo with
    | none => simp [sliceBounds, HT.sIx]
    | some i =>
      simp only [sliceBounds, HT.sIx, Option.getD_none, show (1 : Int) > 0 by decide, if_true]
      by_cases h : i < 0
      · simp only [h, if_true] <;> omega
      · simp only [h, if_false] <;> omega
  · cases hi with
    | none => simp [sliceBounds, HT.sIx]
    | some i =>
      simp only [sliceBounds, HT.sIx, Option.getD_none, show (1 : Int) > 0 by decide, if_true]
      by_cases h : i < 0
      · simp only [h, if_true] <;> omega
      · simp only [h, if_false] <;> omega
theorem slicePick_cut (its : List Value) (lo hi : Option Int) : slicePick its.toArray lo hi none = ((its.drop (HT.sIx its.length 0 lo)).take (HT.sIx its.length its.length hi - HT.sIx its.length 0 lo)).toArray := by
  obtain ⟨h1, h2, h3⟩ := slice_bounds lo hi its.toArray.size
  unfold slicePick
  rw [h1, h2, h3]
  simp only [sliceRange_one, pick_run, List.size_toArray] <;> rfl
/-- xs[lo:hi] of a list: a new list -/
def rSlL (K : PySem.W.Frag) : V → Option Int → Option Int → Hp → VK → Prop := fun x lo hi H Q => ∃ a xs, x = .ref a ∧ SqL K H a xs ∧ ∀ p, H p = none → Q (.ref p) (upd H p (.lst (cutV xs lo hi)))
theorem sl_list : SlR X (rSlL X.K) := by
  intro pins s σ H x v vl vu lo hi sl Q I rx hs pl pu h
  obtain ⟨a, xs, rfl, hx, q⟩ := h
  cases rx
  obtain ⟨its, r, ht, hz⟩ := I.list hx
  have hlen := r.length
  refine ⟨"list", _, slot_list_getitem.lookup, ht.isList.typeIs, ?_⟩
  refine wpAny_getItem_list_slice ht.isList hs pl pu .none (by simp) ?_ (by rw [List.size_toArray] <;> omega)
  rw [slicePick_cut, ← hlen]
  refine ⟨.ref s.heap.objs.size, _, I.laid (t' := s.toks) (o := .lst (cutV xs lo hi)) (fun b ob q => Heap.get?_push_of_some _ q) (Nat.le_refl _) ?_, rfl, q _ (I.hok.fresh (Nat.le_refl _))⟩
  exact ⟨Nat.le_trans (cutV_length xs lo hi) hz, _, 0, (r.drop (HT.sIx xs.length 0 lo)).take (HT.sIx xs.length xs.length hi - HT.sIx xs.length 0 lo), Heap.get?_push_size _ rfl⟩

/-! ### in, not in: flat items -/
def flatV : V → Bool
  | .non => true
  | .bl _ => true
  | .int _ => true
  | .str _ => true
  | _ => false
/-- == of flat values -/
def eqV : V → V → Bool
  | .non, .non => true
  | .bl a, .bl b => a == b
  | .bl a, .int b => (if a then 1 else 0) == b
  | .int a, .bl b => a == (if b then 1 else 0)
  | .int a, .int b => a == b
  | .str a, .str b => a == b
  | _, _ => false
theorem eqAt_V {A : Around} {s : Shared} {y x : V} {u v : Value} (ry : RelV y u) (rx : RelV x v) (fy : flatV y = true) (fx : flatV x = true) : SeqAt.EqAt A s u v (eqV y x) := by
  cases y with
  | non =>
    cases ry
    cases x with
    | non => cases rx; exact SeqAt.EqAt.same _
    | bl b => cases rx; exact SeqAt.EqAt.none_bool b
    | int b => obtain ⟨t, rfl⟩ := rx; exact SeqAt.EqAt.none_int b t
    | str b => obtain ⟨t, rfl⟩ := rx; exact SeqAt.EqAt.none_str b t
    | _ => exact absurd (show false = true from fx) Bool.false_ne_true
  | bl a =>
    cases ry
    cases x with
    | non => cases rx; exact SeqAt.EqAt.bool_none a
    | bl b => cases rx; exact SeqAt.EqAt.bool_bool a b
    | int b => obtain ⟨t, rfl⟩ := rx; exact SeqAt.EqAt.bool_int a b t
    | str b => obtain ⟨t, rfl⟩ := rx; exact SeqAt.EqAt.bool_str a b t
    | _ => exact absurd (show false = true from fx) Bool.false_ne_true
  | int a =>
    obtain ⟨t', rfl⟩ := ry
    cases x with
    | non => cases rx; exact SeqAt.EqAt.int_none a t'
    | bl b => cases rx; exact SeqAt.EqAt.int_bool a t' b
    | int b => obtain ⟨t, rfl⟩ := rx; exact SeqAt.EqAt.int_int a t' b t
    | str b => obtain ⟨t, rfl⟩ := rx; exact SeqAt.EqAt.int_str a t' b t
    | _ => exact absurd (show false = true from fx) Bool.false_ne_true
  | str a =>
    obtain ⟨t', rfl⟩ := ry
    cases x with
    | non => cases rx; exact SeqAt.EqAt.str_none a t'
    | bl b => cases rx; exact SeqAt.EqAt.str_bool a t' b
    | int b => obtain ⟨t, rfl⟩ := rx; exact SeqAt.EqAt.str_int a t' b t
    | str b => obtain ⟨t, rfl⟩ := rx; exact SeqAt.EqAt.str_str a t' b t
    | _ => exact absurd (show false = true from fx) Bool.false_ne_true
  | _ => exact absurd (show false = true from fy) Bool.false_ne_true
/-- the items' answers, read off the values (a value's own answer does not lean on its token) -/
def eqU (x : V) (u : Value) : Bool := match u with
  | .none => eqV .non x
  | .bool b => eqV (.bl b) x
  | .int i _ => eqV (.int i) x
  | .str z _ => eqV (.str z) x
  | _ => false
theorem eqU_of {x y : V} {u : Value} (r : RelV y u) (f : flatV y = true) : eqU x u = eqV y x := by
  cases y with
  | non => cases r; rfl
  | bl b => cases r; rfl
  | int i => obtain ⟨t, rfl⟩ := r; rfl
  | str z => obtain ⟨t, rfl⟩ := r; rfl
  | _ => exact absurd (show false = true from f) Bool.false_ne_true
theorem any_eqU {x : V} : ∀ {xs : List V} {us : List Value}, Vals xs us → xs.all flatV = true → us.any (eqU x) = xs.any fun y => eqV y x
  | _, _, .nil, _ => rfl
  | y :: xs, u :: us, .cons r t, f => by
    rw [List.all_cons, Bool.and_eq_true] at f
    rw [List.any_cons, List.any_cons, eqU_of r f.1, any_eqU t f.2]
theorem mem_eqAt {A : Around} {s : Shared} {x : V} {v : Value} (rx : RelV x v) (fx : flatV x = true) : ∀ {xs : List V} {us : List Value}, Vals xs us → xs.all flatV = true → ∀ u ∈ us, SeqAt.EqAt A s u v (eqU x u)
  | _, _, .nil, _ => fun u hu => by cases hu
  | y :: xs, u :: us, .cons r t, f => fun u' hu => by
    rw [List.all_cons, Bool.and_eq_true] at f
    rcases List.mem_cons.mp hu with rfl | hu
    · rw [eqU_of r f.1]; exact eqAt_V r rx f.1 fx
    · exact mem_eqAt rx fx t f.2 u' hu
def inV (x : V) (xs : List V) : Bool := xs.any fun y => eqV y x
/-- x in a list or tuple of flat items -/
def rIn (K : PySem.W.Frag) (neg : Bool) : R2 := fun x y H Q => ∃ p xs, y = .ref p ∧ (SqL K H p xs ∨ SqT K H p xs) ∧ flatV x = true ∧ xs.all flatV = true ∧ Q (.bl (if neg then !inV x xs else inV x xs)) H
theorem op_in_seq : OpR X (compareOp .In) (rIn X.K false) := by
  intro pins s σ H x y v u Q I rx ry h
  obtain ⟨p, xs, rfl, hq, fx, fs, q⟩ := h
  cases ry
  rcases hq with hq | hq
  · obtain ⟨its, r, pl, hz⟩ := I.list hq
    refine SeqAt.in_listAt (eqU x) pl.isList (fun w hw => mem_eqAt rx fx r fs w (by simpa using hw)) ⟨.bl _, H, I, rfl, ?_⟩
    rw [show its.toArray.any (eqU x) = its.any (eqU x) by simp, any_eqU r fs]
    exact q
  · obtain ⟨its, r, pl, hz⟩ := I.tuple hq
    refine SeqAt.in_tupleAt (eqU x) pl (fun w hw => mem_eqAt rx fx r fs w (by simpa using hw)) ⟨.bl _, H, I, rfl, ?_⟩
    rw [show its.toArray.any (eqU x) = its.any (eqU x) by simp, any_eqU r fs]
    exact q
theorem op_notIn_seq : OpR X (compareOp .NotIn) (rIn X.K true) := by
  intro pins s σ H x y v u Q I rx ry h
  obtain ⟨p, xs, rfl, hq, fx, fs, q⟩ := h
  cases ry
  rcases hq with hq | hq
  · obtain ⟨its, r, pl, hz⟩ := I.list hq
    refine SeqAt.notIn_listAt (eqU x) pl.isList (fun w hw => mem_eqAt rx fx r fs w (by simpa using hw)) ⟨.bl _, H, I, rfl, ?_⟩
    rw [show its.toArray.any (eqU x) = its.any (eqU x) by simp, any_eqU r fs]
    exact q
  · obtain ⟨its, r, pl, hz⟩ := I.tuple hq
    refine SeqAt.notIn_tupleAt (eqU x) pl (fun w hw => mem_eqAt rx fx r fs w (by simpa using hw)) ⟨.bl _, H, I, rfl, ?_⟩
    rw [show its.toArray.any (eqU x) = its.any (eqU x) by simp, any_eqU r fs]
    exact q

/-! ### len, list(x), tuple(x) of any list or tuple that is read -/
theorem call_len_seq : CallR X (.builtin "len") (fun xs H Q => ∃ p ys, xs = [.ref p] ∧ (SqL X.K H p ys ∨ SqT X.K H p ys) ∧ Q (.int ys.length) H) := by
  intro pins s σ H xs us Q I r h
  obtain ⟨p, ys, rfl, hq, q⟩ := h
  obtain ⟨u, rfl, rx⟩ := vals1 r
  cases rx
  have hn := line63
  rcases hq with hq | hq
  · obtain ⟨its, r', pl, hz⟩ := I.list hq
    have hlen := r'.length
    exact Calls.call_len_list pl.isList (by simp only [List.size_toArray] <;> omega) ⟨.int ys.length, H, I.tok _, ⟨s.toks + 1, by rw [List.size_toArray, hlen]⟩, q⟩
  · obtain ⟨its, r', pl, hz⟩ := I.tuple hq
    have hlen := r'.length
    exact len_tuple pl (by simp only [List.size_toArray] <;> omega) ⟨.int ys.length, H, I.tok _, ⟨s.toks + 1, by rw [List.size_toArray, hlen]⟩, q⟩
theorem call_list_of : CallR X (.type "list") (fun xs H Q => ∃ p ys, xs = [.ref p] ∧ (SqL X.K H p ys ∨ SqT X.K H p ys) ∧ ∀ l, H l = none → Q (.ref l) (upd H l (.lst ys))) := by
  intro pins s σ H xs us Q I r h
  obtain ⟨p, ys, rfl, hq, q⟩ := h
  obtain ⟨u, rfl, rx⟩ := vals1 r
  cases rx
  have fin : ∀ (its : List Value), Vals ys its → ys.length ≤ sizeLine → ∀ (h' : Heap) (c' : Nat), (∀ b o', s.heap.get? b = some o' → h'.get? b = some o') →
      h'.get? s.heap.objs.size = some { cls := .type "list", dict := none, data := .seq its.toArray c', slots := #[] } → EP X pins σ Q (.ref s.heap.objs.size) { s with heap := h' } := fun its r' hz h' c' kp e =>
    ⟨.ref s.heap.objs.size, _, I.laid (t' := s.toks) kp (Nat.le_refl _) (show ObjOk X.prog X.w _ h' _ (.lst ys) from ⟨hz, its, c', r', e⟩), rfl, q _ (I.hok.fresh (Nat.le_refl _))⟩
  rcases hq with hq | hq
  · obtain ⟨its, r', pl, hz⟩ := I.list hq
    have hlen := r'.length
    obtain ⟨o, ho, hc, n, hd⟩ := pl.isList
    exact call_list_seq p (.inl rfl) ho hc hd (fun h' c' kp e => fin its r' hz h' c' kp e) (by simp only [List.size_toArray] <;> omega)
  · obtain ⟨its, r', pl, hz⟩ := I.tuple hq
    have hlen := r'.length
    obtain ⟨o, ho, hc, n, hd⟩ := pl
    exact call_list_seq p (.inr rfl) ho hc hd (fun h' c' kp e => fin its r' hz h' c' kp e) (by simp only [List.size_toArray] <;> omega)
theorem call_tuple_of : CallR X (.type "tuple") (fun xs H Q => ∃ p ys, xs = [.ref p] ∧ ((SqL X.K H p ys ∧ ∀ l, H l = none → Q (.ref l) (upd H l (.tup ys))) ∨ (SqT X.K H p ys ∧ Q (.ref p) H))) := by
  intro pins s σ H xs us Q I r h
  obtain ⟨p, ys, rfl, h⟩ := h
  obtain ⟨u, rfl, rx⟩ := vals1 r
  cases rx
  rcases h with ⟨hq, q⟩ | ⟨hq, q⟩
  · obtain ⟨its, r', pl, hz⟩ := I.list hq
    have hlen := r'.length
    refine call_tuple_list pl.isList (fun h' kp => ?_) (by simp only [List.size_toArray] <;> omega)
    have I1 : Inv X pins σ H { s with heap := h' } := I.kept (t' := s.toks) kp
    have I2 : Inv X pins σ (upd H h'.objs.size (.tup ys)) { s with heap := h'.push { cls := .type "tuple", data := .seq its.toArray } } :=
      I1.laid (t' := s.toks) (fun b o e => Heap.get?_push_of_some _ e) (Nat.le_refl _) (show ObjOk X.prog X.w _ _ _ (.tup ys) from ⟨hz, its, r', IsTup.new _ _⟩)
    exact ⟨.ref h'.objs.size, _, I2, rfl, q _ (I1.hok.fresh (Nat.le_refl _))⟩
  · obtain ⟨its, r', pl, hz⟩ := I.tuple hq
    exact call_tuple_same pl ⟨.ref p, H, I, rfl, q⟩

/-! ### the call of a builtin's method: o.m(..) -/
/-- the value is of that builtin type -/
def tyV (K : PySem.W.Frag) (T : String) (x : V) (H : Hp) : Prop := match x with
  | .str _ => T = "str"
  | .int _ => T = "int"
  | .ref p => (T = "list" ∧ ∃ xs, SqL K H p xs) ∨ (T = "tuple" ∧ ∃ o, K.lookup p = some o ∧ o.cls = .type "tuple" ∧ o.dict = none) ∨
      (T = "dict" ∧ ((∃ kvs, H p = some (.dK kvs)) ∨ ∃ kvs, H p = some (.dT kvs))) ∨ (T = "set" ∧ ∃ S n, H p = some (.set S n))
  | _ => False
theorem tyV_is {pins : List (Addr × Obj)} {σ : St} {H : Hp} {s : Shared} {T : String} {x : V} {v : Value} (I : Inv X pins σ H s) (r : RelV x v) (ty : tyV X.K T x H) :
    s.TypeIs v T ∧ ∀ a, v = .ref a → ∃ ob, s.heap.get? a = some ob ∧ ob.dict = none := by
  cases x with
  | str z =>
    obtain ⟨t, rfl⟩ := r
    cases (show T = "str" from ty)
    exact ⟨typeIs_str s z t, fun _ e => nomatch e⟩
  | int i =>
    obtain ⟨t, rfl⟩ := r
    cases (show T = "int" from ty)
    exact ⟨typeIs_int s i t, fun _ e => nomatch e⟩
  | ref p =>
    cases r
    rcases ty with ⟨rfl, xs, hq⟩ | ⟨rfl, o, hk, hc, hd⟩ | ⟨rfl, hk⟩ | ⟨rfl, S, n, hk⟩
    · obtain ⟨its, _, pl, _⟩ := I.list hq
      refine ⟨pl.isList.typeIs, fun a e => ?_⟩
      cases e
      obtain ⟨o, n, e, c, hd, _⟩ := pl
      exact ⟨o, e, hd⟩
    · refine ⟨⟨o, I.kIn p o hk, hc⟩, fun a e => ?_⟩
      cases e
      exact ⟨o, I.kIn _ o hk, hd⟩
    · have z : ∃ o, s.heap.get? p = some o ∧ o.ExactDict := by
        rcases hk with ⟨kvs, hk⟩ | ⟨kvs, hk⟩
        · obtain ⟨_, _, _, _, o, _, _, e, ex, _⟩ := I.hok p _ hk
          exact ⟨o, e, ex⟩
        · obtain ⟨_, _, _, _, o, _, _, e, ex, _⟩ := I.hok p _ hk
          exact ⟨o, e, ex⟩
      obtain ⟨o, e, ex⟩ := z
      refine ⟨⟨o, e, ex.1⟩, fun a e2 => ?_⟩
      cases e2
      exact ⟨o, e, ex.2.1⟩
    · obtain ⟨o, _, _, _, e, ex, _⟩ := I.hok p _ hk
      refine ⟨⟨o, e, ex.1⟩, fun a e2 => ?_⟩
      cases e2
      exact ⟨o, e, ex.2.1⟩
  | _ => exact False.elim ty
def tBM0 (K : PySem.W.Frag) (T : String) (r : V → List V → Hp → VK → Prop) (to : TE) : TE := fun σ H Q => to σ H fun x H1 => tyV K T x H1 ∧ r x [] H1 Q
def tBM (K : PySem.W.Frag) (T : String) (r : V → List V → Hp → VK → Prop) (to : TE) (t : TA) : TE := fun σ H Q => to σ H fun x H1 => tyV K T x H1 ∧ t σ H1 fun xs H2 => r x xs H2 Q
variable {o e : Expr} {es : List Expr} {to : TE} {t : TA} {name : Str} {apos cpos : Pos} {T id : String} {r : V → List V → Hp → VK → Prop}
theorem pe_bm0 (pa : PlainAttrs T) (slot : Slot T name id) (hty : typeOf (.builtin id) = pure (.type "method_descriptor")) (hm : MtR X id r) (ho : PE X o to)
    (hbase : attributeBase o name X.env (eval o X.env) = eval o X.env := by rfl) (hline : (apos.endLine == cpos.line) = true := by rfl) : PE X (.Call (.Attribute o name apos) [] [] cpos) (tBM0 X.K T r to) := by
  intro pins s σ H Q I h
  refine wpAny_Call_method0_late hbase hline (thn (ho pins s σ H _ I h) fun v s1 ⟨x, H1, I1, r1, ty, q1⟩ => ?_)
  obtain ⟨h1, h2⟩ := tyV_is I1 r1 ty
  exact ⟨T, id, pa, slot, hty, h1, h2, Calls.callWith_builtin rfl (PySem.evalArgs_none (hm pins s1 σ H1 x [] v [] Q I1 r1 .nil q1))⟩
theorem pe_bm (pa : PlainAttrs T) (slot : Slot T name id) (hty : typeOf (.builtin id) = pure (.type "method_descriptor")) (hm : MtR X id r) (ho : PE X o to) (ha : PA X (e :: es) t)
    (hbase : attributeBase o name X.env (eval o X.env) = eval o X.env := by rfl)
    (hfew : ((backTo cpos (starEach (e :: es) X.env)).all (fun x => !x.1) && (backToKw cpos (keywordEach [] X.env)).all (fun x => x.1.isSome)
      && decide ((e :: es).length + ([] : List Keyword).length + (if ([] : List Keyword).isEmpty then 0 else 1) < 30)) = true := by rfl)
    (hline : (apos.endLine == cpos.line) = true := by rfl) (hs : starEach (e :: es) X.env = (false, eval e X.env) :: starEach es X.env := by rfl) (hplain : (backTo cpos (starEach es X.env)).any (·.1) = false := by rfl) :
    PE X (.Call (.Attribute o name apos) (e :: es) [] cpos) (tBM X.K T r to t) := by
  intro pins s σ H Q I h
  refine wpAny_Call_method_late hbase hfew hline rfl (thn (ho pins s σ H _ I h) fun v s1 ⟨x, H1, I1, r1, ty, q1⟩ => ?_)
  obtain ⟨h1, h2⟩ := tyV_is I1 r1 ty
  refine ⟨T, id, pa, slot, hty, h1, h2, ?_⟩
  have hA := ha cpos pins s1 σ H1 _ I1 q1
  rw [hs] at hA ⊢
  refine Calls.callWith_builtin (by show (false || (backTo cpos (starEach es X.env)).any (·.1)) = false; rw [hplain] <;> rfl) (Calls.evalArgs_plain ?_)
  exact thn hA fun us s2 ⟨vs, H2, I2, r2, q2⟩ => hm pins s2 σ H2 x vs v us Q I2 r1 r2 q2
/- xs.append(e), list.index on a module's tuple .. are MtR facts of 06m -/
end
end L2

namespace L2
open PySem PySem.Spec PyProof.Rows

def MtM (X : Cx) (id : String) (r : V → List V → Hp → VK → Prop) : Prop :=
  ∀ (pins : List (Addr × Obj)) (s : Shared) (σ : St) (H : Hp) (x : V) (xs : List V) (v : Value) (us : List Value) (Q : VK), Inv X pins σ H s → RelV x v → Vals xs us → r x xs H Q →
    wpAny (model X.prog X.w) X.A (call (.builtin id) (v :: us)) (EP X pins σ Q) X.xe s

/-! ### lists of values -/
theorem Vals.one : ∀ {x : V} {us : List Value}, Vals [x] us → ∃ u, us = [u] ∧ RelV x u
  | _, _, .cons r .nil => ⟨_, rfl, r⟩
theorem Vals.zero : ∀ {us : List Value}, Vals [] us → us = []
  | _, .nil => rfl
theorem Vals.dropLast {xs : List V} {us : List Value} (h : Vals xs us) : Vals xs.dropLast us.dropLast := by
  induction h with
  | nil => exact .nil
  | cons r t ih =>
    cases t with
    | nil => exact .nil
    | cons q t' => exact .cons r ih
theorem Vals.rep {xs : List V} {us : List Value} (h : Vals xs us) : ∀ k : Nat, Vals (List.replicate k xs).flatten (List.replicate k us).flatten
  | 0 => .nil
  | k + 1 => by
    rw [List.replicate_succ, List.replicate_succ, List.flatten_cons, List.flatten_cons]
    exact Vals.append h (Vals.rep h k)
theorem erase_last {α : Type} (l : List α) : l.eraseIdx (l.length - 1) = l.dropLast := by
  induction l with
  | nil => rfl
  | cons a r ih =>
    cases r with
    | nil => rfl
    | cons b r =>
      have e : (a :: b :: r).length - 1 = ((b :: r).length - 1) + 1 := by
        have h1 : (a :: b :: r).length = r.length + 2 := rfl
        have h2 : (b :: r).length = r.length + 1 := rfl
        omega
      rw [e, List.eraseIdx_cons_succ, ih]
      all_goals rfl
theorem foldl_rep (its : List Value) : ∀ (k : Nat) (acc : List Value),
    List.foldl (fun x1 x2 => x1 ++ x2) acc.toArray (List.replicate k its.toArray) = (acc ++ (List.replicate k its).flatten).toArray
  | 0, acc => by simp
  | k + 1, acc => by
    have e : acc.toArray ++ its.toArray = (acc ++ its).toArray := by simp
    have e2 : (acc ++ its) ++ (List.replicate k its).flatten = acc ++ (List.replicate (k + 1) its).flatten := by
      rw [List.replicate_succ, List.flatten_cons, List.append_assoc]
    rw [← e2, ← foldl_rep its k (acc ++ its), ← e, List.replicate_succ, List.foldl_cons]

section
variable {X : Cx} {pins : List (Addr × Obj)} {σ : St} {H : Hp} {s : Shared} {l b : Addr} {xs ys zs : List V}

/-! ### the two steps: a tracked list is rewritten, a new list is laid -/
theorem Inv.lset {its its' : List Value} {n : Nat} {f : Array Value → Array Value} {t' : Nat} (I : Inv X pins σ H s) (hH : H l = some (.lst xs))
    (e : s.heap.get? l = some { cls := .type "list", data := .seq its.toArray n }) (hf : f its.toArray = its'.toArray) (hv : Vals ys its') (hz : ys.length ≤ sizeLine) :
    Inv X pins σ (upd H l (.lst ys)) { s with heap := s.heap.update l (Obj.mapSeq f), toks := t' } := by
  have q := PySem.IsL.update e f
  rw [hf] at q
  refine I.write (x := l) (e := l) (by rw [hH]; exact trivial) (.inl rfl) (fun b' u hb hu => (Heap.get?_update_other s.heap (Obj.mapSeq f) (Ne.symm hb)).trans hu) ⟨_, q⟩ ?_
  exact ⟨hz, its', _, hv, q⟩
theorem Inv.lnew {its : List Value} {t' : Nat} (I : Inv X pins σ H s) (hv : Vals ys its) (hz : ys.length ≤ sizeLine) :
    Inv X pins σ (upd H s.heap.objs.size (.lst ys)) { s with heap := s.heap.push { cls := .type "list", data := .seq its.toArray }, toks := t' } :=
  I.laid (fun _ _ q => Heap.get?_push_of_some _ q) (Nat.le_refl _) ⟨hz, its, 0, hv, Heap.get?_push_size _ rfl⟩
theorem Inv.fresh (I : Inv X pins σ H s) : H s.heap.objs.size = none := I.hok.fresh (Nat.le_refl _)
theorem Inv.lstM (I : Inv X pins σ H s) (hH : H l = some (.lst xs)) : xs.length ≤ sizeLine ∧ ∃ (its : List Value) (n : Nat), Vals xs its ∧ xs.length = its.length ∧ s.heap.get? l = some { cls := .type "list", data := .seq its.toArray n } := by
  obtain ⟨z, its, n, r, e⟩ := I.hok l _ hH
  exact ⟨z, its, n, r, r.length, e⟩

theorem notLongL {n : Nat} (h : n ≤ sizeLine) : Builtin.List.listTooLong n = false := by
  unfold Builtin.List.listTooLong
  exact decide_eq_false (by omega)
end

section
variable {X : Cx}

/-! ### methods -/
def rAppend : V → List V → Hp → VK → Prop := fun x vs H Q => ∃ l xs y, x = .ref l ∧ vs = [y] ∧ H l = some (.lst xs) ∧ xs.length < sizeLine ∧ Q .non (upd H l (.lst (xs ++ [y])))
theorem mt_append : MtM X "list.append" rAppend := by
  intro pins s σ H x vs v us Q I rx rv h
  obtain ⟨l, xs, y, rfl, rfl, hH, hz, q⟩ := h
  cases rx
  obtain ⟨u, rfl, ru⟩ := rv.one
  obtain ⟨z, its, n, r, hl, e⟩ := I.lstM hH
  refine call_meets F.slot_list_append ⟨_, e, rfl⟩ F.entry_list_append (F.args_list_append_2 _ _) (PySem.list_append l its.toArray n u (by rw [List.size_toArray]; omega)) ⟨e, ?_⟩
  refine ⟨.non, _, I.lset (its' := its ++ [u]) hH e (by simp) (r.append (.cons ru .nil)) ?_, rfl, q⟩
  rw [List.length_append, List.length_singleton]
  omega


def rPop : V → List V → Hp → VK → Prop := fun x vs H Q => ∃ l xs y, x = .ref l ∧ vs = [] ∧ H l = some (.lst xs) ∧ xs[xs.length - 1]? = some y ∧ Q y (upd H l (.lst xs.dropLast))
theorem mt_pop : MtM X "list.pop" rPop := by
  intro pins s σ H x vs v us Q I rx rv h
  obtain ⟨l, xs, y, rfl, rfl, hH, hy, q⟩ := h
  cases rx
  have hus := rv.zero
  subst hus
  obtain ⟨z, its, n, r, hl, e⟩ := I.lstM hH
  obtain ⟨u, hu, ru⟩ := r.get hy
  have hy' : its.toArray[its.toArray.size - 1]? = some u := by
    show its.toArray[its.length - 1]? = some u
    rw [← Array.getElem?_toList, ← hl]
    exact hu
  refine call_meets F.slot_list_pop ⟨_, e, rfl⟩ F.entry_list_pop (F.args_list_pop_1 _) (MeetsSeq.list_pop_last l its.toArray n u hy' (by rw [List.size_toArray]; omega)) ⟨e, ?_⟩
  refine ⟨y, _, I.lset (its' := its.dropLast) hH e ?_ r.dropLast ?_, ru, q⟩
  · show its.toArray.eraseIdxIfInBounds (its.toArray.size - 1) = its.dropLast.toArray
    rw [List.size_toArray, List.eraseIdxIfInBounds_toArray, erase_last]
  · rw [List.length_dropLast]
    omega




/-! ### list + list, list += list, list * int -/
def rCat : R2 := fun x y H Q => ∃ l b xs zs, x = .ref l ∧ y = .ref b ∧ H l = some (.lst xs) ∧ H b = some (.lst zs) ∧ xs.length + zs.length ≤ sizeLine ∧ ∀ p, H p = none → Q (.ref p) (upd H p (.lst (xs ++ zs)))
theorem op_cat : OpR X (binaryOp .Add) rCat := by
  intro pins s σ H x y v u Q I rx ry h
  obtain ⟨l, b, xs, zs, rfl, rfl, hH, hB, hz, q⟩ := h
  cases rx
  cases ry
  obtain ⟨z, its, n, r, hl, e⟩ := I.lstM hH
  obtain ⟨z2, its2, n2, r2, hl2, e2⟩ := I.lstM hB
  refine PySem.P.add_list e e2 ?_ (by rw [List.size_toArray, List.size_toArray]; omega)
  have ea : its.toArray ++ its2.toArray = (its ++ its2).toArray := by simp
  rw [ea]
  exact ⟨.ref _, _, I.lnew (t' := s.toks) (r.append r2) (by rw [List.length_append]; omega), rfl, q _ I.fresh⟩
/-- a list times an int (a negative one is nothing) -/
def rRep : R2 := fun x y H Q => ∃ l k xs, x = .ref l ∧ y = .int k ∧ H l = some (.lst xs) ∧ -(2 ^ 63) ≤ k ∧ k < 2 ^ 63 ∧ xs.length * k.toNat ≤ sizeLine ∧
  ∀ p, H p = none → Q (.ref p) (upd H p (.lst (List.replicate k.toNat xs).flatten))
theorem len_rep {α : Type} (xs : List α) (k : Nat) : (List.replicate k xs).flatten.length = k * xs.length := by
  induction k with
  | zero => simp
  | succ k ih => rw [List.replicate_succ, List.flatten_cons, List.length_append, ih, Nat.succ_mul, Nat.add_comm]
theorem op_rep : OpR X (binaryOp .Mult) rRep := by
  intro pins s σ H x y v u Q I rx ry h
  obtain ⟨l, k, xs, rfl, rfl, hH, h1, h2, hz, q⟩ := h
  cases rx
  obtain ⟨t, rfl⟩ := ry
  obtain ⟨z, its, n, r, hl, e⟩ := I.lstM hH
  have hlen : its.toArray.size * k.toNat ≤ sizeLine := by rw [List.size_toArray, ← hl]; exact hz
  have hcap : ¬ its.toArray.size * k.toNat > (2 ^ 63 - 1) / 8 := by
    have : (sizeLine : Nat) ≤ (2 ^ 63 - 1) / 8 := by decide
    omega
  have hfit : ¬ (!Builtin.List.listFitsIndex k) = true := by
    rw [fitsIndex_both h1 h2]
    exact Bool.false_ne_true
  have hlong : ¬ Builtin.List.listTooLong (its.toArray.size * k.toNat) = true := by
    rw [notLongL hlen]
    exact Bool.false_ne_true
  have hnew : List.foldl (fun x1 x2 => x1 ++ x2) #[] (List.replicate (if its.toArray.isEmpty = true then 0 else k.toNat) its.toArray) = (List.replicate k.toNat its).flatten.toArray := by
    have f0 : ∀ m : Nat, List.foldl (fun x1 x2 => x1 ++ x2) #[] (List.replicate m its.toArray) = (List.replicate m its).flatten.toArray := fun m => by
      have := foldl_rep its m []
      rw [List.nil_append] at this
      exact this
    rw [f0]
    cases its with
    | nil => simp
    | cons a r' => rw [if_neg (by simp)]
  refine wpAny_binaryOp_repeat_ref (T := "list") (U := "int") (by decide) ⟨_, e, rfl⟩ (fun s' => typeIs_int s' k t) noFill_list_mul F.fills_int_mul F.slot_int_rmul repeat_list F.slot_int_index.lookup
    (call_meets F.slot_int_rmul (typeIs_int s k t) F.entry_int_rmul (F.args_int_rmul_2 _ _) (int___rmul___int_list k t l its.toArray n)
      ⟨e, rfl, ⟨_, e, rfl⟩, call_meets F.slot_list_mul ⟨_, e, rfl⟩ F.entry_list_mul (F.args_list_mul_2 _ _) (AutoListH.list___mul___list_int_3 l its.toArray n k t hfit hcap hlong) ⟨e, ?_⟩⟩)
  rw [hnew]
  exact ⟨.ref _, _, I.lnew (t' := s.toks) (r.rep k.toNat) (by rw [len_rep, Nat.mul_comm]; exact hz), rfl, q _ I.fresh⟩

/-! ### del xs[i] -/
end

/-! ### xs[a:b] = ys -/
section
variable {prog : Program} {w : World} {A : Around} {E : Value → Shared → Prop} {s : Shared}
set_option maxRecDepth 100000 in
end

section
variable {X : Cx}
end
end L2

namespace L2
open PySem PySem.Spec PyProof.Rows

/-! ### lists of pairs as tables -/
section
variable {κ : Type} [DecidableEq κ]
def valV (kvs : List (κ × V)) (k : κ) : Option V := (kvs.find? fun kv => decide (kv.1 = k)).map (·.2)
/-- in its place, or at the end -/
def putK (kvs : List (κ × V)) (k : κ) (v : V) : List (κ × V) :=
  if (kvs.any fun kv => decide (kv.1 = k)) = true then kvs.map (fun kv => if kv.1 = k then (kv.1, v) else kv) else kvs ++ [(k, v)]

theorem valV_pos {p : κ × V} {r : List (κ × V)} {k : κ} (e : p.1 = k) : valV (p :: r) k = some p.2 := by simp [valV, List.find?_cons, e]
theorem valV_neg {p : κ × V} {r : List (κ × V)} {k : κ} (e : ¬ p.1 = k) : valV (p :: r) k = valV r k := by simp [valV, List.find?_cons, e]
theorem valV_any (k : κ) : ∀ kvs : List (κ × V), (kvs.any fun kv => decide (kv.1 = k)) = (valV kvs k).isSome
  | [] => rfl
  | p :: r => by
    rw [List.any_cons]
    by_cases e : p.1 = k
    · simp only [valV_pos e, decide_eq_true e, Bool.true_or, Option.isSome_some]
    · rw [valV_neg e, decide_eq_false e, Bool.false_or]; exact valV_any k r
theorem valV_map (k j : κ) (y : V) : ∀ kvs : List (κ × V), valV (kvs.map fun kv => if kv.1 = k then (kv.1, y) else kv) j = (valV kvs j).map fun x => if j = k then y else x
  | [] => rfl
  | p :: r => by
    have ih := valV_map k j y r
    rw [List.map_cons]
    by_cases h : p.1 = k
    · rw [if_pos h]
      by_cases e : p.1 = j
      · rw [valV_pos (p := (p.1, y)) e, valV_pos e, Option.map_some, if_pos (e.symm.trans h)]
      · rw [valV_neg (p := (p.1, y)) e, valV_neg e, ih]
    · rw [if_neg h]
      by_cases e : p.1 = j
      · rw [valV_pos (p := p) e, valV_pos e, Option.map_some, if_neg (fun z => h (e.trans z))]
      · rw [valV_neg (p := p) e, valV_neg e, ih]
theorem valV_snoc (k j : κ) (y : V) : ∀ kvs : List (κ × V), valV kvs k = none → valV (kvs ++ [(k, y)]) j = if j = k then some y else valV kvs j
  | [], _ => by
    by_cases e : k = j
    · rw [if_pos e.symm]; exact valV_pos (p := (k, y)) e
    · rw [if_neg (fun z => e z.symm)]; exact valV_neg (p := (k, y)) e
  | p :: r, hn => by
    rw [List.cons_append]
    have hk : ¬ p.1 = k := fun z => by rw [valV_pos z] at hn; cases hn
    rw [valV_neg hk] at hn
    have ih := valV_snoc k j y r hn
    by_cases e : p.1 = j
    · rw [valV_pos e, valV_pos e, if_neg (fun z => hk (e.trans z))]
    · rw [valV_neg e, valV_neg e, ih]
theorem valV_put (kvs : List (κ × V)) (k j : κ) (y : V) : valV (putK kvs k y) j = if j = k then some y else valV kvs j := by
  unfold putK
  by_cases a : (kvs.any fun kv => decide (kv.1 = k)) = true
  · rw [if_pos a, valV_map]
    rw [valV_any] at a
    by_cases e : j = k
    · obtain ⟨x, hx⟩ := Option.isSome_iff_exists.mp a
      rw [if_pos e, e, hx, Option.map_some, if_pos rfl]
    · rw [if_neg e]
      cases valV kvs j with
      | none => rfl
      | some x => rw [Option.map_some, if_neg e]
  · rw [if_neg a]
    refine valV_snoc k j y kvs ?_
    rw [valV_any] at a
    cases q : valV kvs k with
    | none => rfl
    | some x => rw [q] at a; exact (a rfl).elim
theorem length_putK (kvs : List (κ × V)) (k : κ) (v : V) : (putK kvs k v).length ≤ kvs.length + 1 := by
  unfold putK
  split
  · rw [List.length_map]; omega
  · rw [List.length_append, List.length_cons, List.length_nil]; omega
theorem putK_new {kvs : List (κ × V)} {k : κ} (v : V) (h : valV kvs k = none) : putK kvs k v = kvs ++ [(k, v)] := by
  unfold putK
  rw [valV_any, h]
  exact if_neg (by decide)

theorem RelO.isSome_eq {o : Option V} {u : Option Value} (r : RelO o u) : o.isSome = u.isSome := by
  cases o with
  | none => cases u with
    | none => rfl
    | some _ => exact (show False from r).elim
  | some _ => cases u with
    | none => exact (show False from r).elim
    | some _ => rfl
theorem RelO.getD {o : Option V} {u : Option Value} {d : V} {d' : Value} (r : RelO o u) (rd : RelV d d') : RelV (o.getD d) (u.getD d') := by
  cases o with
  | none => cases u with
    | none => exact rd
    | some _ => exact (show False from r).elim
  | some _ => cases u with
    | none => exact (show False from r).elim
    | some _ => exact r

/-- raw tables of the same keys -/
theorem KV.val {kvs : List (κ × V)} {vs : List (κ × Value)} (r : KV kvs vs) (k : κ) : RelO (valV kvs k) (valueAt vs k) := by
  unfold KV at r
  induction r with
  | nil => exact True.intro
  | @cons p q ps qs h t ih =>
    obtain ⟨h1, h2⟩ := h
    by_cases e : p.1 = k
    · have e' : q.1 = k := h1.symm.trans e
      have b : valueAt (q :: qs) k = some q.2 := by simp [valueAt, List.find?_cons, e']
      rw [valV_pos e, b]; exact h2
    · have e' : ¬ q.1 = k := fun z => e (h1.trans z)
      have b : valueAt (q :: qs) k = valueAt qs k := by simp [valueAt, List.find?_cons, e']
      rw [valV_neg e, b]; exact ih
theorem KV.any {kvs : List (κ × V)} {vs : List (κ × Value)} (r : KV kvs vs) (k : κ) : (kvs.any fun kv => decide (kv.1 = k)) = vs.any fun kv => decide (kv.1 = k) := by
  unfold KV at r
  induction r with
  | nil => rfl
  | cons h t ih => rw [List.any_cons, List.any_cons, ih, h.1]
theorem KV.repl {kvs : List (κ × V)} {vs : List (κ × Value)} (r : KV kvs vs) (k : κ) {y : V} {u : Value} (ry : RelV y u) :
    KV (kvs.map fun kv => if kv.1 = k then (kv.1, y) else kv) (vs.map fun kv => if kv.1 = k then (kv.1, u) else kv) := by
  unfold KV at r ⊢
  induction r with
  | nil => exact .nil
  | @cons p q ps qs h t ih =>
    rw [List.map_cons, List.map_cons]
    refine .cons ?_ ih
    obtain ⟨h1, h2⟩ := h
    by_cases e : p.1 = k
    · rw [if_pos e, if_pos (h1.symm.trans e)]; exact ⟨h1, ry⟩
    · rw [if_neg e, if_neg (fun z => e (h1.trans z))]; exact ⟨h1, h2⟩
theorem KV.put {kvs : List (κ × V)} {vs : List (κ × Value)} (r : KV kvs vs) (k : κ) {y : V} {u : Value} (ry : RelV y u) : KV (putK kvs k y) (stored vs k u) := by
  unfold putK stored
  rw [r.any k]
  by_cases e : (vs.any fun kv => decide (kv.1 = k)) = true
  · rw [if_pos e, if_pos e]; exact r.repl k ry
  · rw [if_neg e, if_neg e]; exact Paired.snoc r ⟨rfl, ry⟩
theorem KV.length {kvs : List (κ × V)} {vs : List (κ × Value)} (r : KV kvs vs) : kvs.length = vs.length := Paired.length r
end


/-! ### a tracked dict, its keys ints and texts or tuples of these -/
theorem kV_is {P : Program} {w : World} {k : Key} {u : Value} (r : RelV (kV k) u) : (mixKind P w).is k u = true := by
  cases k with
  | inl i => obtain ⟨t, e⟩ := (show ∃ t, u = Value.int i t from r); subst e; exact mixKind_int P w i t
  | inr x => obtain ⟨t, e⟩ := (show ∃ t, u = Value.str x t from r); subst e; exact mixKind_str P w x t
theorem items_are {P : Program} {w : World} : ∀ {ks : List Key} {us : List Value}, Vals (ks.map kV) us → ItemsAre (mixKind P w) ks us
  | [], _, r => by rw [List.map_nil] at r; cases r; exact .nil
  | k :: ks, _, r => by
    rw [List.map_cons] at r
    cases r with
    | cons h t => exact .cons (kV_is h) (items_are t)

/-- raw entries of a dict with tuple keys -/
abbrev KT (H : Hp) : List (List Key × V) → List (List Key × Addr × Value) → Prop := Paired fun p q => p.1 = q.1 ∧ H q.2.1 = some (.tup (p.1.map kV)) ∧ RelV p.2 q.2.2
theorem KT.val {H : Hp} {kvs : List (List Key × V)} {xs : List (List Key × Addr × Value)} (r : KT H kvs xs) (k : List Key) : RelO (valV kvs k) ((atKey xs k).map (·.2)) := by
  induction r with
  | nil => exact True.intro
  | @cons p q ps qs h t ih =>
    obtain ⟨h1, _, h2⟩ := h
    by_cases e : p.1 = k
    · have e' : q.1 = k := h1.symm.trans e
      have b : atKey (q :: qs) k = some q.2 := by simp [atKey, List.find?_cons, e']
      rw [valV_pos e, b]; exact h2
    · have e' : ¬ q.1 = k := fun z => e (h1.trans z)
      have b : atKey (q :: qs) k = atKey qs k := by simp [atKey, List.find?_cons, e']
      rw [valV_neg e, b]; exact ih
theorem KT.repl {H : Hp} {kvs : List (List Key × V)} {xs : List (List Key × Addr × Value)} (r : KT H kvs xs) (k : List Key) {y : V} {u : Value} (ry : RelV y u) :
    KT H (kvs.map fun kv => if kv.1 = k then (kv.1, y) else kv) (xs.map (putAt k u)) := by
  induction r with
  | nil => exact .nil
  | @cons p q ps qs h t ih =>
    rw [List.map_cons, List.map_cons]
    refine .cons ?_ ih
    obtain ⟨h1, h2, h3⟩ := h
    unfold putAt
    by_cases e : p.1 = k
    · rw [if_pos e, if_pos (h1.symm.trans e)]; exact ⟨h1, h2, ry⟩
    · rw [if_neg e, if_neg (fun z => e (h1.trans z))]; exact ⟨h1, h2, h3⟩
theorem KT.put {H : Hp} {kvs : List (List Key × V)} {xs : List (List Key × Addr × Value)} (r : KT H kvs xs) (k : List Key) {b : Addr} {y : V} {u : Value} (hb : H b = some (.tup (k.map kV))) (ry : RelV y u) :
    KT H (putK kvs k y) (storedH xs k b u) := by
  have e : (kvs.any fun kv => decide (kv.1 = k)) = (atKey xs k).isSome := by
    rw [valV_any, (r.val k).isSome_eq, Option.isSome_map]
  unfold putK storedH
  rw [e]
  by_cases q : (atKey xs k).isSome = true
  · rw [if_pos q, if_pos q]; exact r.repl k ry
  · rw [if_neg q, if_neg q]; exact Paired.snoc r ⟨rfl, hb, ry⟩
theorem KT.keeps {H H' : Hp} {kvs : List (List Key × V)} {xs : List (List Key × Addr × Value)} (r : KT H kvs xs) (ht : ∀ b ys, H b = some (.tup ys) → H' b = some (.tup ys)) : KT H' kvs xs :=
  Paired.mapP r fun _ _ z => ⟨z.1, ht _ _ z.2.1, z.2.2⟩

section
variable {P : Program} {w : World} {H : Hp} {h : Heap} {a : Addr}
theorem rd_of {u : HO} (ok : HOk P w H h) (e : Rd H a u) : ObjOk P w H h a u := e.ok ok
theorem dk_rd {kvs : List (Key × V)} (ok : HOk P w H h) (e : Rd H a (.dK kvs)) : kvs.length ≤ sizeLine ∧ (a == sysModules) = false ∧ ∃ vs, KV kvs vs ∧ h.DictOf (mixKind P w) a vs :=
  show ObjOk P w H h a (.dK kvs) from rd_of ok e
theorem dk_of {kvs : List (Key × V)} (ok : HOk P w H h) (e : H a = some (.dK kvs)) : kvs.length ≤ sizeLine ∧ (a == sysModules) = false ∧ ∃ vs, KV kvs vs ∧ h.DictOf (mixKind P w) a vs := dk_rd ok (.inl e)
/-- a tracked tuple of ints and texts is a key -/
theorem key_of {ks : List Key} (ok : HOk P w H h) (e : H a = some (.tup (ks.map kV))) : (tupleKind (mixKind P w)).is h ks a := by
  obtain ⟨_, its, r, o, h1, h2, n, h3⟩ := (show ObjOk P w H h a (.tup (ks.map kV)) from ok a _ e)
  exact ⟨o, its.toArray, n, h1, h2, h3, by simpa using items_are r⟩
theorem dt_rd {kvs : List (List Key × V)} (ok : HOk P w H h) (e : Rd H a (.dT kvs)) : kvs.length ≤ sizeLine ∧ (a == sysModules) = false ∧
    ∃ xs, KT H kvs xs ∧ h.DictOfH (tupleKind (mixKind P w)) a xs := by
  obtain ⟨z, y, xs, r, o, es, ep, h1, h2, h3, h4, h5⟩ := (show ObjOk P w H h a (.dT kvs) from rd_of ok e)
  refine ⟨z, y, xs, r, o, es, ep, h1, h2, h3, h4, fun x hx => ?_, h5⟩
  have all : ∀ {l : List (List Key × V)} {m : List (List Key × Addr × Value)}, KT H l m → ∀ x ∈ m, (tupleKind (mixKind P w)).is h x.1 x.2.1 := by
    intro l m q
    induction q with
    | nil => intro x hx; exact nomatch hx
    | @cons p q ps qs hq t ih =>
      intro x hx
      rcases List.mem_cons.mp hx with e | hx
      · subst e
        exact key_of ok (by rw [← hq.1]; exact hq.2.1)
      · exact ih x hx
  exact all r x hx
theorem dt_of {kvs : List (List Key × V)} (ok : HOk P w H h) (e : H a = some (.dT kvs)) : kvs.length ≤ sizeLine ∧ (a == sysModules) = false ∧
    ∃ xs, KT H kvs xs ∧ h.DictOfH (tupleKind (mixKind P w)) a xs := dt_rd ok (.inl e)
end

/-- what the dict at a holds at the key y -/
def DGet (H : Hp) (a : Addr) (y : V) (r : Option V) : Prop :=
  (∃ kvs k, Rd H a (.dK kvs) ∧ y = kV k ∧ r = valV kvs k) ∨ ∃ kvs k b, Rd H a (.dT kvs) ∧ y = .ref b ∧ H b = some (.tup (k.map kV)) ∧ r = valV kvs k
/-- the heap behind a[y] = v -/
def DPut (H : Hp) (a : Addr) (y v : V) (H' : Hp) : Prop :=
  (∃ kvs k, H a = some (.dK kvs) ∧ y = kV k ∧ kvs.length < sizeLine ∧ H' = upd H a (.dK (putK kvs k v))) ∨
  ∃ kvs k b, H a = some (.dT kvs) ∧ y = .ref b ∧ H b = some (.tup (k.map kV)) ∧ kvs.length < sizeLine ∧ H' = upd H a (.dT (putK kvs k v))
theorem DGet.k {H : Hp} {a : Addr} {kvs : List (Key × V)} {k : Key} (e : H a = some (.dK kvs)) : DGet H a (kV k) (valV kvs k) := .inl ⟨kvs, k, .inl e, rfl, rfl⟩
theorem DPut.k {H : Hp} {a : Addr} {kvs : List (Key × V)} {k : Key} {v : V} (e : H a = some (.dK kvs)) (hl : kvs.length < sizeLine) : DPut H a (kV k) v (upd H a (.dK (putK kvs k v))) := .inl ⟨kvs, k, e, rfl, hl, rfl⟩


section
variable {X : Cx} {pins : List (Addr × Obj)} {σ : St} {H : Hp} {s : Shared} {a : Addr} {y v : V} {u r : Value} {o : Option V} {A : Around} {E : Value → Shared → Prop}

theorem Inv.big (I : Inv X pins σ H s) : sysModules < s.heap.objs.size := by
  have h : mainGlobals < s.heap.objs.size := (I.mod.glob.keeps I.bk).lt
  exact Nat.lt_trans (by decide) h

/-- d[y], there -/
theorem d_getItem {Q : Value → Shared → Prop} (hu : A.units + 1 < cLine) (I : Inv X pins σ H s) (g : DGet H a y (some v)) (ry : RelV y u) (h : ∀ w' s', Inv X pins σ H s' → RelV v w' → Q w' s') :
    wpAny (model X.prog X.w) A (getItem (.ref a) u) Q E s := by
  rcases g with ⟨kvs, k, e, ey, l⟩ | ⟨kvs, k, b, e, ey, eb, l⟩
  · subst ey
    obtain ⟨z, hd, vs, rel, dd⟩ := dk_rd I.hok e
    obtain ⟨w', hw, rw'⟩ := RelO.some_of (v := v) (o := valueAt vs k) (by rw [l]; exact rel.val k)
    exact wpAny_getItem_of (kV_is ry) dd.mapOf hw (h w' _ (I.tok _) rw')
  · subst ey
    cases (show u = Value.ref b from ry)
    obtain ⟨z, hd, xs, rel, dd⟩ := dt_rd I.hok e
    obtain ⟨w', hw, rw'⟩ := RelO.some_of (v := v) (o := (atKey xs k).map (·.2)) (by rw [l]; exact rel.val k)
    obtain ⟨p, hp, hp2⟩ := Option.map_eq_some_iff.mp hw
    refine wpAny_getItem_heap (tupleKind_room_in1 hu) (key_of I.hok eb) dd hp ?_
    rw [hp2]
    exact h w' _ (I.tok _) rw'
/-- y in d -/
theorem d_in {Q : Value → Shared → Prop} (hu : A.units + 1 < cLine) (I : Inv X pins σ H s) (g : DGet H a y o) (ry : RelV y u) (h : ∀ s', Inv X pins σ H s' → Q (.bool o.isSome) s') :
    wpAny (model X.prog X.w) A (compareOp .In u (.ref a)) Q E s := by
  rcases g with ⟨kvs, k, e, ey, l⟩ | ⟨kvs, k, b, e, ey, eb, l⟩
  · subst ey
    obtain ⟨z, hd, vs, rel, dd⟩ := dk_rd I.hok e
    refine wpAny_in_of (kV_is ry) hd dd.mapOf ?_
    rw [← (rel.val k).isSome_eq, ← l]
    exact h _ (I.tok _)
  · subst ey
    cases (show u = Value.ref b from ry)
    obtain ⟨z, hd, xs, rel, dd⟩ := dt_rd I.hok e
    refine wpAny_in_heap (tupleKind_room_in1 hu) (key_of I.hok eb) hd dd ?_
    have q := (rel.val k).isSome_eq
    rw [Option.isSome_map] at q
    rw [← q, ← l]
    exact h _ (I.tok _)
/-- a dict's object is replaced -/
theorem d_write {h' : Heap} {t' : Nat} {ob : HO} (I : Inv X pins σ H s) (mu : Mut (H a)) (hs : Heap.SameBut a s.heap h') (he : ∃ q, h'.get? a = some q) (new : ObjOk X.prog X.w (upd H a ob) h' a ob) :
    Inv X pins σ (upd H a ob) { s with heap := h', toks := t' } :=
  I.write (x := a) (e := a) mu (.inl rfl) (fun b q hb z => (hs.2 b hb).trans z) he new
theorem dk_new {P : Program} {w : World} {H' : Hp} {h' : Heap} {kvs : List (Key × V)} {vs : List (Key × Value)} (z : kvs.length ≤ sizeLine) (hd : (a == sysModules) = false) (rel : KV kvs vs) (dd : h'.DictOf (mixKind P w) a vs) :
    ObjOk P w H' h' a (.dK kvs) := ⟨z, hd, vs, rel, dd⟩
/-- d[y] = v -/
theorem d_setItem {H' : Hp} {Q : Unit → Shared → Prop} (hu : A.units + 1 < cLine) (I : Inv X pins σ H s) (g : DPut H a y v H') (ry : RelV y u) (rv : RelV v r) (h : ∀ s', Inv X pins σ H' s' → Q () s') :
    wpAny (model X.prog X.w) A (setItem (.ref a) u r) Q E s := by
  rcases g with ⟨kvs, k, e, ey, l, eH⟩ | ⟨kvs, k, b, e, ey, eb, l, eH⟩
  · subst ey eH
    obtain ⟨z, hd, vs, rel, dd⟩ := dk_of I.hok e
    have hz : vs.length ≤ sizeLine := by rw [← rel.length]; exact z
    have hl : (putK kvs k v).length ≤ sizeLine := by have := length_putK kvs k v; omega
    refine wpAny_setItem_pairs (hsz := hz) (kV_is ry) dd fun h' dd' hs => h _ ?_
    have he : ∃ q, h'.get? a = some q := let ⟨q, _, _, hq, _⟩ := dd'; ⟨q, hq⟩
    exact d_write I (by rw [e]; exact True.intro) hs he (dk_new hl hd (rel.put k rv) dd')
  · subst ey eH
    cases (show u = Value.ref b from ry)
    obtain ⟨z, hd, xs, rel, dd⟩ := dt_of I.hok e
    have hz : xs.length ≤ sizeLine := by rw [← Paired.length rel]; exact z
    have hl : (putK kvs k v).length ≤ sizeLine := by have := length_putK kvs k v; omega
    refine wpAny_setItem_heap (hsz := hz) (tupleKind_room_in1 hu) (key_of I.hok eb) dd fun h' dd' hs => h _ ?_
    obtain ⟨q, es, ep, hq, h2, h3, h4, _, h5⟩ := dd'
    refine d_write I (by rw [e]; exact True.intro) hs ⟨q, hq⟩ ⟨hl, hd, _, (rel.put k eb rv).keeps fun c ys ec => ?_, q, es, ep, hq, h2, h3, h4, h5⟩
    rw [upd_ne (ne_of ec e (fun z => nomatch z))]
    exact ec
end

section
variable {X : Cx} {pins : List (Addr × Obj)} {σ : St} {H : Hp} {s : Shared} {a : Addr} {kvs : List (Key × V)} {k : Key} {u : Value} {A : Around} {E : Value → Shared → Prop}
end


/-! ### readings and rules -/
/-- the element of a subscription, not a slice -/
def NoSl (i : Expr) : Prop := ∀ ov iv, subscripted i false ov iv = operate [ov, iv] (getItem ov iv)
theorem subD_of {prog : Program} {w : World} {A : Around} {E : Value → Shared → Prop} {s : Shared} {env : Env} {value slice : Expr} {pos : Pos} {T id : String} {Q : Value → Shared → Prop}
    (hl : typeLookup (.type T) "__getitem__" = pure (some (.builtin id))) (hs : NoSl slice)
    (h : wpAny (model prog w) A (eval value env) (fun o s₁ => wpAny (model prog w) A (eval slice env) (fun i s₂ => s₂.TypeIs o T ∧ wpAny (model prog w) A (getItem o i) Q E s₂) E s₁) E s) :
    wpAny (model prog w) A (eval (.Subscript value slice pos) env) Q E s := by
  refine Subscript_ (wpAny_mono h (fun o s₁ h₁ => wpAny_mono h₁ (fun i s₂ h₂ => ?_) fun _ _ x => x) fun _ _ x => x)
  obtain ⟨hT, h₂⟩ := h₂
  unfold subscriptTail
  refine wpAny_bind ?_
  rw [getitemInPython_of_ne hT.not_modules]
  refine wpAny_bind (wpAny_specialOf hT hl ?_)
  have fin : wpAny (model prog w) A (subscripted slice false o i) (fun r s₃ => wpAny (model prog w) A (letTemporaryGo value o r >>= fun _ => pure r) Q E s₃) E s₂ := by
    rw [hs o i]
    exact wpAny_operating (wpAny_mono h₂ (fun r s₃ h₃ => wpAny_bind (wpAny_letTemporaryGo (wpAny_pure h₃))) fun _ _ x => x)
  first
    | exact wpAny_pure (wpAny_bind fin)
    | exact wpAny_bind (wpAny_pure (wpAny_bind fin))
    | exact wpAny_bind fin

theorem dict_typeIs {X : Cx} {pins : List (Addr × Obj)} {σ : St} {H : Hp} {s : Shared} {a : Addr} {y : V} {o : Option V} (I : Inv X pins σ H s) (g : DGet H a y o) : s.TypeIs (.ref a) "dict" := by
  rcases g with ⟨kvs, k, e, _, _⟩ | ⟨kvs, k, b, e, _, _, _⟩
  · obtain ⟨_, _, vs, _, dd⟩ := dk_rd I.hok e
    exact dd.typeIs
  · obtain ⟨_, _, xs, _, dd⟩ := dt_rd I.hok e
    exact dd.typeIs

/-- d[y] -/
def tDGet (td ty : TE) : TE := fun σ H Q => td σ H fun x H1 => ty σ H1 fun y H2 => ∃ a v, x = .ref a ∧ DGet H2 a y (some v) ∧ Q v H2
/-- y in d, y not in d -/
def tDIn (ty td : TE) : TE := fun σ H Q => ty σ H fun y H1 => td σ H1 fun x H2 => ∃ a o, x = .ref a ∧ DGet H2 a y o ∧ Q (.bl o.isSome) H2
/-- d[y] = v -/
def sDPut (td ty tv : TE) : TS := fun D σ H => tv σ H fun v H1 => td σ H1 fun x H2 => ty σ H2 fun y H3 => ∃ a H4, x = .ref a ∧ DPut H3 a y v H4 ∧ D.nx σ H4

section
variable {X : Cx} {o i e value : Expr} {pos pos' tpos : Pos} {td ty tv : TE}
theorem pe_dget (hu : X.A.units + 1 < cLine) (ho : PE X o td) (hi : PE X i ty) (hs : NoSl i) : PE X (.Subscript o i pos) (tDGet td ty) := by
  intro pins s σ H Q I h
  refine subD_of PySem.F.slot_dict_getitem.lookup hs (thn (ho pins s σ H _ I h) fun u s1 ⟨x, H1, I1, rx, q1⟩ => thn (hi pins s1 σ H1 _ I1 q1) fun iv s2 ⟨y, H2, I2, ry, a, v, ex, g, q2⟩ => ?_)
  subst ex
  obtain rfl : u = Value.ref a := rx
  exact ⟨dict_typeIs I2 g, d_getItem hu I2 g ry fun w' s3 I3 rw' => ⟨v, H2, I3, rw', q2⟩⟩
theorem pc_din (hu : X.A.units + 1 < cLine) (hi : PE X i ty) (ho : PE X o td) : PC X .In i o (tDIn ty td) := by
  intro pins s σ H Q I h
  refine thn (hi pins s σ H _ I h) fun iv s1 ⟨y, H1, I1, ry, q1⟩ => thn (ho pins s1 σ H1 _ I1 q1) fun u s2 ⟨x, H2, I2, rx, a, ov, ex, g, q2⟩ => ?_
  subst ex
  obtain rfl : u = Value.ref a := rx
  exact d_in hu I2 g ry fun s3 I3 => ⟨.bl ov.isSome, H2, I3, rfl, q2⟩
theorem ps_dput (hu : X.A.units + 1 < cLine) (ho : PE X o td) (hi : PE X i ty) (hv : PE X value tv) (hs : swapsWith value (some (.Subscript o i pos')) pos.line X.env = pure false) :
    PS X (.Assign [.Subscript o i pos'] value pos) (sDPut td ty tv) := by
  intro pins s σ H D I h
  refine wpAny_Assign_Subscript (thn (hv pins s σ H _ I h) fun r s1 ⟨v, H1, I1, rv, q1⟩ => thn (ho pins s1 σ H1 _ I1 q1) fun u s2 ⟨x, H2, I2, rx, q2⟩ => thn (hi pins s2 σ H2 _ I2 q2) fun iv s3 ⟨y, H3, I3, ry, a, H4, ex, g, q3⟩ => ?_) hs
  subst ex
  obtain rfl : u = Value.ref a := rx
  exact d_setItem hu I3 g ry rv fun s4 I4 => ⟨σ, H4, I4, q3⟩
end


/-! ### displays -/
theorem dk_empty {P : Program} {w : World} {H : Hp} (h : Heap) (hb : sysModules < h.objs.size) : ObjOk P w H (h.push { cls := .type "dict", data := .dict #[] }) h.objs.size (.dK []) :=
  ⟨Nat.zero_le _, beq_eq_false_iff_ne.mpr (Ne.symm (Nat.ne_of_lt hb)), [], .nil, Heap.DictOf.new h⟩
/-- {}, to be a dict of the kind that is wanted -/
def tDNewK : TE := fun _ H Q => ∀ p, H p = none → Q (.ref p) (upd H p (.dK []))
section
variable {X : Cx} {pos : Pos}
theorem pe_dnewK : PE X (.Dict [] [] pos) tDNewK := fun pins s σ H Q I h =>
  wpAny_Dict_empty ⟨.ref s.heap.objs.size, _, I.laid (a := s.heap.objs.size) (o := .dK []) (t' := s.toks) (fun _ _ q => Heap.get?_push_of_some _ q) (Nat.le_refl _) (dk_empty s.heap I.big), rfl, h _ (I.hok.fresh (Nat.le_refl _))⟩
end

/-- the pairs of a display, from the left -/
def tPairs : List (TE × TE) → St → Hp → (List (V × V) → Hp → Prop) → Prop
  | [], _, H, Q => Q [] H
  | (tk, tv) :: r, σ, H, Q => tk σ H fun x H1 => tv σ H1 fun y H2 => tPairs r σ H2 fun ps H3 => Q ((x, y) :: ps) H3
abbrev VV : List (V × V) → List (Value × Value) → Prop := Paired fun p q => RelV p.1 q.1 ∧ RelV p.2 q.2
def PPs (X : Cx) (pos : Pos) (keys : List (Option Expr)) (values : List Expr) (trs : List (TE × TE)) : Prop :=
  ∀ (pins : List (Addr × Obj)) (s : Shared) (σ : St) (H : Hp) (Q : List (V × V) → Hp → Prop), Inv X pins σ H s → tPairs trs σ H Q →
    wpAny (model X.prog X.w) X.A (evalPairs (pairTrees keys values X.env pos)) (fun vs s' => ∃ ps H', Inv X pins σ H' s' ∧ VV ps vs ∧ Q ps H') X.xe s
theorem pps_nil {X : Cx} {pos : Pos} : PPs X pos [] [] [] := fun pins s σ H Q I h => pairTrees_nil_walk ⟨[], H, I, .nil, h⟩
theorem pps_cons {X : Cx} {pos : Pos} {k v : Expr} {ks : List (Option Expr)} {vs : List Expr} {tk tv : TE} {trs : List (TE × TE)} (hk : PE X k tk) (hv : PE X v tv) (hr : PPs X pos ks vs trs) :
    PPs X pos (some k :: ks) (v :: vs) ((tk, tv) :: trs) := fun pins s σ H Q I h =>
  pairTrees_cons_walk (thn (hk pins s σ H _ I h) fun u s1 ⟨x, H1, I1, rx, q1⟩ => thn (hv pins s1 σ H1 _ I1 q1) fun w2 s2 ⟨y, H2, I2, ry, q2⟩ =>
    thn (hr pins s2 σ H2 _ I2 q2) fun ws s3 ⟨ps, H3, I3, rel, q3⟩ => ⟨(x, y) :: ps, H3, I3, .cons ⟨rx, ry⟩ rel, q3⟩)

def mergeK (kvs more : List (Key × V)) : List (Key × V) := more.foldl (fun acc kv => putK acc kv.1 kv.2) kvs
theorem KV.merge : ∀ {more : List (Key × V)} {rs : List (Key × Value)} {kvs : List (Key × V)} {vs : List (Key × Value)}, KV more rs → KV kvs vs → KV (mergeK kvs more) (merged vs rs) := by
  intro more rs kvs vs r
  unfold KV at r
  induction r generalizing kvs vs with
  | nil => intro q; exact q
  | @cons p q ps qs h t ih =>
    intro r0
    have e : KV (putK kvs p.1 p.2) (stored vs q.1 q.2) := by
      have := r0.put p.1 h.2
      rw [← h.1]; exact this
    exact ih e
theorem length_mergeK : ∀ (more kvs : List (Key × V)), (mergeK kvs more).length ≤ kvs.length + more.length
  | [], kvs => by show kvs.length ≤ kvs.length + 0; omega
  | p :: r, kvs => by
    have h1 := length_mergeK r (putK kvs p.1 p.2)
    have h2 := length_putK kvs p.1 p.2
    show (mergeK (putK kvs p.1 p.2) r).length ≤ _
    rw [List.length_cons]; omega
theorem carries_of {P : Program} {w : World} : ∀ {kvs : List (Key × V)} {ws : List (Value × Value)}, VV (kvs.map fun kv => (kV kv.1, kv.2)) ws → ∃ rs, Carries (mixKind P w) ws rs ∧ KV kvs rs
  | [], _, r => by rw [List.map_nil] at r; cases r; exact ⟨[], True.intro, .nil⟩
  | p :: kvs, _, r => by
    rw [List.map_cons] at r
    cases r with
    | @cons a b as bs h t =>
      obtain ⟨rs, c, q⟩ := carries_of (P := P) (w := w) t
      obtain ⟨b1, b2⟩ := b
      exact ⟨(p.1, b2) :: rs, ⟨kV_is h.1, rfl, c⟩, .cons ⟨rfl, h.2⟩ q⟩
/-- {k: v, ..} with keys ints and texts; the new dict stands empty while the pairs are made -/
def tDisp (trs : List (TE × TE)) : TE := fun σ H Q => ∀ p, H p = none → tPairs trs σ (upd H p (.dK [])) fun ps H2 => H2 p = some (.dK []) ∧ ∃ kvs : List (Key × V), ps = kvs.map (fun kv => (kV kv.1, kv.2)) ∧ kvs.length ≤ 15 ∧ Q (.ref p) (upd H2 p (.dK (mergeK [] kvs)))
theorem pe_disp {X : Cx} {pos : Pos} {keys : List (Option Expr)} {values : List Expr} {trs : List (TE × TE)} (h : PPs X pos keys values trs) (hall : keys.all (·.isSome) = true) (hl : keys.length = values.length) (h0 : keys ≠ [])
    (h15 : keys.length ≤ 15) : PE X (.Dict keys values pos) (tDisp trs) := by
  intro pins s σ H Q I q
  have hn := I.hok.fresh (Nat.le_refl s.heap.objs.size)
  have I1 := I.laid (a := s.heap.objs.size) (o := .dK []) (h' := s.heap.push { cls := .type "dict", data := .dict #[] }) (t' := s.toks) (fun _ _ q => Heap.get?_push_of_some _ q) (Nat.le_refl _) (dk_empty s.heap I.big)
  refine wpAny_Dict_walk (knd := mixKind X.prog X.w) hall hl h0 h15 (thn (h pins _ σ _ _ I1 (q _ hn)) fun ws s2 ⟨ps, H2, I2, rel, e, kvs, ep, lk, q2⟩ => ?_)
  subst ep
  obtain ⟨rs, c, rk⟩ := carries_of (P := X.prog) (w := X.w) rel
  obtain ⟨z, hd, vs0, r0, dd⟩ := dk_of I2.hok e
  cases r0
  refine ⟨rs, c, dd, fun h' dd' hs => ⟨.ref s.heap.objs.size, _, ?_, rfl, q2⟩⟩
  have hz : (mergeK [] kvs).length ≤ sizeLine := by
    have h1 := length_mergeK kvs []
    rw [List.length_nil] at h1
    rw [sizeLine_eq]; omega
  have he : ∃ q, h'.get? s.heap.objs.size = some q := let ⟨q, _, _, hq, _⟩ := dd'; ⟨q, hq⟩
  exact d_write I2 (by rw [e]; exact True.intro) hs he (dk_new hz hd (rk.merge .nil) dd')


/-! ### methods -/
structure M2 (X : Cx) (o : Expr) (m : Str) (apos : Pos) (e f : Expr) (cpos : Pos) : Prop where
  base : attributeBase o m X.env (eval o X.env) = eval o X.env
  few : ((backTo cpos (starEach [e, f] X.env)).all (fun x => !x.1) && (backToKw cpos (keywordEach [] X.env)).all (fun x => x.1.isSome)
    && decide (([e, f] : List Expr).length + ([] : List Keyword).length + (if ([] : List Keyword).isEmpty then 0 else 1) < 30)) = true
  line : (apos.endLine == cpos.line) = true
  trees : backTo cpos (starEach [e, f] X.env) = [(false, eval e X.env), (false, eval f X.env)]

/-- a is a dict, whatever its keys -/
def IsD (H : Hp) (a : Addr) : Prop := (∃ kvs, Rd H a (.dK kvs)) ∨ ∃ kvs, Rd H a (.dT kvs)
theorem isD_at {X : Cx} {pins : List (Addr × Obj)} {σ : St} {H : Hp} {s : Shared} {a : Addr} (I : Inv X pins σ H s) (d : IsD H a) :
    s.TypeIs (.ref a) "dict" ∧ (∀ b, Value.ref a = .ref b → ∃ ob, s.heap.get? b = some ob ∧ ob.dict = none) ∧ (a == sysModules) = false := by
  rcases d with ⟨kvs, e⟩ | ⟨kvs, e⟩
  · obtain ⟨_, hd, vs, _, dd⟩ := dk_rd I.hok e
    refine ⟨dd.typeIs, fun b q => ?_, hd⟩
    cases q
    obtain ⟨ob, _, _, h1, h2, _⟩ := dd
    exact ⟨ob, h1, h2.2.1⟩
  · obtain ⟨_, hd, xs, _, dd⟩ := dt_rd I.hok e
    refine ⟨dd.typeIs, fun b q => ?_, hd⟩
    cases q
    obtain ⟨ob, _, _, h1, h2, _⟩ := dd
    exact ⟨ob, h1, h2.2.1⟩

section
variable {X : Cx} {pins : List (Addr × Obj)} {σ : St} {H : Hp} {s : Shared} {a : Addr} {y d : V} {u r : Value} {o : Option V} {A : Around} {E : Value → Shared → Prop}
/-- d.get(y, x) -/
theorem d_get2 {Q : Value → Shared → Prop} (hu : A.units + 1 < cLine) (I : Inv X pins σ H s) (g : DGet H a y o) (ry : RelV y u) (rd : RelV d r) (h : ∀ w' s', Inv X pins σ H s' → RelV (o.getD d) w' → Q w' s') :
    wpAny (model X.prog X.w) A (call (.builtin "dict.get") [.ref a, u, r]) Q E s := by
  rcases g with ⟨kvs, k, e, ey, l⟩ | ⟨kvs, k, b, e, ey, eb, l⟩
  · subst ey
    obtain ⟨z, hd, vs, rel, dd⟩ := dk_rd I.hok e
    refine call_meetsIn PySem.F.slot_dict_get dd.typeIs PySem.F.entry_dict_get (PySem.F.args_dict_get_3 _ _ _) (meets_dict_get_default (mixKind X.prog X.w) a (kV_is ry) hd r) ⟨_, dd.mapOf, h _ _ (I.tok _) ?_⟩
    rw [l]
    exact (rel.val k).getD rd
  · subst ey
    cases (show u = Value.ref b from ry)
    obtain ⟨z, hd, xs, rel, dd⟩ := dt_rd I.hok e
    refine call_meetsIn PySem.F.slot_dict_get dd.typeIs PySem.F.entry_dict_get (PySem.F.args_dict_get_3 _ _ _) (meetsH_dict_get_default (tupleKind (mixKind X.prog X.w)) a b hd r) ⟨tupleKind_room_in1 hu, k, xs, key_of I.hok eb, dd, h _ _ (I.tok _) ?_⟩
    rw [l]
    exact (rel.val k).getD rd
end

def tDGet2 (td ty tx : TE) : TE := fun σ H Q => td σ H fun x H1 => ∃ a, x = .ref a ∧ IsD H1 a ∧ ty σ H1 fun y H2 => tx σ H2 fun z H3 => ∃ o, DGet H3 a y o ∧ Q (o.getD z) H3
section
variable {X : Cx} {o e f : Expr} {apos cpos : Pos} {td ty tx : TE}
theorem pe_dget2 (hu : X.A.units + 1 < cLine) (ho : PE X o td) (he : PE X e ty) (hf : PE X f tx) (m : M2 X o "get" apos e f cpos) : PE X (.Call (.Attribute o "get" apos) [e, f] [] cpos) (tDGet2 td ty tx) := by
  intro pins s σ H Q I h
  refine wpAny_Call_method m.base m.few m.line PySem.F.plainAttrs_dict PySem.F.slot_dict_get PySem.F.type_dict_get (thn (ho pins s σ H _ I h) fun u s1 ⟨x, H1, I1, rx, a, ex, d, q1⟩ => ?_)
  subst ex
  obtain rfl : u = Value.ref a := rx
  obtain ⟨t1, t2, _⟩ := isD_at I1 d
  refine ⟨t1, t2, ?_⟩
  rw [m.trees]
  refine Calls.callWith_builtin rfl (Calls.evalArgs_plain (Calls.spliced_cons (thn (he pins s1 σ H1 _ I1 q1) fun iv s2 ⟨y, H2, I2, ry, q2⟩ =>
    Calls.spliced_cons (thn (hf pins s2 σ H2 _ I2 q2) fun fv s3 ⟨z, H3, I3, rz, ov, g, q3⟩ => Calls.spliced_nil ?_))))
  exact d_get2 hu I3 g ry rz fun w' s4 I4 rw' => ⟨_, H3, I4, rw', q3⟩
end

/-! ### dict(d): a copy -/
section
variable {X : Cx} {pins : List (Addr × Obj)} {σ : St} {H : Hp} {s : Shared} {a : Addr} {kvs : List (Key × V)} {A : Around} {E : Value → Shared → Prop}
theorem d_copyOf {Q : Value → Shared → Prop} (I : Inv X pins σ H s) (e : Rd H a (.dK kvs)) (h : ∀ p s', H p = none → Inv X pins σ (upd H p (.dK kvs)) s' → Q (.ref p) s') : wpAny (model X.prog X.w) A (call (.type "dict") [.ref a]) Q E s := by
  obtain ⟨z, hd, vs, rel, dd⟩ := dk_rd I.hok e
  refine kt_call_dict hd dd (by rw [← rel.length]; exact z) fun h' dd' hs => ?_
  refine h _ _ (I.hok.fresh (Nat.le_refl _)) (I.laid (a := s.heap.objs.size) (o := .dK kvs) (t' := s.toks) (fun b q hq => ?_) (Nat.le_refl _) (dk_new z (beq_eq_false_iff_ne.mpr (Ne.symm (Nat.ne_of_lt I.big))) rel dd'))
  exact (hs.2 b (Nat.ne_of_lt (Heap.lt_size hq))).trans (Heap.get?_push_of_some _ hq)
end


section
variable {X : Cx} {pins : List (Addr × Obj)} {σ : St} {H : Hp} {s : Shared} {a : Addr} {y : V} {u : Value} {A : Around} {E : Value → Shared → Prop}
end
end L2

namespace Att
open PySem PySem.W PySem.Calls PyProof.Rows

/-! ### the script -/
theorem ints_of_wellAll {P : Params} {h : Heap} : ∀ (ns : List Int) (vs : List Value), WellAll P h vs (ns.map WData.int) → IntsAre vs ns := by
  intro ns
  induction ns with
  | nil =>
    intro vs w
    rw [List.map_nil] at w
    cases w
    exact .nil
  | cons n ns ih =>
    intro vs w
    rw [List.map_cons] at w
    cases w with
    | cons a b =>
      cases a
      exact .cons _ _ (ih _ b)

theorem script_of {l : OpenLaw} {n : Nat} (hn : l.most = some n) {P : Params} {h : Heap} {args : List WData} {vals : List Value}
    (hpre : l.row.toRowW.claim.pre args = true) (hwl : WellAll P h vals args) :
    ∃ a vs ns, vals = [Value.ref a] ∧ args = [WData.list (ns.map WData.int)] ∧ h.get? a = some { cls := .type "list", data := .seq vs.toArray } ∧ IntsAre vs ns ∧ ns.length ≤ n := by
  have hsh : WShape.hasAll [] args [.list .int] = true := (pre_splitW hpre).1
  have hc : l.pre.holds [] { args := args } = true := (pre_splitW hpre).2
  obtain ⟨d, r, rfl, h1, h2⟩ := hasAllW_cons hsh
  obtain rfl := hasAllW_nil h2
  obtain ⟨xs, rfl, h3⟩ := hasW_list h1
  obtain ⟨ns, rfl⟩ := items_int h3
  have hlen : ns.length ≤ n := by
    unfold OpenLaw.pre at hc
    have h4 : (WTm.not (.lt (.lit (.int (n : Int))) (.len (.arg 0)))).holds [] { args := [.list (ns.map .int)] } = true := by
      have h4 := (holds_andW hc).1
      rw [hn] at h4
      exact h4
    have h5 := condW_of h4 (w_not (w_lt w_lit (w_len_list (w_arg rfl))))
    rw [List.length_map] at h5
    refine Nat.le_of_not_lt fun q => ?_
    have q' : (n : Int) < ((ns.length : Nat) : Int) := by omega
    first
      | (rw [decide_eq_true q'] at h5; exact absurd h5 (by decide))
      | (simp at h5; omega)
  cases hwl with
  | cons w1 w2 =>
    cases w2
    cases w1 with
    | list ho hall => exact ⟨_, _, ns, rfl, rfl, ho, ints_of_wellAll ns _ hall, hlen⟩

theorem post_true (l : OpenLaw) (args : List WData) : l.row.toRowW.claim.post args (.bool true) args = true :=
  postW_of (r := l.row.toRowW) (X := (true == true))
    (show WShape.has [] (.bool true) .bool = true by first | rfl | decide | simp [WShape.has, WShape.arms, WShape.armsAll])
    (show (WTm.eq .res (.lit (.bool true))).value [] { args := args, res := some (.bool true), after := args } = some (.bool (true == true)) from w_eq_bool (w_res rfl) w_lit) rfl

/-! ### the attachment: holds_open's last premise (the goal 'hc' behind k_head) from a wpAny of the law's body -/

/-- the same from a codeAny of the CALL (for a layer whose function contracts speak of calls) -/
theorem attach_call {l : OpenLaw} {n : Nat} {q : Program} {loose : List Str} {XP : (Str → Option Value) → Heap → Prop} {YP : World → Heap → Prop} {d : DefRec}
    (hn : l.most = some n) (hdf : d.params.defaults = [])
    (call : ∀ (w : World) (s₀ s₁ : Shared) (mg mb : Str → Option Value) (fa : Addr) (o : Obj) (pm cd doc : Value) (a : Addr) (vs : List Value) (ns : List Int),
      Ground q loose [] XP w s₀ mg mb s₁.heap → YP w s₁.heap →
      s₁.heap.get? fa = some o → o.data = .func (docDef d.name d.params d.body d.scope pm cd doc) → s₁.heap.CodeRec cd d.name → mg d.name = some (.ref fa) →
      s₁.heap.get? a = some { cls := .type "list", data := .seq vs.toArray } → IntsAre vs ns → ns.length ≤ n → s₁.gens = #[] →
      codeAny (model l.prog w) callerA (.call (.ref fa) ⟨[.ref a], []⟩) (fun r s' => r = .ok (.ret (.bool true)) ∧ OldK s₁.heap s'.heap ∧ s'.os = s₁.os ∧ AllBare s'.gens) s₁) :
    WalkO q loose XP YP l.row.toRowW d [] (fun f vs => PySem.call f vs) := by
  intro w s₀ s₁ mg mb G Y fa o pm cd doc dV kV ho hd hcd hD hmg hg args vals as hpre hlay hrd hwl hlo
  obtain rfl : dV = .none := Dflts.none hD hdf
  obtain rfl : kV = .none := Dflts.noKw hD
  obtain ⟨a, vs, ns, rfl, rfl, hobj, hints, hlen⟩ := script_of hn hpre hwl
  refine enter_call (codeAny_mono (call w s₀ s₁ mg mb fa o pm cd doc a vs ns G Y ho (fd_plain hd) hcd hmg hobj hints hlen hg) fun r s' hq => ?_)
  obtain ⟨rfl, h2, h3, h4⟩ := hq
  exact ⟨.inl ⟨.bool true, .bool true, [], rfl, fun _ => rfl, .bool true, post_true l _, fun _ => ⟨List.Pairwise.nil, fun _ hm => (nomatch hm)⟩⟩, h2, h3, h4⟩


/-! ### rules over ANY heap (no ledger) from facts about the written part K: the library's own take a ledger (News) for what they write -/
section
variable {prog : Program} {w : World} {A : Around} {E : Value → Shared → Prop} {s : Shared} {K : Frag}





/-! the whole heap as the ledger: makes every rule that writes through a ledger a rule over any heap -/

end
end Att

namespace L2
open PySem PySem.Spec PyProof.Rows

theorem vals_ints : ∀ {vs : List Value} {ns : List Int}, IntsAre vs ns → Vals (ns.map V.int) vs
  | _, _, .nil => .nil
  | _, _, .cons n t h => .cons ⟨t, rfl⟩ (vals_ints h)

/-- nothing is tracked but the script, known to the object (or it is an object of the module) -/
def Only (H : Hp) : Prop := ∀ b, H b = none ∨ ∃ o xs, H b = some (.frz o (.lst xs))

/-- THE HEAD: the law's promise, at the heap behind the top. F, the promise of the law's def, may use that base is part of the heap (so K.In base, base.Ns mainGlobals mg stand in Mod) -/
theorem law_call {P : Program} {w : World} {K : PySem.W.Frag} {mg mb : Str → Option Value} {CX : CXT} {k : Nat} {fa a : Addr} {fd : FuncData} {x : Str} {sp : Sp} {s₁ : Shared} {vs : List Value} {ns : List Int}
    (KX : K.In s₁.heap) (hns : s₁.heap.Ns mainGlobals mg) (hb : s₁.heap.Ns builtinsNs mb) (hbb : ∀ x : Str, x ≠ "__name__" → mb x = bootBuiltins x) (hlim : s₁.heap.NoLimit) (hg : s₁.gens = #[])
    (ha : s₁.heap.get? a = some { cls := .type "list", data := .seq vs.toArray }) (hi : IntsAre vs ns) (hl : ns.length ≤ sizeLine) (hr : Room k callerA)
    (F : ∀ base : Heap, K.In base → base.Ns mainGlobals mg → FnOk P w K mg base CX k fa fd [x] sp) (hbind : ∀ (s : Shared) (u : Value), BindsTo s fd ⟨[u], []⟩ [(x, u)])
    (hsp : ∀ H : Hp, Only H → SqL K H a (ns.map V.int) → sp [.ref a] H (fun v _ => v = .bl true) fun _ _ _ => False)
    (hCX : ∀ H e s', CX [] H s₁ (fun _ _ _ => False) e s' → False) :
    codeAny (model P w) callerA (.call (.ref fa) ⟨[.ref a], []⟩) (fun r s' => r = .ok (.ret (.bool true)) ∧ OldK s₁.heap s'.heap ∧ s'.os = s₁.os ∧ AllBare s'.gens) s₁ := by
  have rv := vals_ints hi
  have lenV := hi.length
  -- from an abstract heap in which nothing but the script may be tracked
  have core : ∀ H : Hp, Only H → SqL K H a (ns.map V.int) → HOk P w H s₁.heap → (∀ b, H b ≠ none → b = a) → (H a ≠ none → K.lookup a = none) →
      codeAny (model P w) callerA (.call (.ref fa) ⟨[.ref a], []⟩) (fun r s' => r = .ok (.ret (.bool true)) ∧ OldK s₁.heap s'.heap ∧ s'.os = s₁.os ∧ AllBare s'.gens) s₁ := by
    intro H hO hS hok hA hK
    have base_of : ∀ {b : Addr} {o : Obj}, s₁.heap.get? b = some o → H b = none → (hidT s₁.heap H).get? b = some o := fun e n => hidT_get e n
    have noA : ∀ {b : Addr} {o : Obj} {es : Array DictEntry} {ep : Nat}, s₁.heap.get? b = some o → o.data = .dict es ep → H b = none := fun {b o es ep} e d => by
      cases q : H b with
      | none => rfl
      | some u =>
        have e' : b = a := hA b (by rw [q]; simp)
        subst e'
        rw [ha] at e; cases e
        have d' : Data.seq vs.toArray _ = Data.dict es ep := d
        cases d'
    have nsK : ∀ {b : Addr} {m : Str → Option Value}, s₁.heap.Ns b m → (hidT s₁.heap H).Ns b m := fun {b m} ⟨o, es, ep, e, d, r⟩ => ⟨o, es, ep, base_of e (noA e d), d, r⟩
    have hKb : K.In (hidT s₁.heap H) := fun b o e => base_of (KX b o e) (by
      cases q : H b with
      | none => rfl
      | some u =>
        have e' : b = a := hA b (by rw [q]; simp)
        subst e'
        rw [hK (by rw [q]; simp)] at e; cases e)
    have hM : Mod K mg (hidT s₁.heap H) := ⟨hKb, nsK hns, ⟨mb, nsK hb, hbb⟩, let ⟨mc, h1, h2⟩ := hlim; ⟨mc, nsK h1, h2⟩⟩
    have e0 : Env0 P w K mg (hidT s₁.heap H) callerA [] s₁ H := ⟨rfl, hM, fun b o e => of_hidT e, Nat.le_of_eq (hidT_size _ _), trivial, fun b hb => absurd (show b ∈ ([] : List Addr) from hb) (by simp), hok, .of_eq hg⟩
    refine codeAny_mono ((F _ hKb (nsK hns)).run callerA [] s₁ H ⟨[.ref a], []⟩ [.ref a] [.ref a] _ _ hr e0 (hbind s₁ (.ref a)) (.cons rfl .nil) (hsp H hO hS)) fun r s' h => ?_
    cases r with
    | error e => exact (hCX H e s' h).elim
    | ok fl =>
      cases fl with
      | next => exact False.elim h
      | brk => exact False.elim h
      | cont => exact False.elim h
      | ret u =>
        obtain ⟨v, H', os, bare, un, hok', r', q⟩ := h
        have q' : v = .bl true := q
        subst q'
        obtain rfl : u = Value.bool true := r'
        refine ⟨rfl, OldK.of_keep fun b o e => ?_, os, bare⟩
        cases q : H b with
        | none => exact un.keep b o e q (by intro z; exact absurd (show b ∈ ([] : List Addr) from z) (by simp)) (by simp)
        | some u =>
          rcases hO b with z | ⟨ob, xs, z⟩
          · rw [q] at z; cases z
          · have z2 := un.frzs b ob _ z
            obtain ⟨e1, _⟩ := hok b _ z
            obtain ⟨e2, _⟩ := hok' b _ z2
            rw [e] at e1; cases e1
            exact e2
  cases hk : K.lookup a with
  | some o =>
    -- the script is one of the module's own objects
    have e := KX a o hk
    rw [ha] at e
    cases e
    refine core (fun _ => none) (fun _ => .inl rfl) (.inr ⟨_, vs.toArray, _, hk, rfl, rfl, rfl, by rw [List.size_toArray, lenV]; exact hl, by simpa using rv⟩) (fun b u z => by have z' : (none : Option HO) = some u := z; cases z') (fun b z => absurd rfl z) fun z => absurd rfl z
  | none =>
    refine core (fun b => if b = a then some (.frz { cls := .type "list", data := .seq vs.toArray } (.lst (ns.map V.int))) else none) (fun b => ?_) (.inl (.inr ⟨{ cls := .type "list", data := .seq vs.toArray }, if_pos rfl⟩)) (fun b u z => ?_) (fun b z => ?_) fun _ => hk
    · by_cases hb : b = a
      · exact .inr ⟨_, _, if_pos hb⟩
      · exact .inl (if_neg hb)
    · by_cases hb : b = a
      · have z' := (if_pos hb).symm.trans z
        cases z'
        subst hb
        exact ⟨ha, by rw [List.length_map]; exact hl, vs, _, rv, ha⟩
      · have z' := (if_neg hb).symm.trans z
        cases z'
    · by_cases hb : b = a
      · exact hb
      · exact absurd (if_neg hb) z
end L2

namespace L2
open PySem PySem.Spec PyProof.Rows


/-- the goal that k_head leaves (case hc), from the law's promise. F gives the function object fd (K's own) once, then the promise over every base -/
theorem walk_of {l : PySem.W.OpenLaw} {n k : Nat} {q : Program} {loose : List Str} {XP : (Str → Option Value) → Heap → Prop} {YP : World → Heap → Prop} {d : DefRec} {K : Params → PySem.W.Frag} {CX : World → CXT} {sp : World → Sp} {x : Str}
    (hn : l.most = some n) (hn2 : n ≤ sizeLine) (hdf : d.params.defaults = []) (hr : Room k callerA)
    (hY : ∀ (w : World) (h : Heap), YP w h → (K w.params).In h)
    (F : ∀ (w : World) (mg : Str → Option Value) (fa : Addr) (h : Heap), (K w.params).In h → h.Ns mainGlobals mg → mg d.name = some (.ref fa) →
      ∃ fd : FuncData, (∀ (s : Shared) (u : Value), BindsTo s fd ⟨[u], []⟩ [(x, u)]) ∧
        ∀ base : Heap, (K w.params).In base → base.Ns mainGlobals mg → FnOk l.prog w (K w.params) mg base (CX w) k fa fd [x] (sp w))
    (hsp : ∀ (w : World) (H : Hp) (a : Addr) (ns : List Int), ns.length ≤ n → Only H → SqL (K w.params) H a (ns.map V.int) → sp w [.ref a] H (fun v _ => v = .bl true) fun _ _ _ => False)
    (hCX : ∀ (w : World) (H : Hp) (s : Shared) (e : Value) (s' : Shared), CX w [] H s (fun _ _ _ => False) e s' → False) :
    PySem.W.WalkO q loose XP YP l.row.toRowW d [] (fun f vs => PySem.call f vs) := by
  refine Att.attach_call hn hdf fun w s₀ s₁ mg mb fa o pm cd doc a vs ns G Y ho hd hcd hmg hobj hints hlen hg => ?_
  have KX := hY w _ Y
  obtain ⟨fd, hb, hF⟩ := F w mg fa _ KX G.T.g hmg
  exact law_call KX G.T.g G.T.b G.T.builtins G.T.nolimit hg hobj hints (Nat.le_trans hlen hn2) hr hF hb (fun H hO hS => hsp w H a ns hlen hO hS) fun H e s' => hCX w H s₁ e s'
end L2

/- THE LAST THEOREM (shape; LID, My.* are yours):
   My.Adr: a structure of the addresses that your layer names (classes, functions); My.Txt K t: a structure (Prop) of the equations over K;
   My.txt_mk : {K} {implicit addresses ..} (e1 : nsIn K mainGlobals "law" = some (some (.ref f))) (e2 : K.lookup f = some ⟨oc, od, .func (fnOf "law" "law" params body scope dV kV doc pm an cdv ct), sl⟩) (e3 : codeIn K cdv "law" = true) .. : ∃ t, My.Txt K t

set_option maxRecDepth 100000 in
set_option maxHeartbeats 0 in
theorem PySem.Challenge.cw_LID_holds : PySem.Challenge.rw_LID.Holds := by
  w_on; o_law; k_head; (case hw => w_witness2)
  k_fill
  refine L2.walk_of (l := PySem.Challenge.rw_LID) (n := 63) (k := 40) (x := "script") (CX := fun w => ..) (sp := fun _ => My.sp_law) rfl (by decide) rfl ⟨rfl, by decide, by decide⟩ (fun w h Y => PySem.W.kIn_of Y) ?F ?S ?C
  case F =>
    intro w mg fa h KX G hmg
    have T : ∃ t, My.Txt (L2.KOf KX) t := by
      dsimp only [L2.KOf]                          -- K must stand as «<heap const> w.params» for k_is
      refine' My.txt_mk ?e1 ?e2 ?e3 ..
      (case e1 => PySem.W.k_is)                    -- in the order: a name -> its address -> its object -> its parts
      (case e2 => PySem.W.k_is)
      ..
    obtain ⟨t, T⟩ := T
    have e0 := hmg.symm.trans (PySem.W.mg_of KX G T.law)
    cases e0                                       -- fa is the law's own address
    exact ⟨_, fun s u => .of_eq rfl, fun base kb nb => My.law_fn T kb nb⟩     -- if «.of_eq rfl» comes too early: refine' ⟨_, ?b, fun base kb nb => My.law_fn T kb nb⟩; exact fun s u => .of_eq rfl
  case S => exact fun w H a ns hl hO hS => ..
  case C => exact ..
(the tactic k_is has no namespace: write k_is) -/

/-! SHORT WORDS over the layer: a def of the text, its body, what a loop and a test want. -/
namespace L2
open PySem PySem.Spec PyProof.Rows

/-! ### the text by places -/
/-- the j-th statement of a class's body -/
def inClass (s : Stmt) (j : Nat) : Stmt := match s with
  | .ClassDef _ _ _ body _ _ _ _ _ _ _ => body.getD j (.Pass ⟨0, 0, 0, 0⟩)
  | _ => .Pass ⟨0, 0, 0, 0⟩
def defArgs (s : Stmt) : Arguments := match s with
  | .FunctionDef _ a _ _ _ _ _ _ _ _ => a
  | _ => { posonlyargs := [], args := [], vararg := none, kwonlyargs := [], kw_defaults := [], kwarg := none, defaults := [] }
def defBody (s : Stmt) : List Stmt := match s with
  | .FunctionDef _ _ b _ _ _ _ _ _ _ => b
  | _ => []
def defScope (s : Stmt) : Scope := match s with
  | .FunctionDef _ _ _ _ _ _ sc _ _ _ => sc
  | _ => { kind := .function, names := [], isGenerator := false, isCoroutine := false }

/-! ### no exception leaves a def -/
abbrev CX0 : CXT := fun _ _ _ _ _ _ => False
abbrev E0 : XK := fun _ _ _ => False
theorem pass0 {X : Cx} : Passes CX0 X E0 := fun _ _ _ _ _ _ _ h => h.elim

/-! ### a def (or method) of the text as it stands behind the top -/
structure Fun (K : PySem.W.Frag) (x qual : Str) (st : Stmt) (f : Addr) (fd : FuncData) : Prop where
  ex : ∃ (oc : Value) (od : Option Addr) (kV doc pm : Value) (an : Option Addr) (cdv ct : Value) (osl : Array (Option Value)),
    fd = PySem.W.fnOf x qual (defArgs st) (defBody st) (defScope st) .none kV doc pm an cdv ct ∧ K.lookup f = some ⟨oc, od, .func fd, osl⟩ ∧ PySem.W.codeIn K cdv qual = true
  kp : PySem.W.keepIn K (.ref f) = true
section
variable {P : Program} {w : World} {K : PySem.W.Frag} {mg : Str → Option Value} {base : Heap}
/-- THE RULE for a def: its body as a term of rules, and the reading of that term -/
theorem Fun.ok {x qual : Str} {st : Stmt} {f : Addr} {fd : FuncData} {N ps : List Str} {k : Nat} {sp : Sp} (F : Fun K x qual st f fd) (S : FnScope N ps (defScope st)) (len : ∀ vs H Q E, sp vs H Q E → vs.length = ps.length)
    (hbody : ∀ (cdv : Value) (A : Around) (outer : List Env) (s : Shared) (H : Hp) (vs : List V) (Q : VK) (E : XK), Room k (A.deeper (envOfC qual (defScope st) s.heap.objs.size f cdv)) → sp vs H Q E →
      ∃ t, PSs (cxOf CX0 P w K mg base N qual (defScope st) f cdv A outer s H E).nox (defBody st) t ∧ t { nx := fun _ H' => Q .non H', rt := Q } (start N vs) H) : FnOk P w K mg base CX0 (k + 1) f fd ps sp := by
  obtain ⟨oc, od, kV, doc, pm, an, cdv, ct, osl, rfl, lk, hcd⟩ := F.ex
  refine fn_of lk hcd S len fun A outer s H vs Q E hr hsp => ?_
  obtain ⟨t, h, q⟩ := hbody cdv A outer s H vs Q E hr hsp
  exact ⟨t, h.nox, q⟩
/-- how its arguments bind (no defaults): h is «fun _ _ _ _ _ _ us hl => match us, hl with | [_, _], _ => rfl», one _ a parameter -/
theorem Fun.binds {x qual : Str} {st : Stmt} {f : Addr} {fd : FuncData} {ps : List Str} (F : Fun K x qual st f fd)
    (h : ∀ (kV doc pm : Value) (an : Option Addr) (cdv ct : Value) (us : List Value), us.length = ps.length → bindArgs (PySem.W.fnOf x qual (defArgs st) (defBody st) (defScope st) .none kV doc pm an cdv ct) ⟨us, []⟩ = pure (ps.zip us)) : Binds K fd ps [] := by
  obtain ⟨oc, od, kV, doc, pm, an, cdv, ct, osl, rfl, lk, hcd⟩ := F.ex
  exact .all (h kV doc pm an cdv ct)
theorem fun_mk {x qual : Str} {st : Stmt} {f : Addr} {oc : Value} {od an : Option Addr} {osl : Array (Option Value)} {kV doc pm cdv ct : Value} (l : K.lookup f = some ⟨oc, od, .func (PySem.W.fnOf x qual (defArgs st) (defBody st) (defScope st) .none kV doc pm an cdv ct), osl⟩)
    (c : PySem.W.codeIn K cdv qual = true) (k : PySem.W.keepIn K (.ref f) = true) : Fun K x qual st f (PySem.W.fnOf x qual (defArgs st) (defBody st) (defScope st) .none kV doc pm an cdv ct) := ⟨⟨oc, od, kV, doc, pm, an, cdv, ct, osl, rfl, l, c⟩, k⟩
end
theorem hu_of {A : Around} {k : Nat} (hr : Room k A) : A.units + 1 < cLine := Nat.lt_of_le_of_lt (Nat.add_le_add_left (by decide : 1 ≤ 64) _) hr.units
theorem small1000 {n : Nat} (h : n ≤ 1000) : n < sizeLine := Nat.lt_of_le_of_lt h (by decide)

/-! ### expressions in short: the name that stands in the i-th slot -/
section
variable {X : Cx}
theorem pv (i : Nat) {x : Str} {pos : Pos} (hN : X.N[i]? = some x := by rfl) (hv : Vis X.env.scope x := by first | exact Or.inl rfl | exact Or.inr (Or.inl rfl) | exact Or.inr (Or.inr rfl)) (hd : (x == ("__debug__" : Str)) = false := by decide)
    (hcd : (x == ("__classdict__" : Str)) = false := by decide) : PE X (.Name x pos) (tVar i) := pe_var hN hv hd hcd
end

/-! ### tests -/
theorem iteF {A B : Prop} (h : B) : if false = true then A else B := by
  rw [if_neg Bool.false_ne_true]
  exact h
theorem iteT {A B : Prop} (h : A) : if true = true then A else B := by
  rw [if_pos rfl]
  exact h
theorem ite2 {c A B : Prop} [Decidable c] (h1 : c → A) (h2 : ¬ c → B) : if c then A else B := by
  by_cases h : c
  · rw [if_pos h]
    exact h1 h
  · rw [if_neg h]
    exact h2 h

/-! ### heaps -/
/-- all that was tracked is as it was -/
def Same (H H' : Hp) : Prop := ∀ b o, H b = some o → H' b = some o
theorem Same.refl (H : Hp) : Same H H := fun _ _ h => h
theorem Same.trans {H H1 H2 : Hp} (a : Same H H1) (b : Same H1 H2) : Same H H2 := fun c o h => b c o (a c o h)
theorem Same.free {H H' : Hp} (e : Same H H') {l : Addr} (h : H' l = Option.none) : H l = Option.none := by
  cases q : H l with
  | none => rfl
  | some o =>
    rw [e l o q] at h
    cases h
theorem Same.seq {K : PySem.W.Frag} {H H' : Hp} {a : Addr} {xs : List V} (e : Same H H') (h : SqL K H a xs) : SqL K H' a xs := by
  rcases h with (h | ⟨o, h⟩) | h
  · exact .inl (.inl (e _ _ h))
  · exact .inl (.inr ⟨o, e _ _ h⟩)
  · exact .inr h
/-! dict words -/
section
variable {X : Cx}
end

/-! ### a dict's pairs: keys that differ -/
section
variable {κ : Type} [DecidableEq κ]
theorem valV_not {kvs : List (κ × V)} {k : κ} (h : valV kvs k = none) : ¬ k ∈ kvs.map (·.1) := by
  intro m
  obtain ⟨p, hp, e⟩ := List.mem_map.mp m
  have q : (kvs.any fun kv => decide (kv.1 = k)) = true := List.any_eq_true.mpr ⟨p, hp, decide_eq_true e⟩
  rw [valV_any, h] at q
  exact absurd q (by simp)
end
end L2


set_option Elab.async false
set_option linter.all false
set_option maxRecDepth 100000
set_option maxHeartbeats 4000000
namespace L2
open PySem PySem.Spec PyProof.Rows

/-! ### a list comprehension of one clause, as a block of its own -/
def clStep (env : Env) (cs : List (Str × Addr)) (nk : Str × NameKind) : List (Str × Addr) :=
  if nk.2 == .free then (nk.1, (env.cells.lookup nk.1).getD 0) :: cs else cs
def clOf (scope : Scope) (env : Env) : List (Str × Addr) := scope.names.foldl (clStep env) []
theorem clos_of {scope : Scope} {env : Env} (h : ∀ y ∈ scope.names, y.2 = .free → ∃ c, env.cells.lookup y.1 = some c) : closureFor scope env = pure (clOf scope env) := by
  have all : ∀ (l : List (Str × NameKind)) (cs : List (Str × Addr)), (∀ y ∈ l, y.2 = .free → ∃ c, env.cells.lookup y.1 = some c) →
      (forIn l cs (fun x r => if (x.2 == NameKind.free) = true then do let a ← cellOf env x.1; pure (ForInStep.yield ((x.1, a) :: r)) else pure (ForInStep.yield r)) : Sem (List (Str × Addr))) = pure (l.foldl (clStep env) cs) := by
    intro l
    induction l with
    | nil => intro cs _; rfl
    | cons y r ih =>
      intro cs hy
      obtain ⟨n, k⟩ := y
      rw [List.forIn_cons, List.foldl_cons]
      by_cases hk : (k == NameKind.free) = true
      · obtain ⟨c, hc⟩ := hy (n, k) List.mem_cons_self (by simpa using hk)
        have e1 : cellOf env n = pure c := by unfold cellOf; rw [hc]
        have e2 : clStep env cs (n, k) = (n, c) :: cs := by unfold clStep; rw [if_pos hk, hc]; rfl
        rw [e2, ← ih _ fun z hz => hy z (List.mem_cons_of_mem _ hz)]
        dsimp only
        rw [if_pos hk, e1]
        rfl
      · have e2 : clStep env cs (n, k) = cs := by unfold clStep; rw [if_neg hk]
        rw [e2, ← ih _ fun z hz => hy z (List.mem_cons_of_mem _ hz)]
        dsimp only
        rw [if_neg hk]
        rfl
  have e := all scope.names [] h
  unfold closureFor clOf
  rw [← e]
  simp only [bind_pure]
theorem clOf_mem {env : Env} : ∀ {l : List (Str × NameKind)} {cs : List (Str × Addr)} {n : Str} {c : Addr}, (∀ y ∈ l, y.2 = .free → ∃ c, env.cells.lookup y.1 = some c) → (n, c) ∈ l.foldl (clStep env) cs → (n, c) ∈ cs ∨ env.cells.lookup n = some c
  | [], cs, n, c, _, m => .inl m
  | (y, k) :: r, cs, n, c, h, m => by
    rcases clOf_mem (fun z hz => h z (List.mem_cons_of_mem _ hz)) (show (n, c) ∈ r.foldl (clStep env) (clStep env cs (y, k)) from m) with q | q
    · unfold clStep at q
      by_cases hk : (k == NameKind.free) = true
      · rw [if_pos hk] at q
        rcases List.mem_cons.mp q with q | q
        · obtain ⟨d, hd⟩ := h (y, k) List.mem_cons_self (by simpa using hk)
          have hd : env.cells.lookup y = some d := hd
          injection q with q1 q2
          subst q1
          rw [hd] at q2
          subst q2
          exact .inr hd
        · exact .inl q
      · rw [if_neg hk] at q
        exact .inl q
    · exact .inr q
theorem clStep_sub {env : Env} : ∀ {l : List (Str × NameKind)} {cs : List (Str × Addr)} {p : Str × Addr}, p ∈ cs → p ∈ l.foldl (clStep env) cs
  | [], _, _, m => m
  | (y, k) :: r, cs, p, m => by
    refine clStep_sub (l := r) (cs := clStep env cs (y, k)) ?_
    unfold clStep
    split
    · exact List.mem_cons_of_mem _ m
    · exact m
theorem clOf_has {env : Env} : ∀ {l : List (Str × NameKind)} {cs : List (Str × Addr)} {n : Str}, (n, NameKind.free) ∈ l → ∃ c, (n, c) ∈ l.foldl (clStep env) cs
  | (y, k) :: r, cs, n, m => by
    rcases List.mem_cons.mp m with q | q
    · cases q
      exact ⟨(env.cells.lookup y).getD 0, clStep_sub (l := r) (by simp [clStep])⟩
    · exact clOf_has (l := r) q
theorem lookup_has {β : Type} : ∀ {l : List (Str × β)} {n : Str} {c : β}, (n, c) ∈ l → ∃ d, l.lookup n = some d
  | (k, v) :: r, n, c, m => by
    rw [List.lookup_cons]
    cases e : n == k with
    | true => exact ⟨v, rfl⟩
    | false =>
      rcases List.mem_cons.mp m with q | q
      · cases q
        simp at e
      · exact lookup_has q
theorem lookup_relabel_cell {env : Env} (hf : env.scope.kind = .function) : ∀ {names : List (Str × NameKind)} {x : Str}, names.lookup x = some .free → env.kindOf x = some .cell →
    (names.map fun (n, k) => if (k == NameKind.free && env.scope.kind == .function && env.kindOf n == some .cell) then (n, NameKind.cell) else (n, k)).lookup x = some .cell
  | [], _, h, _ => by simp at h
  | (n, k) :: r, x, h, hc => by
    have ih := @lookup_relabel_cell env hf r x
    show List.lookup x ((if (k == NameKind.free && env.scope.kind == .function && env.kindOf n == some .cell) = true then (n, NameKind.cell) else (n, k)) :: _) = _
    cases hx : x == n with
    | true =>
      have e : x = n := by simpa using hx
      subst e
      simp only [List.lookup_cons, hx] at h
      cases h
      rw [if_pos (by rw [hf, hc]; rfl)]
      simp [List.lookup_cons]
    | false =>
      simp only [List.lookup_cons, hx] at h
      by_cases hc' : (k == NameKind.free && env.scope.kind == .function && env.kindOf n == some .cell) = true
      · rw [if_pos hc']; simp only [List.lookup_cons, hx]; exact ih h hc
      · rw [if_neg hc']; simp only [List.lookup_cons, hx]; exact ih h hc

/-- the block's names N', each its own (none) or that of a slot around -/
def frOk (sc scope : Scope) (N : List Str) : List Str → List (Option Nat) → Bool
  | [], [] => true
  | _ :: r, none :: f => frOk sc scope N r f
  | y :: r, some i :: f => (N[i]? == some y) && (scope.names.lookup y == some .free) && (sc.names.lookup y == some .cell) && frOk sc scope N r f
  | _, _ => false
structure CompSc (sc scope : Scope) (N N' : List Str) (fr : List (Option Nat)) : Prop where
  kind : scope.kind = .function
  nocell : ∀ y ∈ scope.names, y.2 ≠ .cell
  names : ∀ y ∈ scope.names, y.2 = .local → scope.names.lookup y.1 = some .local
  free : ∀ y ∈ scope.names, y.2 = .free → sc.names.lookup y.1 = some .cell
  nd : N'.Nodup
  fr : frOk sc scope N N' fr = true
def frSt (fr : List (Option Nat)) (σ : St) : St := fr.map fun o => o.bind fun i => (σ[i]?).join
theorem frOk_len {sc scope : Scope} {N : List Str} : ∀ {N' : List Str} {fr : List (Option Nat)}, frOk sc scope N N' fr = true → fr.length = N'.length
  | [], [], _ => rfl
  | _ :: r, none :: f, h => by simp only [List.length_cons]; rw [frOk_len (N' := r) (fr := f) h]
  | y :: r, some i :: f, h => by
    unfold frOk at h
    simp only [Bool.and_eq_true] at h
    simp only [List.length_cons]; rw [frOk_len (N' := r) (fr := f) h.2]
  | [], _ :: _, h => by simp [frOk] at h
  | _ :: _, [], h => by simp [frOk] at h
theorem frOk_at {sc scope : Scope} {N : List Str} : ∀ {N' : List Str} {fr : List (Option Nat)} {j i : Nat} {y : Str}, frOk sc scope N N' fr = true → N'[j]? = some y → fr[j]? = some (some i) → N[i]? = some y ∧ scope.names.lookup y = some .free ∧ sc.names.lookup y = some .cell
  | [], [], _, _, _, _, h, _ => by simp at h
  | _ :: r, none :: f, 0, i, y, _, _, h => by simp at h
  | _ :: r, none :: f, j + 1, i, y, h, h1, h2 => frOk_at (N' := r) (fr := f) (j := j) h (by simpa using h1) (by simpa using h2)
  | z :: r, some k :: f, 0, i, y, h, h1, h2 => by
    unfold frOk at h
    simp only [Bool.and_eq_true, beq_iff_eq] at h
    have e1 : z = y := by simpa using h1
    have e2 : k = i := by simpa using h2
    subst e1 e2
    exact ⟨h.1.1.1, h.1.1.2, h.1.2⟩
  | z :: r, some k :: f, j + 1, i, y, h, h1, h2 => by
    unfold frOk at h
    simp only [Bool.and_eq_true] at h
    exact frOk_at (N' := r) (fr := f) (j := j) h.2 (by simpa using h1) (by simpa using h2)
  | [], _ :: _, _, _, _, h, _, _ => by simp [frOk] at h
  | _ :: _, [], _, _, _, h, _, _ => by simp [frOk] at h

def cxComp (X : Cx) (scope : Scope) (C : Addr) (N' : List Str) (s₀ : Shared) (H₀ : Hp) (fp : List Addr) : Cx where
  prog := X.prog
  w := X.w
  K := X.K
  mg := X.mg
  base := X.base
  A := X.A
  N := N'
  s₀ := s₀
  H₀ := H₀
  env := compEnvC scope (clOf scope X.env) C X.env
  outer := X.stack
  stack := X.stack
  ex := fp
  calm := true
  fn := fun _ => false
  pn := []
  xe := fun _ _ => False

section
variable {X : Cx} {scope : Scope} {N' : List Str} {fr : List (Option Nat)} {pins : List (Addr × Obj)} {σ : St} {H : Hp} {s : Shared} {fp : List Addr}

theorem Inv.block {h1 : Heap} {t1 : Nat} {m : Str → Option Value} (S : CompSc X.env.scope scope X.N N' fr) (hc : X.calm = true) (I : Inv X pins σ H s) (hf : ∀ b ∈ fp, FpOk X pins H b) (hlt : ∀ b ∈ fp, b < s.heap.objs.size)
    (hns : h1.Ns s.heap.objs.size m) (old : ∀ b o, s.heap.get? b = some o → h1.get? b = some o) :
    Inv (cxComp X scope s.heap.objs.size N' s H fp) [] (frSt fr σ) H { s with heap := h1, toks := t1 } := by
  have hfree : ∀ y ∈ scope.names, y.2 = .free → ∃ c, X.env.cells.lookup y.1 = some c := fun y hy e => I.ok.has y.1 (.inl (S.free y hy e))
  have cl1 : ∀ y c, (clOf scope X.env).lookup y = some c → X.env.cells.lookup y = some c := fun y c e => by
    rcases clOf_mem (cs := []) hfree (PySem.mem_of_lookup e) with q | q
    · exact absurd q (by simp)
    · exact q
  have has : ∀ y, ((relabel scope X.env).names.lookup y = some .cell ∨ (relabel scope X.env).names.lookup y = some .free) → ∃ c, (clOf scope X.env).lookup y = some c := fun y hy => by
    have q : (y, NameKind.free) ∈ scope.names := by
      have m : ∃ k, (k = NameKind.cell ∨ k = NameKind.free) ∧ (y, k) ∈ (relabel scope X.env).names := by
        rcases hy with hy | hy
        · exact ⟨_, .inl rfl, PySem.mem_of_lookup hy⟩
        · exact ⟨_, .inr rfl, PySem.mem_of_lookup hy⟩
      obtain ⟨k, hk, m⟩ := m
      obtain ⟨⟨n, k0⟩, hm, e⟩ := List.mem_map.mp m
      dsimp only at e
      by_cases hq : (k0 == NameKind.free && X.env.scope.kind == .function && X.env.kindOf n == some .cell) = true
      · rw [if_pos hq] at e
        simp only [Bool.and_eq_true, beq_iff_eq] at hq
        injection e with e1 e2
        rw [← e1, ← hq.1.1]
        exact hm
      · rw [if_neg hq] at e
        injection e with e1 e2
        subst e1 e2
        rcases hk with hk | hk
        · exact absurd hk (S.nocell _ hm)
        · rw [← hk]; exact hm
    obtain ⟨c, mc⟩ := clOf_has (env := X.env) (cs := []) q
    exact lookup_has mc
  have ltC : ∀ y c, X.env.cells.lookup y = some c → c < s.heap.objs.size := fun y c e => by
    obtain ⟨v, q⟩ := I.cell y c e
    exact q.lt
  refine ⟨⟨I.ok.mod, S.kind, I.ok.glob, I.ok.blt, Nat.le_refl _, fun x y c e1 e2 => I.ok.inj x y c (cl1 x c e1) (cl1 y c e2), has, fun x c e _ => absurd e (by simp [cxComp]), fun _ => I.ok.hd hc, I.ok.frames, .inl rfl,
      fun b hb => ⟨Nat.ne_of_lt (hlt b hb), fun x c e => (hf b hb).2.2.2.2.1 x c (cl1 x c e)⟩, I.bs, Nat.le_trans I.ok.bsz I.sz, fun b o e hb => ?_, fun b hb z => ?_, I.stack, I.stkFree⟩,
    rfl, I.bare, Un.kept old, ⟨m, hns, fun i x v e1 e2 e3 => ?_⟩, fun x c e => ?_, I.fresh, fun x c e => I.freeC x c (cl1 x c e), fun p hp => absurd hp (by simp [cxComp]), I.hok.kept old, ?_⟩
  · rcases (hf b hb).2.2.2.1 with z | z
    · exact I.ok.noex b o e z
    · exact absurd (Nat.lt_of_lt_of_le (Heap.lt_size e) (Nat.le_trans I.ok.bsz z)) (Nat.lt_irrefl _)
  · rcases List.mem_cons.mp (I.stkSub b z) with q | q
    · exact (hf b hb).2.1 q
    · exact (hf b hb).2.2.1 q
  · -- a name of the block at its entry: one from around
    have e2 : (frSt fr σ)[i]? = some (some v) := e2
    unfold frSt at e2
    rw [List.getElem?_map] at e2
    cases q : fr[i]? with
    | none => rw [q] at e2; cases e2
    | some o =>
      rw [q] at e2
      cases o with
      | none => cases e2
      | some j =>
        have e2 : (σ[j]?).join = some v := Option.some.inj e2
        have e4 : σ[j]? = some (some v) := by
          cases r : σ[j]? with
          | none => rw [r] at e2; cases e2
          | some w => rw [r] at e2; exact congrArg some e2
        obtain ⟨f1, f2, f3⟩ := frOk_at S.fr e1 q
        obtain ⟨m0, _, hl⟩ := I.loc
        obtain ⟨u, r, l⟩ := hl j x v f1 e4 (.inr (.inl f3))
        refine ⟨u, r, .inr ⟨.inl (lookup_relabel_cell I.ok.kind f2 f3), ?_⟩⟩
        obtain ⟨c, hc⟩ := has x (.inl (lookup_relabel_cell I.ok.kind f2 f3))
        rcases l with ⟨k, _⟩ | ⟨_, c', hc', ho⟩
        · have k : X.env.scope.names.lookup x = some .local := k
          rw [f3] at k; cases k
        · have e : c = c' := Option.some.inj ((cl1 x c hc).symm.trans hc')
          subst e
          obtain ⟨o, ho, hd⟩ := ho
          exact ⟨c, hc, o, old c o ho, hd⟩
  · obtain ⟨v, o, ho, hd⟩ := I.cell x c (cl1 x c e)
    exact ⟨v, o, old c o ho, hd⟩
  · show (frSt fr σ).length = N'.length
    unfold frSt
    rw [List.length_map]
    exact frOk_len S.fr
end

def PTs (X : Cx) (ifs : List Expr) (t : TT) : Prop :=
  ∀ (pins : List (Addr × Obj)) (s : Shared) (σ : St) (H : Hp) (Q : Bool → Hp → Prop), Inv X pins σ H s → t σ H Q →
    wpAny (model X.prog X.w) X.A (forIn ifs true fun c r => if r = true then do let ok ← isTrue c X.env (eval c X.env); pure (ForInStep.yield ok) else pure (ForInStep.yield r)) (TP X pins σ Q) X.xe s
def tYes : TT := fun _ H Q => Q true H
theorem pts_nil {X : Cx} : PTs X [] tYes := fun _ _ _ H _ I q => wpAny_tests_nil ⟨H, I, q⟩
theorem pts_one {X : Cx} {c : Expr} {t : TT} (h : PT X c t) : PTs X [c] t := fun pins s σ H Q I q => wpAny_tests_one (h pins s σ H Q I q)

theorem compLoop_any {prog : Program} {w : World} {A : Around} {R : Result → Shared → Prop} {s : Shared} {elt target iter : Expr} {ifs : List Expr} {scope : Scope} {pos : Pos} {it acc : Value} {env : Env} (I : Nat → Shared → Prop)
    (turn : ∀ n s, I n s → wpAny (model prog w) A (pyNext it) (fun r s₁ => match r with
      | none => R (.ok .next) s₁
      | some v => wpAny (model prog w) A (letOwnedTupleGo target it v) (fun _ s₀ => wpAny (model prog w) A (assign target env v) (fun _ s₂ =>
          wpAny (model prog w) A (forIn ifs true fun c r => if r = true then do let ok ← isTrue c env (eval c env); pure (ForInStep.yield ok) else pure (ForInStep.yield r)) (fun ok s₃ =>
            if ok = true then wpAny (model prog w) A (eval elt env) (fun x s₄ =>
              wpAny (model prog w) A (call (.builtin "list.append") [acc, x]) (fun _ s₅ => ∃ m, m < n ∧ I m s₅) (fun _ _ => False) s₄) (fun _ _ => False) s₃
            else ∃ m, m < n ∧ I m s₃) (fun _ _ => False) s₂) (fun _ _ => False) s₀) (fun _ _ => False) s₁) (fun _ _ => False) s)
    (n : Nat) (h : I n s) :
    codeAny (model prog w) A (.compLoop (.ListComp elt [⟨target, iter, ifs, 0⟩] scope pos) 0 it acc env) R s := by
  refine codeAny_loop rfl I (fun n s hI => ?_) n h
  show wpAny _ A ((compTurn (.ListComp elt [⟨target, iter, ifs, 0⟩] scope pos) 0 it acc env).onRaise (fun x => do noteFrame x env; theTreesLotGoes x)) _ _ s
  refine wpAny_noted ?_
  rw [compTurn_list]
  refine wpAny_bind (wpAny_standAt (wpAny_bind (wpAny_mono (turn n s hI) (fun r s₁ h₁ => ?_) fun _ _ h' => h'.elim)))
  cases r with
  | none => exact wpAny_pure h₁
  | some v =>
    refine wpAny_bind (wpAny_mono h₁ (fun _ s₀ h₀ => ?_) fun _ _ h' => h'.elim)
    refine wpAny_bind (wpAny_mono h₀ (fun _ s₂ h₂ => wpAny_bind (wpAny_mono h₂ (fun ok s₃ h₃ => ?_) fun _ _ h' => h'.elim)) fun _ _ h' => h'.elim)
    cases ok with
    | false => exact wpAny_pure ⟨rfl, h₃⟩
    | true =>
      exact wpAny_bind (wpAny_bind (wpAny_mono h₃ (fun x s₄ h₄ => wpAny_bind (wpAny_mono h₄ (fun _ s₅ h₅ => wpAny_pure (wpAny_pure ⟨rfl, h₅⟩)) fun _ _ h' => h'.elim)) fun _ _ h' => h'.elim))

/-- W: by the turn, a measure, the block's names, what has come, the heap -/
def tComp (fr : List (Option Nat)) (wi : TI) (g : TG) (tt : TT) (te : TE) : TE := fun σ H Q => wi σ H fun J H1 => ∀ D, H1 D = none →
  ∃ W : Nat → Nat → St → List V → Hp → Prop, (∃ m, W 0 m (frSt fr σ) [] (upd H1 D (.lst []))) ∧ ∀ i m σ ys H, W i m σ ys H →
    (J.stop i H ∧ Q (.ref D) H) ∨ (J.go i H ∧ ∃ N : St → List V → Hp → Prop, (∀ σ' ys' H', N σ' ys' H' → ∃ m', m' < m ∧ W (i + 1) m' σ' ys' H') ∧ ∀ x H', J.yld i H x H' → g x σ H' fun σ2 H2 => tt σ2 H2 fun b H3 =>
      if b = true then te σ2 H3 fun v H4 => H4 D = some (.lst ys) ∧ ys.length < sizeLine ∧ N σ2 (ys ++ [v]) (upd H4 D (.lst (ys ++ [v])))
      else N σ2 ys H3)

theorem comp_run {X : Cx} {elt tg iter : Expr} {ifs : List Expr} {scope : Scope} {pos cpos : Pos} {wi : TI} {g : TG} {tt : TT} {te : TE} {N' : List Str} {fr : List (Option Nat)} (S : CompSc X.env.scope scope X.N N' fr) (hc : X.calm = true) (hi : PI X tg iter wi)
    (hg : ∀ C s0 H0 fp, PG (cxComp X scope C N' s0 H0 fp) tg g) (ht : ∀ C s0 H0 fp, PTs (cxComp X scope C N' s0 H0 fp) ifs tt) (he : ∀ C s0 H0 fp, PE (cxComp X scope C N' s0 H0 fp) elt te)
    (hs : ∀ x, foldedSetIterable iter X.env x = pure x) {pins : List (Addr × Obj)} {s : Shared} {σ : St} {H : Hp} {Q : VK} (I : Inv X pins σ H s) (h : tComp fr wi g tt te σ H Q) (use : Option (Value → Sem Unit)) (QQ : Value → Shared → Prop)
    (fin : ∀ (D C : Addr) (H5 : Hp) (s6 : Shared), Inv X pins σ H5 s6 → Q (.ref D) H5 → H5 C = none → C ≠ X.env.locals → X.s₀.heap.objs.size ≤ C → (∀ x c, X.env.cells.lookup x = some c → c ≠ C) → (∀ p ∈ X.pn ++ pins, p.1 ≠ C) → (∃ m, s6.heap.Ns C m) →
      compPost (model X.prog X.w) X.A X.xe use QQ (.ref D) C (.ok .next) s6) :
    wpAny (model X.prog X.w) X.A (comprehension (.ListComp elt [⟨tg, iter, ifs, 0⟩] scope pos) scope X.env cpos (newList []) false (eval iter X.env) use) QQ X.xe s := by
  have hfree : ∀ y ∈ scope.names, y.2 = .free → ∃ c, X.env.cells.lookup y.1 = some c := fun y hy e => I.ok.has y.1 (.inl (S.free y hy e))
  refine wpAny_comprehension_free (use := use) rfl hs (clos_of hfree) S.kind S.names (thn (hi pins s σ H _ I h) fun v s1 h1 => thn h1 fun itv s2 h2 => ?_)
  obtain ⟨it, fp, tn, J, H2, e, I2, T, st2, f2, hD⟩ := h2
  subst e
  obtain ⟨W, ⟨m0, w0⟩, turn⟩ := hD s2.heap.objs.size I2.fresh
  -- the new list
  refine wpAny_newObj_type ?_
  have I3 : Inv X pins σ (upd H2 s2.heap.objs.size (.lst [])) { s2 with heap := s2.heap.push { cls := .type "list", data := .seq ([] : List Value).toArray }, toks := s2.toks } := I2.lnew (ys := []) .nil (Nat.zero_le _)
  revert I3
  generalize eD : s2.heap.objs.size = D at *
  generalize e3 : ({ s2 with heap := s2.heap.push { cls := .type "list", data := .seq ([] : List Value).toArray }, toks := s2.toks } : Shared) = s3
  intro I3
  have k3 : ∀ b o, s2.heap.get? b = some o → s3.heap.get? b = some o := fun b o e => by rw [← e3]; exact Heap.get?_push_of_some _ e
  refine wpAny_newFunctionEnv S.nocell (by intro y hy; simp at hy) (fun h4 hns hsb => ?_) S.kind
  have old : ∀ b o, s3.heap.get? b = some o → h4.get? b = some o := fun b o e => hsb.extBut b o (Nat.ne_of_lt (Heap.lt_size e)) (Heap.get?_push_of_some _ e)
  have fD : ∀ b ∈ fp, b ≠ D := fun b hb z => by
    obtain ⟨o, ho, _⟩ := T.obj _ _ st2 b hb
    exact absurd (Heap.lt_size ho) (by rw [z, eD]; exact Nat.lt_irrefl _)
  have f3 : ∀ b ∈ fp, FpOk X pins (upd H2 D (.lst [])) b := fun b hb => ⟨by rw [upd_ne (fD b hb)]; exact (f2 b hb).1, (f2 b hb).2⟩
  have l3 : ∀ b ∈ fp, b < s3.heap.objs.size := fun b hb => by
    obtain ⟨o, ho, _⟩ := T.obj _ _ st2 b hb
    exact Heap.lt_size (k3 b o ho)
  have I4 := Inv.block (t1 := s3.toks + ([] : List (Str × Value)).length) (scope := scope) S hc I3 f3 l3 hns old
  generalize eX : cxComp X scope s3.heap.objs.size N' s3 (upd H2 D (.lst [])) fp = X' at I4
  have st4 : tn 0 h4 := T.keep _ _ _ st2 fun b hb o e => old b o (k3 b o e)
  have stat : ∀ {H' : Hp}, (∀ b ∈ fp, H' b = none) → ∀ b ∈ fp, FpOk X' [] H' b := fun {H'} hn b hb => by
    subst eX
    refine ⟨hn b hb, Nat.ne_of_lt (l3 b hb), ?_, .inl hb, ?_, fun p hp => absurd hp (by simp [cxComp])⟩
    · exact I4.ok.exfs b hb
    · exact (I4.ok.exf b hb).2
  show codeAny _ _ (.compStart _ 0 (.ref it) (.ref D) (compEnvC scope (clOf scope X.env) s3.heap.objs.size X.env)) (compPost _ _ _ use _ (.ref D) s3.heap.objs.size) _
  have hX : X'.prog = X.prog ∧ X'.w = X.w ∧ X'.K = X.K ∧ X'.A = X.A ∧ X'.calm = true ∧ X'.env = compEnvC scope (clOf scope X.env) s3.heap.objs.size X.env ∧ X'.xe = (fun _ _ => False) ∧ X'.s₀ = s3 ∧ X'.H₀ = upd H2 D (.lst []) ∧ X'.fs = frs X.stack ∧ X'.ex = fp := by
    subst eX
    exact ⟨rfl, rfl, rfl, rfl, rfl, rfl, rfl, rfl, rfl, rfl, rfl⟩
  have hg' : PG X' tg g := by subst eX; exact hg _ _ _ _
  have ht' : PTs X' ifs tt := by subst eX; exact ht _ _ _ _
  have he' : PE X' elt te := by subst eX; exact he _ _ _ _
  clear eX
  obtain ⟨x1, x2, x3, x4, x5, x6, x7, x8, x9, x10, x11⟩ := hX
  have loop : codeAny (model X.prog X.w) X.A (.compLoop (.ListComp elt [⟨tg, iter, ifs, 0⟩] scope pos) 0 (.ref it) (.ref D) (compEnvC scope (clOf scope X.env) s3.heap.objs.size X.env))
      (compPost (model X.prog X.w) X.A X.xe use QQ (.ref D) s3.heap.objs.size) { s3 with heap := h4, toks := s3.toks + ([] : List (Str × Value)).length } := by
    refine compLoop_any (fun n s' => ∃ i σ' ys H', Inv X' [] σ' H' s' ∧ tn i s'.heap ∧ (∀ b ∈ fp, H' b = none) ∧ W i n σ' ys H') ?_ m0 ⟨0, _, [], _, I4, st4, fun b hb => (f3 b hb).1, w0⟩
    rintro n s5 ⟨i, σ5, ys, H5, I5, st5, fr5, w5⟩
    rcases turn i n σ5 ys H5 w5 with ⟨stop, qn⟩ | ⟨go, N, hN, step⟩
    · have z := T.done X' x1 x2 x3 x5 i [] s5 σ5 H5 (fun _ _ => False) I5 (stat fr5) st5 stop
      rw [x4] at z
      refine thn z fun r s6 ⟨hr, I6⟩ => ?_
      subst hr
      -- the end
      obtain ⟨mm, hn6, _⟩ := I6.loc
      have hL : X'.env.locals = s3.heap.objs.size := by rw [x6]; rfl
      rw [hL] at hn6
      have nC : H5 s3.heap.objs.size = none := by have := I6.free; rw [hL] at this; exact this
      have base := I6.base
      rw [x8, x9, x10, x11] at base
      have hok : HOk X.prog X.w H5 s6.heap := by have q := I6.hok; rw [x1, x2] at q; exact q
      have os : s6.os = s3.os := by have := I6.os; rw [x8] at this; exact this
      have IX : Inv X pins σ H5 s6 := I3.call' os base hok I6.bare fun b hb => ⟨(f3 b hb).2.2.2.1, (f3 b hb).2.1, (f3 b hb).2.2.2.2.1, (f3 b hb).2.2.2.2.2⟩
      refine fin D s3.heap.objs.size H5 s6 IX qn nC (Nat.ne_of_gt I3.lt) I3.sz (fun x c e => ?_) (fun p hp => ?_) ⟨mm, hn6⟩
      · obtain ⟨v, q⟩ := I3.cell x c e
        exact Nat.ne_of_lt q.lt
      · exact Nat.ne_of_lt (Heap.lt_size (I3.pin p hp).1)
    · have z := T.item X' x1 x2 x3 x5 i [] s5 σ5 H5 (fun _ _ => False) I5 (stat fr5) st5 go
      rw [x4] at z
      refine thn z fun r s6 ⟨u, hr, h6⟩ => ?_
      subst hr
      refine thn h6 fun _ s7 ⟨x, H7, I7, r7, y7, st7, fr7⟩ => ?_
      have I7' := I7.pinned (stat fr7) (T.obj _ _ st7)
      have again : ∀ {σ' : St} {H' : Hp} {s' : Shared}, Inv X' ([] ++ pinsAt fp s7.heap) σ' H' s' → Inv X' [] σ' H' s' ∧ tn (i + 1) s'.heap ∧ ∀ b ∈ fp, H' b = none := fun {σ' H' s'} J => by
        refine ⟨J.unpinned, T.keep _ _ _ st7 fun b hb o e => (J.pin (b, o) (List.mem_append_right _ (List.mem_append_right _ (mem_pinsAt hb e)))).1, fun b hb => ?_⟩
        obtain ⟨o, e, d⟩ := T.obj _ _ st7 b hb
        exact (J.pin (b, o) (List.mem_append_right _ (List.mem_append_right _ (mem_pinsAt hb e)))).2.1
      have z := hg' _ s7 σ5 H7 x u _ I7' r7 (step x H7 y7)
      rw [x1, x2, x4, x6, x7] at z
      refine thn z fun _ s8 ⟨σ8, H8, I8, q8⟩ => ?_
      have z := ht' _ s8 σ8 H8 _ I8 q8
      rw [x1, x2, x4, x6, x7] at z
      refine thn z fun b s9 ⟨H9, I9, q9⟩ => ?_
      cases b with
      | false =>
        rw [if_neg Bool.false_ne_true] at q9 ⊢
        obtain ⟨m', hm, w9⟩ := hN _ _ _ q9
        obtain ⟨a1, a2, a3⟩ := again I9
        exact ⟨m', hm, i + 1, σ8, ys, H9, a1, a2, a3, w9⟩
      | true =>
        rw [if_pos rfl] at q9 ⊢
        have z := he' _ s9 σ8 H9 _ I9 q9
        rw [x1, x2, x4, x6, x7] at z
        refine thn z fun v' s10 ⟨y, H10, I10, r10, hD10, hz, w10⟩ => ?_
        have z := mt_append (X := X') _ s10 σ8 H10 (.ref D) [y] (.ref D) [v'] (fun _ H' => N σ8 (ys ++ [y]) H') I10 rfl (.cons r10 .nil) ⟨D, ys, y, rfl, rfl, hD10, hz, w10⟩
        rw [x1, x2, x4, x7] at z
        refine thn z fun _ s11 ⟨_, H11, I11, _, w11⟩ => ?_
        obtain ⟨m', hm, w11⟩ := hN _ _ _ w11
        obtain ⟨a1, a2, a3⟩ := again I11
        exact ⟨m', hm, i + 1, σ8, _, H11, a1, a2, a3, w11⟩
  exact codeAny_compStart_list loop (T.self _ 0 _ _ _ st4 loop)
theorem pe_comp {X : Cx} {elt tg iter : Expr} {ifs : List Expr} {scope : Scope} {pos : Pos} {wi : TI} {g : TG} {tt : TT} {te : TE} {N' : List Str} {fr : List (Option Nat)} (S : CompSc X.env.scope scope X.N N' fr) (hc : X.calm = true) (hi : PI X tg iter wi)
    (hg : ∀ C s0 H0 fp, PG (cxComp X scope C N' s0 H0 fp) tg g) (ht : ∀ C s0 H0 fp, PTs (cxComp X scope C N' s0 H0 fp) ifs tt) (he : ∀ C s0 H0 fp, PE (cxComp X scope C N' s0 H0 fp) elt te)
    (hs : ∀ x, foldedSetIterable iter X.env x = pure x := by intro _; rfl) : PE X (.ListComp elt [⟨tg, iter, ifs, 0⟩] scope pos) (tComp fr wi g tt te) := by
  intro pins s σ H Q I h
  rw [eval_ListComp]
  refine comp_run S hc hi hg ht he hs I h none _ fun D C H5 s6 IX q nC c1 c2 c3 c4 hm => ?_
  obtain ⟨m, hm⟩ := hm
  refine ⟨m, hm, fun h' hs' => ⟨.ref D, H5, IX.turned (t' := s6.toks) (it := C) (fun b o hb e => hs'.extBut b o hb e) nC c1 (.inr c2) c3 c4, rfl, q⟩⟩
/-- name = [..], the name a local one -/
theorem ps_comp {X : Cx} {elt tg iter : Expr} {ifs : List Expr} {scope : Scope} {pos spos py : Pos} {y : Str} {i : Nat} {wi : TI} {g : TG} {tt : TT} {te : TE} {N' : List Str} {fr : List (Option Nat)} (hN : X.N.Nodup) (hy : X.N[i]? = some y) (hl : X.env.scope.names.lookup y = some .local)
    (S : CompSc X.env.scope scope X.N N' fr) (hc : X.calm = true) (hi : PI X tg iter wi)
    (hg : ∀ C s0 H0 fp, PG (cxComp X scope C N' s0 H0 fp) tg g) (ht : ∀ C s0 H0 fp, PTs (cxComp X scope C N' s0 H0 fp) ifs tt) (he : ∀ C s0 H0 fp, PE (cxComp X scope C N' s0 H0 fp) elt te)
    (hs : ∀ x, foldedSetIterable iter X.env x = pure x := by intro _; rfl) (hsw : swapsWith (.ListComp elt [⟨tg, iter, ifs, 0⟩] scope pos) (some (.Name y py)) spos.line X.env = pure true := by rfl) :
    PS X (.Assign [.Name y py] (.ListComp elt [⟨tg, iter, ifs, 0⟩] scope pos) spos) (tAsg (tComp fr wi g tt te) (gName i)) := by
  intro pins s σ H D I h
  rw [exec_Assign_Name_used _ _ _ _ hsw]
  refine wpAny_bind (wpAny_standAt (wpAny_bind ?_))
  show wpAny _ X.A (do let _ ← comprehension (.ListComp elt [⟨tg, iter, ifs, 0⟩] scope pos) scope X.env _ (newList []) false (eval iter X.env) (some (assign (.Name y py) X.env))) _ _ s
  refine wpAny_bind (thn (comp_run S hc hi hg ht he hs I h (some (assign (.Name y py) X.env)) (fun _ s' => SP X pins D .next s') fun L C H5 s6 IX q nC c1 c2 c3 c4 hm => ?_) fun _ s' hq => wpAny_pure (wpAny_pure hq))
  obtain ⟨m, hm⟩ := hm
  show wpAny _ X.A (assign (.Name y py) X.env (.ref L)) _ _ _
  refine wpAny_assign_Name (store_ok2 IX hN hy (.inl hl) (show RelV (.ref L) (Value.ref L) from rfl) (fun s7 I7 hch => ?_) (.inr hl))
  obtain ⟨a, hsb, ha⟩ := hch
  have hCa : C ≠ a := by
    rcases ha with ha | ha
    · rw [ha]; exact c1
    · exact (c3 _ _ ha).symm
  refine ⟨m, hm.at' (fun o e => (hsb.2 C hCa).trans e), fun h' hs' => ⟨_, H5, I7.turned (t' := s7.toks) (it := C) (fun b o hb e => hs'.extBut b o hb e) nC c1 (.inr c2) c3 c4, q⟩⟩

/-! ### the forms one uses -/
theorem comp_range {lo : Int} {n : Nat} {g : TG} {tt : TT} {te : TE} {R : Hp → Prop} {D : Addr} {σ0 : St} {H0 : Hp} (Pv : Nat → St → List V → Hp → Prop) (h0 : Pv 0 σ0 [] H0)
    (hs : ∀ i σ ys H, i < n → Pv i σ ys H → g (.int (lo + i)) σ H fun σ2 H2 => tt σ2 H2 fun b H3 =>
      if b = true then te σ2 H3 fun v H4 => H4 D = some (.lst ys) ∧ ys.length < sizeLine ∧ Pv (i + 1) σ2 (ys ++ [v]) (upd H4 D (.lst (ys ++ [v]))) else Pv (i + 1) σ2 ys H3)
    (hd : ∀ σ ys H, Pv n σ ys H → R H) :
    ∃ W : Nat → Nat → St → List V → Hp → Prop, (∃ m, W 0 m σ0 [] H0) ∧ ∀ i m σ ys H, W i m σ ys H →
      ((Itr lo n).stop i H ∧ R H) ∨ ((Itr lo n).go i H ∧ ∃ N : St → List V → Hp → Prop, (∀ σ' ys' H', N σ' ys' H' → ∃ m', m' < m ∧ W (i + 1) m' σ' ys' H') ∧ ∀ x H', (Itr lo n).yld i H x H' → g x σ H' fun σ2 H2 => tt σ2 H2 fun b H3 =>
        if b = true then te σ2 H3 fun v H4 => H4 D = some (.lst ys) ∧ ys.length < sizeLine ∧ N σ2 (ys ++ [v]) (upd H4 D (.lst (ys ++ [v]))) else N σ2 ys H3) := by
  refine ⟨fun i m σ ys H => m = n - i ∧ i ≤ n ∧ Pv i σ ys H, ⟨n, by simp, Nat.zero_le _, h0⟩, ?_⟩
  rintro i m σ ys H ⟨rfl, hi, p⟩
  by_cases hlt : i < n
  · refine .inr ⟨hlt, Pv (i + 1), fun σ' ys' H' p' => ⟨n - (i + 1), by omega, rfl, hlt, p'⟩, fun x H' y => ?_⟩
    obtain ⟨e, y⟩ := y
    subst e y
    exact hs i σ ys _ hlt p
  · have e : i = n := by omega
    subst e
    exact .inl ⟨Nat.le_refl _, hd σ ys H p⟩
theorem comp_list {K : PySem.W.Frag} {a : Addr} {xs : List V} {g : TG} {tt : TT} {te : TE} {R : Hp → Prop} {D : Addr} {σ0 : St} {H0 : Hp} (Pv : Nat → St → List V → Hp → Prop) (h0 : Pv 0 σ0 [] H0) (hl : ∀ i σ ys H, i ≤ xs.length → Pv i σ ys H → SqL K H a xs)
    (hs : ∀ i x σ ys H, xs[i]? = some x → Pv i σ ys H → g x σ H fun σ2 H2 => tt σ2 H2 fun b H3 =>
      if b = true then te σ2 H3 fun v H4 => H4 D = some (.lst ys) ∧ ys.length < sizeLine ∧ Pv (i + 1) σ2 (ys ++ [v]) (upd H4 D (.lst (ys ++ [v]))) else Pv (i + 1) σ2 ys H3)
    (hd : ∀ σ ys H, Pv xs.length σ ys H → R H) :
    ∃ W : Nat → Nat → St → List V → Hp → Prop, (∃ m, W 0 m σ0 [] H0) ∧ ∀ i m σ ys H, W i m σ ys H →
      ((Itl K a).stop i H ∧ R H) ∨ ((Itl K a).go i H ∧ ∃ N : St → List V → Hp → Prop, (∀ σ' ys' H', N σ' ys' H' → ∃ m', m' < m ∧ W (i + 1) m' σ' ys' H') ∧ ∀ x H', (Itl K a).yld i H x H' → g x σ H' fun σ2 H2 => tt σ2 H2 fun b H3 =>
        if b = true then te σ2 H3 fun v H4 => H4 D = some (.lst ys) ∧ ys.length < sizeLine ∧ N σ2 (ys ++ [v]) (upd H4 D (.lst (ys ++ [v]))) else N σ2 ys H3) := by
  refine ⟨fun i m σ ys H => m = xs.length - i ∧ i ≤ xs.length ∧ Pv i σ ys H, ⟨xs.length, by simp, Nat.zero_le _, h0⟩, ?_⟩
  rintro i m σ ys H ⟨rfl, hi, p⟩
  have q := hl i σ ys H hi p
  by_cases hlt : i < xs.length
  · refine .inr ⟨⟨xs, xs[i], q, by simp [hlt]⟩, Pv (i + 1), fun σ' ys' H' p' => ⟨xs.length - (i + 1), by omega, rfl, hlt, p'⟩, fun x H' y => ?_⟩
    obtain ⟨e, y⟩ := y
    subst e
    exact hs i x σ ys _ (y xs q) p
  · have e : i = xs.length := by omega
    subst e
    exact .inl ⟨⟨xs, q, Nat.le_refl _⟩, hd σ ys H p⟩
end L2


set_option Elab.async false
set_option linter.all false
set_option maxRecDepth 100000
set_option maxHeartbeats 4000000
namespace SF
open PySem

/-! ### a table of a set: its places rise -/


/-! ### the order by the text -/
end SF


set_option Elab.async false
set_option linter.all false
set_option maxRecDepth 100000
set_option maxHeartbeats 4000000
namespace SF
open PySem PySem.Calls PyProof.Rows


section
variable {prog : Program} {w : World} {A : Around} {E : Value → Shared → Prop} {s : Shared}



/-! ### the next place -/

/-! ### iter(set) -/
end
end SF


set_option Elab.async false
set_option linter.all false
set_option maxRecDepth 100000
set_option maxHeartbeats 4000000
namespace SF
open PySem PySem.Calls PyProof.Rows
section
variable {prog : Program} {w : World} {A : Around} {E : Value → Shared → Prop} {s : Shared}


end
end SF


set_option Elab.async false
set_option linter.all false
set_option maxRecDepth 100000
set_option maxHeartbeats 4000000
namespace SF
open PySem PySem.Calls PyProof.Rows

section
variable {prog : Program} {w : World} {A : Around} {E : Value → Shared → Prop} {s : Shared}

set_option maxHeartbeats 8000000 in
end
end SF


set_option Elab.async false
set_option linter.all false
set_option maxRecDepth 100000
set_option maxHeartbeats 4000000
namespace L2
open PySem PySem.Spec PyProof.Rows

/-! ### sets of ints: made of a list, sorted -/
section
variable {X : Cx}
/-! ### isinstance against a built-in type -/
theorem call_isinst : CallR X (.builtin "isinstance") (fun xs H Q => ∃ (x : V) (n : String) (t : Value) (b : Bool), xs = [x, .ty n] ∧ TyOf X.K H x t ∧ PySem.W.kitOne X.K t (.type n) = some b ∧ Q (.bl b) H) := by
  intro pins s σ H xs us Q I r h
  obtain ⟨x, n, t, b, rfl, ht, hk, q⟩ := h
  obtain ⟨u, v, rfl, ru, rv⟩ := vals2 r
  cases rv
  exact isinst_ok I ru ht hk fun tk => ⟨.bl b, H, I.tok tk, rfl, q⟩
/-! ### lists that differ -/
def cmpV (a b : V) : Prop := (∃ p, a = .ref p ∧ b = .ref p) ∨ (∃ i j, a = .int i ∧ b = .int j) ∨ ∃ i j, a = .str i ∧ b = .str j
theorem cmpV_at {A : Around} {s : Shared} {a b : V} {u v : Value} (h : cmpV a b) (ra : RelV a u) (rb : RelV b v) : SeqAt.EqAt A s u v (decide (a = b)) := by
  rcases h with ⟨p, rfl, rfl⟩ | ⟨i, j, rfl, rfl⟩ | ⟨i, j, rfl, rfl⟩
  · cases ra
    cases rb
    rw [decide_eq_true rfl]
    exact SeqAt.EqAt.same _
  · obtain ⟨t, rfl⟩ := ra
    obtain ⟨t', rfl⟩ := rb
    rw [dec_int]
    exact SeqAt.EqAt.int_int _ _ _ _
  · obtain ⟨t, rfl⟩ := ra
    obtain ⟨t', rfl⟩ := rb
    rw [dec_str]
    exact SeqAt.EqAt.str_str _ _ _ _
theorem all_eq {xs ys : List V} (h : xs.length = ys.length) : ((List.range xs.length).all fun i => decide (xs[i]? = ys[i]?)) = decide (xs = ys) := by
  rw [Bool.eq_iff_iff, List.all_eq_true, decide_eq_true_iff]
  constructor
  · intro q
    apply List.ext_getElem?
    intro i
    rcases Nat.lt_or_ge i xs.length with z | z
    · exact of_decide_eq_true (q i (List.mem_range.mpr z))
    · rw [List.getElem?_eq_none z, List.getElem?_eq_none (by omega)]
  · rintro rfl i _
    simp
end
end L2


set_option Elab.async false
set_option linter.all false
set_option maxRecDepth 100000
set_option maxHeartbeats 4000000
namespace L2
open PySem PySem.Spec PyProof.Rows
section
variable {X : Cx}
theorem call_range1 : CallR X (.type "range") (fun xs H Q => ∃ (n : Int), xs = [.int n] ∧ ∀ p, H p = none → Q (.ref p) (upd H p (.rng 0 n))) := by
  intro pins s σ H xs us Q I r h
  obtain ⟨n, rfl, q⟩ := h
  obtain ⟨u, rfl, ru⟩ := vals1 r
  obtain ⟨t, rfl⟩ := ru
  refine call_range_1 ⟨.ref s.heap.objs.size, upd H s.heap.objs.size (.rng 0 n), I.laid (fun b o e => Heap.get?_push_of_some _ e) (Nat.le_refl _) ⟨_, _, _, Heap.get?_push_size _ rfl⟩, rfl, q _ I.fresh⟩
end
end L2


set_option Elab.async false
set_option linter.all false
set_option maxRecDepth 100000
set_option maxHeartbeats 4000000
namespace L2
open PySem PySem.W PySem.Spec PySem.Calls PyProof.Rows
/-! ### a dict keyed by None and ints, its values all True -/
section
variable {X : Cx} {pos pos' : Pos} {o i value : Expr} {td ty tv : TE}
/-! ### lists that are alike -/
def rEqL (K : PySem.W.Frag) : R2 := fun x y H Q => ∃ (p q : Addr) (xs ys : List V), x = .ref p ∧ y = .ref q ∧ SqL K H p xs ∧ SqL K H q ys ∧ (∀ (i : Nat) a b, xs[i]? = some a → ys[i]? = some b → cmpV a b ∨ (a = .non ∧ b = .non)) ∧ Q (.bl (decide (xs = ys))) H
theorem op_eqL (hu : X.A.units < cLine) : OpR X (compareOp .Eq) (rEqL X.K) := by
  intro pins s σ H x y v u Q I rx ry h
  obtain ⟨p, q, xs, ys, rfl, rfl, hp, hq, hc, k⟩ := h
  cases rx
  cases ry
  obtain ⟨its, hv, pl, _⟩ := I.list hp
  obtain ⟨its2, hv2, pl2, _⟩ := I.list hq
  have e1 := hv.length
  have e2 := hv2.length
  by_cases hl : xs.length = ys.length
  · have key : SeqAt.RcAt X.A s (.ref p) (.ref q) ((List.range its.toArray.size).all fun i => decide (xs[i]? = ys[i]?)) := by
      refine SeqAt.RcAt.lists pl.isList pl2.isList (by simp; omega) hu fun j h1 h2 => ?_
      have j1 : j < xs.length := by simp at h1; omega
      have j2 : j < ys.length := by simp at h2; omega
      have z1 : xs[j]? = some xs[j] := List.getElem?_eq_getElem j1
      have z2 : ys[j]? = some ys[j] := List.getElem?_eq_getElem j2
      obtain ⟨u1, w1, r1⟩ := hv.get z1
      obtain ⟨u2, w2, r2⟩ := hv2.get z2
      have i1 : its.toArray[j] = u1 := by
        have : its[j]? = some its[j] := List.getElem?_eq_getElem (by omega)
        rw [this] at w1
        simpa using w1
      have i2 : its2.toArray[j] = u2 := by
        have : its2[j]? = some its2[j] := List.getElem?_eq_getElem (by omega)
        rw [this] at w2
        simpa using w2
      rw [i1, i2, z1, z2]
      have e : decide (some xs[j] = some ys[j]) = decide (xs[j] = ys[j]) := by simp
      rw [e]
      rcases hc j _ _ z1 z2 with hc | ⟨ha, hb⟩
      · exact cmpV_at hc r1 r2
      · rw [ha] at r1 ⊢
        rw [hb] at r2 ⊢
        have q1 : u1 = Value.none := r1
        have q2 : u2 = Value.none := r2
        subst q1 q2
        rw [decide_eq_true rfl]
        exact SeqAt.EqAt.same _
    rw [List.size_toArray, ← e1, all_eq hl] at key
    exact key _ _ _ _ ⟨.bl (decide (xs = ys)), H, I, rfl, k⟩
  · have key : SeqAt.RcAt X.A s (.ref p) (.ref q) false := SeqAt.RcAt.lists_lengths pl.isList pl2.isList (by simp; omega) hu
    rw [decide_eq_false (fun z => hl (by rw [z]))] at k
    exact key _ _ _ _ ⟨.bl false, H, I, rfl, k⟩
end
end L2


set_option Elab.async false
set_option linter.all false
set_option maxRecDepth 100000
set_option maxHeartbeats 4000000
namespace L2
open PySem PySem.Spec PyProof.Rows
section
variable {X : Cx} {pins : List (Addr × Obj)} {σ : St} {H : Hp} {s : Shared} {h' : Heap}
/-- records of ours have turned, and a new object came -/
theorem Inv.turnedNew {t' : Nat} {its : List Addr} {a : Addr} {o : HO} (I : Inv X pins σ H s) (k : ∀ b u, b ∉ its → s.heap.get? b = some u → h'.get? b = some u) (hf : ∀ b ∈ its, FpOk X pins H b)
    (hp : s.heap.objs.size ≤ a) (new : ObjOk X.prog X.w (upd H a o) h' a o) : Inv X pins σ (upd H a o) { s with heap := h', toks := t' } := by
  have hn : H a = none := I.hok.fresh hp
  have nit : ∀ b u, H b = some u → b ∉ its := fun b u e z => by rw [(hf b z).1] at e; cases e
  have nea : ∀ b u, s.heap.get? b = some u → b ≠ a := fun b u e => Nat.ne_of_lt (Nat.lt_of_lt_of_le (Heap.lt_size e) hp)
  refine I.step (g' := s.gens) (d' := s.drawn) (ch := its) (fun b hb => ?_) (fun b o _ _ hc e _ => k b o hc e) (fun b o _ _ hc e _ => ⟨o.slots, k b o hc e⟩) (fun b u _ e n => ?_)
    (fun b o hc e => ⟨o, k b o hc e⟩) (fun b xs e => ?_) (fun b u v e => ?_) (fun b ps e => ⟨#[], ?_⟩) (fun m hm => ?_) (fun b u e => ?_) I.bare
  · obtain ⟨_, f1, f2, f3, f4, f5⟩ := hf b hb
    exact ⟨f3, f1, f4, f5⟩
  · rw [upd_ne (nea b u e)]; exact n
  · rw [upd_ne (ne_of_none e hn)]; exact e
  · rw [upd_ne (ne_of_none e hn)]; exact e
  · rw [upd_ne (ne_of_none e hn), e]; simp
  · obtain ⟨o, es, ep, ho, r⟩ := hm
    exact ⟨o, es, ep, k _ o (fun z => (hf _ z).2.1 rfl) ho, r⟩
  · by_cases hb : b = a
    · subst hb
      rw [upd_same] at e
      cases e
      exact new
    · rw [upd_ne hb] at e
      refine (I.hok b u e).stay (fun c v hc q => k c v ?_ q) (fun c q => by rw [upd_ne (ne_of_none q hn)]; exact q) fun c xs q => by rw [upd_ne (ne_of_none q hn)]; exact q
      rcases hc with z | z
      · rw [z]; exact nit b u e
      · exact nit c _ z
end
section
variable {X : Cx}
end
end L2


set_option Elab.async false
set_option linter.all false
set_option maxRecDepth 100000
set_option maxHeartbeats 4000000
namespace L2
open PySem PySem.W PySem.Spec PySem.Calls PyProof.Rows
/-! ### a dict that is walked: frozen while it is so -/
def NF (X : Cx) (a : Addr) : Prop := ∀ o u, X.H₀ a ≠ some (.frz o u)
section
variable {X : Cx} {pins : List (Addr × Obj)} {σ : St} {H : Hp} {s : Shared} {a : Addr} {kvs : List (Key × V)}
theorem Inv.freeze (I : Inv X pins σ H s) (e : H a = some (.dK kvs)) : NF X a ∧ ∃ o, s.heap.get? a = some o ∧ Inv X pins σ (upd H a (.frz o (.dK kvs))) s := by
  have x := I.hok a _ e
  obtain ⟨z, y, vs, r, ob, es, ep, g, c⟩ := id x
  refine ⟨fun o u h => ?_, ob, g, ?_⟩
  · have := I.base.frzs a o u h
    rw [e] at this
    cases this
  · exact I.write (x := a) (e := a) (h' := s.heap) (t' := s.toks) (by rw [e]; exact True.intro) (.inl rfl) (fun b u _ q => q) ⟨ob, g⟩ ⟨g, z, y, vs, r, ob, es, ep, g, c⟩
theorem Inv.thaw {o : Obj} (I : Inv X pins σ H s) (e : H a = some (.frz o (.dK kvs))) (n : NF X a) : Inv X pins σ (upd H a (.dK kvs)) s := by
  have x : ObjOk X.prog X.w H s.heap a (.frz o (.dK kvs)) := I.hok a _ e
  have ne : ∀ b u, H b = some u → (∀ o' u', u ≠ .frz o' u') → b ≠ a := fun b u h hn => ne_of h e (hn _ _)
  refine ⟨I.ok, I.os, I.bare, ⟨I.base.keep, I.base.slot, fun b ob q nb hx => ?_, I.base.there, fun b xs q => ?_, fun b ob u q => ?_, fun b ps q => ?_⟩, I.loc, I.cell, ?_, fun y c hc => ?_, fun p hp => ?_, fun b u q => ?_, I.len⟩
  · have h := I.base.free b ob q nb hx
    rw [upd_ne (fun z => by rw [z, e] at h; cases h)]
    exact h
  · have h := I.base.tups b xs q
    rw [upd_ne (ne b _ h (by intro _ _ z; cases z))]
    exact h
  · have h := I.base.frzs b ob u q
    have hb : b ≠ a := fun z => n ob u (by rw [← z]; exact q)
    rw [upd_ne hb]
    exact h
  · obtain ⟨more, h⟩ := I.base.tbls b ps q
    refine ⟨more, ?_⟩
    rw [upd_ne (ne b _ h (by intro _ _ z; cases z))]
    exact h
  · rw [upd_ne (fun z => by have := I.free; rw [z, e] at this; cases this)]
    exact I.free
  · rw [upd_ne (fun z => by have := I.freeC y c hc; rw [z, e] at this; cases this)]
    exact I.freeC y c hc
  · obtain ⟨p1, p2, p3⟩ := I.pin p hp
    refine ⟨p1, ?_, p3⟩
    rw [upd_ne (fun z => by rw [z, e] at p2; cases p2)]
    exact p2
  · by_cases hb : b = a
    · subst hb
      rw [upd_same] at q
      cases q
      exact x.2.stay (fun c v _ q => q) (fun c q => by rw [upd_ne (ne c _ q (by intro _ _ z; cases z))]; exact q) fun c xs q => by rw [upd_ne (ne c _ q (by intro _ _ z; cases z))]; exact q
    · rw [upd_ne hb] at q
      exact (I.hok b u q).stay (fun c v _ q => q) (fun c q => by rw [upd_ne (ne c _ q (by intro _ _ z; cases z))]; exact q) fun c xs q => by rw [upd_ne (ne c _ q (by intro _ _ z; cases z))]; exact q
end
/-- behind it the dict is as it was -/
def tThaw (X : Cx) (t : TE) : TE := fun σ H Q => t σ H fun v H' => ∃ a o kvs, H' a = some (.frz o (.dK kvs)) ∧ NF X a ∧ Q v (upd H' a (.dK kvs))
theorem pe_thaw {X : Cx} {e : Expr} {t : TE} (h : PE X e t) : PE X e (tThaw X t) := fun pins s σ H Q I hw =>
  wpAny_mono (h pins s σ H _ I hw) (fun u s' ⟨v, H', I', r, a, o, kvs, ea, n, q⟩ => ⟨v, _, I'.thaw ea n, r, q⟩) fun _ _ z => z
def sThaw (X : Cx) (t : TS) : TS := fun D σ H => t { D with nx := fun σ' H' => ∃ a o kvs, H' a = some (.frz o (.dK kvs)) ∧ NF X a ∧ D.nx σ' (upd H' a (.dK kvs)) } σ H
theorem ps_thaw {X : Cx} {st : Stmt} {t : TS} (h : PS X st t) : PS X st (sThaw X t) := fun pins s σ H D I hw =>
  wpAny_mono (h pins s σ H _ I hw) (fun f s' q => by
    cases f with
    | next =>
      obtain ⟨σ', H', I', a, o, kvs, ea, n, q⟩ := q
      exact ⟨σ', _, I'.thaw ea n, q⟩
    | brk => exact q
    | cont => exact q
    | ret u => exact q) fun _ _ z => z
theorem paired_get {α β : Type} {R : α → β → Prop} {xs : List α} {ys : List β} (r : Paired R xs ys) : ∀ {i : Nat} {x : α}, xs[i]? = some x → ∃ y, ys[i]? = some y ∧ R x y := by
  induction r with
  | nil => intro i x h; simp at h
  | cons h t ih =>
    intro i x e
    cases i with
    | zero =>
      have e' := Option.some.inj e
      subst e'
      exact ⟨_, rfl, h⟩
    | succ i => exact ih (by simpa using e)
theorem kV_rel {P : Program} {w : World} {k : Key} {u : Value} (h : (mixKind P w).is k u = true) : RelV (kV k) u := by
  rcases keyIs_shape h with ⟨i, t, rfl, rfl⟩ | ⟨x, t, rfl, rfl⟩
  · exact ⟨t, rfl⟩
  · exact ⟨t, rfl⟩
theorem frz_at {X : Cx} {pins : List (Addr × Obj)} {σ : St} {H : Hp} {s : Shared} {a : Addr} {o : Obj} {kvs : List (Key × V)} (I : Inv X pins σ H s) (e : H a = some (.frz o (.dK kvs))) :
    (a == sysModules) = false ∧ kvs.length ≤ sizeLine ∧ ∃ vs es ep, o.data = .dict es ep ∧ KV kvs vs ∧ s.heap.DictAt (mixKind X.prog X.w) a vs ep := by
  obtain ⟨g, z, y, vs, r, ob, es, ep, g', c1, c2, c3⟩ := (show ObjOk X.prog X.w H s.heap a (.frz o (.dK kvs)) from I.hok a _ e)
  rw [g] at g'
  cases g'
  exact ⟨y, z, vs, es, ep, c2, r, o, es, g, c1, c2, c3⟩
/-- the pairs, each a new tuple -/
def Itd (a : Addr) (o : Obj) (kvs : List (Key × V)) : It :=
  ⟨fun i H => H a = some (.frz o (.dK kvs)) ∧ i < kvs.length,
   fun i H x H' => ∃ t k y, H t = none ∧ x = .ref t ∧ kvs[i]? = some (k, y) ∧ H' = upd H t (.tup [kV k, y]),
   fun i H => H a = some (.frz o (.dK kvs)) ∧ kvs.length ≤ i⟩
theorem turn_items {P : Program} {w : World} {K : PySem.W.Frag} {elts : List Expr} {x1} {pos : Pos} (a it : Addr) (o : Obj) (kvs : List (Key × V)) {es : Array DictEntry} {ep : Nat} (ho : o.data = .dict es ep) :
    Turn P w K (.Tuple elts x1 pos) (Itd a o kvs) [it] it (fun i h => ∃ ok ov, IsItemIter h it a i kvs.length ep ok ov) where
  mem := by simp
  obj := fun i h st b hb => by
    obtain ⟨ok, ov, he⟩ := st
    rw [List.mem_singleton.mp hb]
    exact ⟨_, he, fun v z => by
      have z' : Data.fields _ = Data.cell v := z
      cases z'⟩
  keep := fun i h h' st k => st.elim fun ok st => st.elim fun ov he => ⟨ok, ov, k it (by simp) _ he⟩
  item := by
    intro X hP hw hK hc i pins s σ H E I hf st hg
    subst hP hw hK
    obtain ⟨ha, hi⟩ := hg
    obtain ⟨y, z, vs, es', ep', ho', r, dA⟩ := frz_at I ha
    rw [ho] at ho'
    cases ho'
    have hl := r.length
    have hk1 : kvs[i]? = some kvs[i] := List.getElem?_eq_getElem hi
    obtain ⟨kv, hkv, rk, ru⟩ := paired_get r hk1
    obtain ⟨ok, ov, he⟩ := st
    rw [hl] at he
    refine wpAny_pyNext_items_item he dA (k := kv.1) (v := kv.2) hkv fun key h1 hkey he1 ht1 hz1 k1 => ?_
    refine ⟨_, rfl, wpAny_letOwnedTupleGo_items he1 fun h2 he2 hs2 => ?_⟩
    have hne2 : s.heap.objs.size ≠ it := Nat.ne_of_gt (Heap.lt_size he)
    have ht2 := (hs2.2 s.heap.objs.size hne2).trans ht1
    have hk : ∀ b o, b ∉ [it] → s.heap.get? b = some o → h2.get? b = some o := fun b o hb e' => by
      have hb' : b ≠ it := by simpa using hb
      exact (hs2.2 b hb').trans (k1 b o hb' e')
    have hfr : H s.heap.objs.size = none := I.hok.fresh (Nat.le_refl _)
    refine ⟨.ref s.heap.objs.size, upd H s.heap.objs.size (.tup [kV kvs[i].1, kvs[i].2]), I.turnedNew (t' := s.toks) hk hf (Nat.le_refl _) ?_, rfl, ⟨_, kvs[i].1, kvs[i].2, hfr, rfl, hk1, rfl⟩, ⟨_, _, by rw [hl]; exact he2⟩, fun b hb => ?_⟩
    · exact ⟨by show 2 ≤ sizeLine; decide, [key, kv.2], .cons (by rw [rk]; exact kV_rel hkey) (.cons ru .nil), ⟨_, ht2, rfl, _, rfl⟩⟩
    · have : b ≠ s.heap.objs.size := by
        rw [List.mem_singleton.mp hb]
        exact Ne.symm hne2
      rw [upd_ne this]
      exact (hf b hb).1
  done := by
    intro X hP hw hK hc i pins s σ H E I hf st hg
    subst hP hw hK
    obtain ⟨ha, hi⟩ := hg
    obtain ⟨y, z, vs, es', ep', ho', r, dA⟩ := frz_at I ha
    rw [ho] at ho'
    cases ho'
    have hl := r.length
    obtain ⟨ok, ov, he⟩ := st
    rw [hl] at he
    obtain ⟨f0, f1, f2, f3, f4, f5⟩ := hf it (by simp)
    exact wpAny_pyNext_items_end (I.ok.hd hc) he dA (List.getElem?_eq_none (by omega)) fun h' eb => ⟨rfl, I.turned (t' := s.toks) (fun b o hb e => eb b o hb e) f0 f1 f3 f4 f5⟩
  self := fun _ _ _ _ _ st h => st.elim fun ok st => st.elim fun ov he => kcp_self he h
section
variable {X : Cx}
def iItems (X : Cx) (td : TE) : TI := fun σ H R => td σ H fun x H1 => ∃ a kvs, x = .ref a ∧ H1 a = some (.dK kvs) ∧ ∀ o, NF X a → R (Itd a o kvs) (upd H1 a (.frz o (.dK kvs)))
theorem pi_items {elts : List Expr} {x1} {tpos : Pos} {e : Expr} {apos pos : Pos} {td : TE} (hd : PE X e td) (hbase : attributeBase e "items" X.env (eval e X.env) = eval e X.env := by rfl) (hline : (apos.endLine == pos.line) = true := by rfl) :
    PI X (.Tuple elts x1 tpos) (.Call (.Attribute e "items" apos) [] [] pos) (iItems X td) := by
  intro pins s σ H R I h
  refine wpAny_Call_method (T := "dict") (id := "dict.items") hbase rfl hline PySem.F.plainAttrs_dict PySem.F.slot_dict_items PySem.F.type_dict_items (thn (hd pins s σ H _ I h) fun u s1 ⟨x, H1, I1, rx, a, kvs, ex, ea, q⟩ => ?_)
  subst ex
  obtain rfl : u = Value.ref a := rx
  obtain ⟨z, y, vs, r, dd⟩ := dk_of I1.hok ea
  refine ⟨dd.typeIs, dd.mapOf.noDict, ?_⟩
  show wpAny _ _ (callWith pos (.builtin "dict.items") [.ref a] [] []) _ _ s1
  refine method_meetsIn PySem.F.slot_dict_items PySem.F.entry_dict_items rfl (PySem.evalArgs_none ⟨rfl, dd.typeIs, PySem.F.args_dict_items_1 _, _, meets_dict_items (mixKind X.prog X.w) a y, ⟨vs, dd⟩, ?_⟩)
  obtain ⟨nf, o, ho, I2⟩ := I1.freeze ea
  have I3 := I2.kept (t' := s1.toks) (h' := s1.heap.push { cls := .type "dict_items", data := .fields #[.ref a] }) (fun b o e => Heap.get?_push_of_some _ e)
  obtain ⟨y3, z3, vs3, es, ep, hod, r3, dA⟩ := frz_at I3 (upd_same (H := H1) (a := a))
  have hl := r3.length
  refine wpAny_pyIter_items (v := s1.heap.objs.size) (d := a) ⟨_, Heap.get?_push_size _ rfl, rfl, rfl⟩ dA ?_
  have hz : (s1.heap.push { cls := .type "dict_items", data := .fields #[.ref a] }).objs.size = s1.heap.objs.size + 1 := size_push' _ _
  refine ⟨_, [(s1.heap.push { cls := .type "dict_items", data := .fields #[.ref a] }).objs.size], _, _, _, rfl, I3.kept (t' := s1.toks) (fun b o e => Heap.get?_push_of_some _ e), turn_items a _ o kvs hod, ?_, fun b hb => ?_, q o nf⟩
  · exact ⟨_, _, by rw [hl]; exact Heap.get?_push_size _ rfl⟩
  · rw [List.mem_singleton.mp hb]
    exact I3.fpOk (Nat.le_refl _) (I3.hok.fresh (Nat.le_refl _))
/-! ### loops and comprehensions over them -/
theorem for_items {a : Addr} {o : Obj} {kvs : List (Key × V)} {g : TG} {tb : TS} {D : Ends} {σ : St} {H : Hp} (Pv : Nat → St → Hp → Prop) (h0 : Pv 0 σ H) (hl : ∀ i σ H, i ≤ kvs.length → Pv i σ H → H a = some (.frz o (.dK kvs)))
    (hs : ∀ i k y σ H t, kvs[i]? = some (k, y) → H t = none → Pv i σ H → g (.ref t) σ (upd H t (.tup [kV k, y])) fun σ2 H2 => tb { D with nx := Pv (i + 1), ct := Pv (i + 1), bk := D.nx } σ2 H2) (hd : ∀ σ H, Pv kvs.length σ H → D.nx σ H) :
    ∃ W : Nat → Nat → St → Hp → Prop, (∃ m, W 0 m σ H) ∧ ∀ i m σ H, W i m σ H →
      ((Itd a o kvs).stop i H ∧ D.nx σ H) ∨ ((Itd a o kvs).go i H ∧ ∃ N : St → Hp → Prop, (∀ σ' H', N σ' H' → ∃ m', m' < m ∧ W (i + 1) m' σ' H') ∧ ∀ x H', (Itd a o kvs).yld i H x H' → g x σ H' fun σ2 H2 => tb { D with nx := N, ct := N, bk := D.nx } σ2 H2) := by
  refine ⟨fun i m σ H => m = kvs.length - i ∧ i ≤ kvs.length ∧ Pv i σ H, ⟨kvs.length, by simp, Nat.zero_le _, h0⟩, ?_⟩
  rintro i m σ H ⟨rfl, hi, p⟩
  have q := hl i σ H hi p
  by_cases hlt : i < kvs.length
  · refine .inr ⟨⟨q, hlt⟩, Pv (i + 1), fun σ' H' p' => ⟨kvs.length - (i + 1), by omega, rfl, hlt, p'⟩, fun x H' y => ?_⟩
    obtain ⟨t, k, v, ht, rfl, e, rfl⟩ := y
    exact hs i k v σ H t e ht p
  · have e : i = kvs.length := by omega
    subst e
    exact .inl ⟨⟨q, Nat.le_refl _⟩, hd σ H p⟩
theorem comp_items {a : Addr} {o : Obj} {kvs : List (Key × V)} {g : TG} {tt : TT} {te : TE} {R : Hp → Prop} {D : Addr} {σ0 : St} {H0 : Hp} (Pv : Nat → St → List V → Hp → Prop) (h0 : Pv 0 σ0 [] H0) (hl : ∀ i σ ys H, i ≤ kvs.length → Pv i σ ys H → H a = some (.frz o (.dK kvs)))
    (hs : ∀ i k y σ ys H t, kvs[i]? = some (k, y) → H t = none → Pv i σ ys H → g (.ref t) σ (upd H t (.tup [kV k, y])) fun σ2 H2 => tt σ2 H2 fun b H3 =>
      if b = true then te σ2 H3 fun v H4 => H4 D = some (.lst ys) ∧ ys.length < sizeLine ∧ Pv (i + 1) σ2 (ys ++ [v]) (upd H4 D (.lst (ys ++ [v]))) else Pv (i + 1) σ2 ys H3)
    (hd : ∀ σ ys H, Pv kvs.length σ ys H → R H) :
    ∃ W : Nat → Nat → St → List V → Hp → Prop, (∃ m, W 0 m σ0 [] H0) ∧ ∀ i m σ ys H, W i m σ ys H →
      ((Itd a o kvs).stop i H ∧ R H) ∨ ((Itd a o kvs).go i H ∧ ∃ N : St → List V → Hp → Prop, (∀ σ' ys' H', N σ' ys' H' → ∃ m', m' < m ∧ W (i + 1) m' σ' ys' H') ∧ ∀ x H', (Itd a o kvs).yld i H x H' → g x σ H' fun σ2 H2 => tt σ2 H2 fun b H3 =>
        if b = true then te σ2 H3 fun v H4 => H4 D = some (.lst ys) ∧ ys.length < sizeLine ∧ N σ2 (ys ++ [v]) (upd H4 D (.lst (ys ++ [v]))) else N σ2 ys H3) := by
  refine ⟨fun i m σ ys H => m = kvs.length - i ∧ i ≤ kvs.length ∧ Pv i σ ys H, ⟨kvs.length, by simp, Nat.zero_le _, h0⟩, ?_⟩
  rintro i m σ ys H ⟨rfl, hi, p⟩
  have q := hl i σ ys H hi p
  by_cases hlt : i < kvs.length
  · refine .inr ⟨⟨q, hlt⟩, Pv (i + 1), fun σ' ys' H' p' => ⟨kvs.length - (i + 1), by omega, rfl, hlt, p'⟩, fun x H' y => ?_⟩
    obtain ⟨t, k, v, ht, rfl, e, rfl⟩ := y
    exact hs i k v σ ys H t e ht p
  · have e : i = kvs.length := by omega
    subst e
    exact .inl ⟨⟨q, Nat.le_refl _⟩, hd σ ys H p⟩
end
end L2


set_option Elab.async false
set_option linter.all false
set_option maxRecDepth 100000
set_option maxHeartbeats 4000000
namespace L2
open PySem PySem.W PySem.Spec PySem.Calls PyProof.Rows
/-! ### == of a list of ints, None, lists, tuples and dicts: what is alike -/
/-- the same scalar -/
def Scal (x : V) : Prop := x = .non ∨ (∃ i, x = .int i) ∨ ∃ t, x = .str t
theorem scal_at {A : Around} {s : Shared} {x : V} {u v : Value} (h : Scal x) (ru : RelV x u) (rv : RelV x v) : SeqAt.EqAt A s u v true := by
  rcases h with rfl | ⟨i, rfl⟩ | ⟨t, rfl⟩
  · have e1 : u = Value.none := ru
    have e2 : v = Value.none := rv
    subst e1 e2
    exact SeqAt.EqAt.same _
  · obtain ⟨t1, rfl⟩ := ru
    obtain ⟨t2, rfl⟩ := rv
    have := SeqAt.EqAt.int_int (A := A) (s := s) i t1 i t2
    rwa [beq_self_eq_true] at this
  · obtain ⟨t1, rfl⟩ := ru
    obtain ⟨t2, rfl⟩ := rv
    have := SeqAt.EqAt.str_str (A := A) (s := s) t t1 t t2
    rwa [beq_self_eq_true] at this
/-- a dict from ints to ints -/
abbrev iD (kvs : List (Int × Int)) : List (Key × V) := kvs.map fun p => (Sum.inl p.1, V.int p.2)
def EqT (H : Hp) (x y : V) : Prop := ∃ p q xs, x = .ref p ∧ y = .ref q ∧ H p = some (.tup xs) ∧ H q = some (.tup xs) ∧ ∀ z ∈ xs, Scal z
def EqV (H : Hp) (x y : V) : Prop := (x = y ∧ Scal x) ∨ EqT H x y ∨ (∃ p q xs, x = .ref p ∧ y = .ref q ∧ H p = some (.lst xs) ∧ H q = some (.lst xs) ∧ ∀ z ∈ xs, Scal z) ∨
  (∃ p q xs ys, x = .ref p ∧ y = .ref q ∧ H p = some (.lst xs) ∧ H q = some (.lst ys) ∧ xs.length = ys.length ∧ ∀ (i : Nat) a b, xs[i]? = some a → ys[i]? = some b → EqT H a b) ∨
  ∃ p q ka kb, x = .ref p ∧ y = .ref q ∧ H p = some (.dK (iD ka)) ∧ H q = some (.dK (iD kb)) ∧ ka.length = kb.length ∧ ∀ c ∈ ka, c ∈ kb
theorem all_true (n : Nat) : ((List.range n).all fun _ => true) = true := by simp
def unKey (kv : Key × Value) : Int × Value := match kv.1 with
  | .inl i => (i, kv.2)
  | .inr _ => (0, kv.2)
theorem pairs_un {P : Program} {w : World} (P' : Program) (w' : World) {es : List DictEntry} {vs : List (Key × Value)} (p : Pairs (mixKind P w) es vs) : (∀ kv ∈ vs, ∃ i, kv.1 = Sum.inl i) → Pairs (intKind P' w') es (vs.map unKey) := by
  induction p with
  | nil => intro _; exact .nil
  | @cons e kv es vs h1 h2 t ih =>
    intro ha
    obtain ⟨i, hi⟩ := ha kv (by simp)
    rw [hi] at h1
    have e1 : unKey kv = (i, kv.2) := by unfold unKey; rw [hi]
    rw [List.map_cons, e1]
    exact .cons h1 h2 (ih fun kv hk => ha kv (by simp [hk]))
theorem pairs_mem {P : Program} {w : World} {es : List DictEntry} {vs : List (Key × Value)} (p : Pairs (mixKind P w) es vs) : ∀ e ∈ es, ∃ kv ∈ vs, (mixKind P w).is kv.1 e.key = true := by
  induction p with
  | nil => intro e h; simp at h
  | @cons e kv es vs h1 h2 t ih =>
    intro e' he
    rcases List.mem_cons.mp he with rfl | he
    · exact ⟨kv, by simp, h1⟩
    · obtain ⟨kv', a, b⟩ := ih e' he
      exact ⟨kv', by simp [a], b⟩
theorem int_dict {P : Program} {w : World} {h : Heap} {a : Addr} {vs : List (Key × Value)} {kvs : List (Int × Int)} (r : KV (iD kvs) vs) (d : h.DictOf (mixKind P w) a vs) (P' : Program) (w' : World) :
    ∃ us : List (Int × Value), h.DictOf (intKind P' w') a us ∧ us.map (·.1) = kvs.map (·.1) ∧ ∀ (i : Nat) p, kvs[i]? = some p → ∃ t, us[i]? = some (p.1, Value.int p.2 t) := by
  obtain ⟨o, es, ep, g, ex, dt, hk, hp, hn⟩ := d
  have hl : vs.length = kvs.length := by rw [← r.length, List.length_map]
  have hv : ∀ (i : Nat) p, kvs[i]? = some p → ∃ t, vs[i]? = some (Sum.inl p.1, Value.int p.2 t) := fun i p hi => by
    obtain ⟨y, hy, h1, h2⟩ := paired_get r (i := i) (x := (Sum.inl p.1, V.int p.2)) (by rw [List.getElem?_map, hi]; rfl)
    obtain ⟨t, e⟩ := (show ∃ t, y.2 = Value.int p.2 t from h2)
    exact ⟨t, by rw [hy, ← e]; congr 1; exact Prod.ext h1.symm rfl⟩
  have hu : ∀ (i : Nat) p, kvs[i]? = some p → ∃ t, (vs.map unKey)[i]? = some (p.1, Value.int p.2 t) := fun i p hi => by
    obtain ⟨t, e⟩ := hv i p hi
    exact ⟨t, by rw [List.getElem?_map, e]; rfl⟩
  have hkeys : (vs.map unKey).map (·.1) = kvs.map (·.1) := by
    apply List.ext_getElem?
    intro i
    rcases Nat.lt_or_ge i kvs.length with hi | hi
    · obtain ⟨t, e⟩ := hu i kvs[i] (List.getElem?_eq_getElem hi)
      rw [List.getElem?_map, e, List.getElem?_map, List.getElem?_eq_getElem hi]
      rfl
    · rw [List.getElem?_eq_none (by rw [List.length_map, List.length_map]; omega), List.getElem?_eq_none (by rw [List.length_map]; omega)]
  have hall : ∀ kv ∈ vs, ∃ i, kv.1 = Sum.inl i := fun kv hm => by
    obtain ⟨i, hi, e⟩ := List.getElem_of_mem hm
    obtain ⟨t, e2⟩ := hv i kvs[i] (List.getElem?_eq_getElem (by omega))
    rw [List.getElem?_eq_getElem hi, e] at e2
    exact ⟨_, congrArg Prod.fst (Option.some.inj e2)⟩
  refine ⟨vs.map unKey, ⟨o, es, ep, g, ex, dt, ?_, ?_, ?_⟩, hkeys, hu⟩
  · intro e he
    obtain ⟨k, k1, k2⟩ := hk e he
    obtain ⟨kv, hm, h1⟩ := pairs_mem hp e (Array.mem_toList_iff.mpr he)
    obtain ⟨i, hi⟩ := hall kv hm
    have ek : k = kv.1 := (mixKind P w).inj _ _ _ k1 h1
    rw [ek, hi] at k1 k2
    exact ⟨i, k1, k2⟩
  · exact pairs_un P' w' hp hall
  · rw [hkeys]
    have e : vs.map (·.1) = (kvs.map (·.1)).map (Sum.inl : Int → Key) := by
      apply List.ext_getElem?
      intro i
      rcases Nat.lt_or_ge i kvs.length with hi | hi
      · obtain ⟨t, e⟩ := hv i kvs[i] (List.getElem?_eq_getElem hi)
        rw [List.getElem?_map, e, List.getElem?_map, List.getElem?_map, List.getElem?_eq_getElem hi]
        rfl
      · rw [List.getElem?_eq_none (by rw [List.length_map]; omega), List.getElem?_eq_none (by rw [List.length_map, List.length_map]; omega)]
    rw [e] at hn
    exact List.Pairwise.of_map (Sum.inl : Int → Key) (fun a b h => fun z => h (by rw [z])) hn
theorem hits_of {A : Around} {s : Shared} {kb : List (Int × Int)} {ub : List (Int × Value)} (hn : (ub.map (·.1)).Nodup) (hb : ∀ (i : Nat) p, kb[i]? = some p → ∃ t, ub[i]? = some (p.1, Value.int p.2 t)) :
    ∀ (ka : List (Int × Int)) (ua : List (Int × Value)), ua.length = ka.length → (∀ (i : Nat) p, ka[i]? = some p → ∃ t, ua[i]? = some (p.1, Value.int p.2 t)) → (∀ c ∈ ka, c ∈ kb) → KeqHits A s ub ua true
  | [], [], _, _, _ => .nil
  | [], _ :: _, h, _, _ => by simp at h
  | _ :: _, [], h, _, _ => by simp at h
  | c :: ka, u :: ua, hl, ha, hm => by
    obtain ⟨t, e⟩ := ha 0 c rfl
    have eu : u = (c.1, Value.int c.2 t) := Option.some.inj e
    subst eu
    obtain ⟨j, hj, ej⟩ := List.getElem_of_mem (hm c (by simp))
    obtain ⟨t2, e2⟩ := hb j c (by rw [List.getElem?_eq_getElem hj, ej])
    have hv : valueAt ub c.1 = some (Value.int c.2 t2) := by
      unfold valueAt
      have hmem : (c.1, Value.int c.2 t2) ∈ ub := List.mem_of_getElem? e2
      have hf : ∀ (l : List (Int × Value)), (l.map (·.1)).Nodup → (c.1, Value.int c.2 t2) ∈ l → l.find? (fun kv => decide (kv.1 = c.1)) = some (c.1, Value.int c.2 t2) := by
        intro l
        induction l with
        | nil => intro _ h; simp at h
        | cons x l ih =>
          intro hnd hx
          rw [List.map_cons, List.nodup_cons] at hnd
          rcases List.mem_cons.mp hx with rfl | hx
          · simp
          · have ne : ¬ x.1 = c.1 := fun z => hnd.1 (by rw [z]; exact List.mem_map.mpr ⟨_, hx, rfl⟩)
            rw [List.find?_cons_of_neg (by simpa using ne)]
            exact ih hnd.2 hx
      rw [hf ub hn hmem]
      rfl
    have h1 := SeqAt.EqAt.int_int (A := A) (s := s) c.2 t c.2 t2
    rw [beq_self_eq_true] at h1
    have r := hits_of (A := A) (s := s) hn hb ka ua (by simpa using hl) (fun i p hi => ha (i + 1) p (by simpa using hi)) (fun c hc => hm c (by simp [hc]))
    have := KeqHits.hit (k := c.1) hv h1 r
    simpa using this
section
variable {X : Cx} {pins : List (Addr × Obj)} {σ : St} {H : Hp} {s : Shared} {A : Around}
theorem eqT_at (hu : A.units < cLine) (I : Inv X pins σ H s) {x y : V} {u v : Value} (h : EqT H x y) (ru : RelV x u) (rv : RelV y v) : SeqAt.EqAt A s u v true := by
  obtain ⟨p, q, xs, rfl, rfl, hp, hq, hs⟩ := h
  cases ru
  cases rv
  by_cases e : p = q
  · subst e; exact SeqAt.EqAt.same _
  · obtain ⟨_, i1, r1, t1⟩ := (show ObjOk X.prog X.w H s.heap p (.tup xs) from I.hok p _ hp)
    obtain ⟨_, i2, r2, t2⟩ := (show ObjOk X.prog X.w H s.heap q (.tup xs) from I.hok q _ hq)
    have l1 := r1.length
    have l2 := r2.length
    have key := SeqAt.RcAt.tuples (A := A) (s := s) (e := fun _ => true) t1 t2 hu fun j h1 h2 => by
      have j1 : j < xs.length := by simp at h1; omega
      have z1 : xs[j]? = some xs[j] := List.getElem?_eq_getElem j1
      obtain ⟨u1, w1, q1⟩ := r1.get z1
      obtain ⟨u2, w2, q2⟩ := r2.get z1
      have e1 : i1.toArray[j] = u1 := by
        have : i1[j]? = some i1[j] := List.getElem?_eq_getElem (by omega)
        rw [this] at w1
        simpa using w1
      have e2 : i2.toArray[j] = u2 := by
        have : i2[j]? = some i2[j] := List.getElem?_eq_getElem (by omega)
        rw [this] at w2
        simpa using w2
      rw [e1, e2]
      exact scal_at (hs _ (List.getElem_mem j1)) q1 q2
    rw [all_true] at key
    have e3 : (true && i1.toArray.size == i2.toArray.size) = true := by simp; omega
    rw [e3] at key
    exact SeqAt.EqAt.of_refs e key
theorem lists_at (hu : A.units < cLine) (I : Inv X pins σ H s) {p q : Addr} {xs ys : List V} (hp : H p = some (.lst xs)) (hq : H q = some (.lst ys)) (hl : xs.length = ys.length)
    (he : ∀ (i : Nat) a b u v, xs[i]? = some a → ys[i]? = some b → RelV a u → RelV b v → SeqAt.EqAt A.in1 s u v true) : SeqAt.RcAt A s (.ref p) (.ref q) true := by
  obtain ⟨i1, r1, t1, _⟩ := I.list (SqL.of hp)
  obtain ⟨i2, r2, t2, _⟩ := I.list (SqL.of hq)
  have l1 := r1.length
  have l2 := r2.length
  have key := SeqAt.RcAt.lists (A := A) (s := s) (e := fun _ => true) t1.isList t2.isList (by simp; omega) hu fun j h1 h2 => by
    have j1 : j < xs.length := by simp at h1; omega
    have j2 : j < ys.length := by simp at h2; omega
    have z1 : xs[j]? = some xs[j] := List.getElem?_eq_getElem j1
    have z2 : ys[j]? = some ys[j] := List.getElem?_eq_getElem j2
    obtain ⟨u1, w1, q1⟩ := r1.get z1
    obtain ⟨u2, w2, q2⟩ := r2.get z2
    have e1 : i1.toArray[j] = u1 := by
      have : i1[j]? = some i1[j] := List.getElem?_eq_getElem (by omega)
      rw [this] at w1
      simpa using w1
    have e2 : i2.toArray[j] = u2 := by
      have : i2[j]? = some i2[j] := List.getElem?_eq_getElem (by omega)
      rw [this] at w2
      simpa using w2
    rw [e1, e2]
    exact he j _ _ _ _ z1 z2 q1 q2
  rw [all_true] at key
  exact key
theorem eqV_at (hu : A.units + 1 < cLine) (I : Inv X pins σ H s) {x y : V} {u v : Value} (h : EqV H x y) (ru : RelV x u) (rv : RelV y v) : SeqAt.EqAt A s u v true := by
  have hu0 : A.units < cLine := by omega
  have hu1 : A.in1.units < cLine := hu
  rcases h with ⟨rfl, hs⟩ | h | ⟨p, q, xs, rfl, rfl, hp, hq, hs⟩ | ⟨p, q, xs, ys, rfl, rfl, hp, hq, hl, hs⟩ | ⟨p, q, ka, kb, rfl, rfl, hp, hq, hl, hs⟩
  · exact scal_at hs ru rv
  · exact eqT_at hu0 I h ru rv
  · cases ru
    cases rv
    by_cases e : p = q
    · subst e; exact SeqAt.EqAt.same _
    · refine SeqAt.EqAt.of_refs e (lists_at hu0 I hp hq rfl fun i a b u v ha hb r1 r2 => ?_)
      rw [ha] at hb
      cases hb
      exact scal_at (hs a (List.mem_of_getElem? ha)) r1 r2
  · cases ru
    cases rv
    by_cases e : p = q
    · subst e; exact SeqAt.EqAt.same _
    · exact SeqAt.EqAt.of_refs e (lists_at hu0 I hp hq hl fun i a b u v ha hb r1 r2 => eqT_at hu1 I (hs i a b ha hb) r1 r2)
  · cases ru
    cases rv
    by_cases e : p = q
    · subst e; exact SeqAt.EqAt.same _
    · refine SeqAt.EqAt.of_refs e fun P' w' E' Q' hQ => ?_
      obtain ⟨_, y1, vs1, r1, d1⟩ := dk_of I.hok hp
      obtain ⟨_, y2, vs2, r2, d2⟩ := dk_of I.hok hq
      obtain ⟨ua, da, na, va⟩ := int_dict r1 d1 P' w'
      obtain ⟨ub, db, nb, vb⟩ := int_dict r2 d2 P' w'
      have hnb : (ub.map (·.1)).Nodup := by
        obtain ⟨_, _, _, _, _, _, _, _, hn⟩ := db
        exact hn
      have la : ua.length = ka.length := by have := congrArg List.length na; simpa using this
      have lb : ub.length = kb.length := by have := congrArg List.length nb; simpa using this
      refine keq_eq y1 y2 da db hu0 (r := true) (fun _ => hits_of hnb vb ka ua la va hs) ?_
      have e3 : (ua.length == ub.length && true) = true := by simp; omega
      rw [e3]
      exact hQ
end
def rEqD : R2 := fun x y H Q => ∃ (p q : Addr) (xs ys : List V), x = .ref p ∧ y = .ref q ∧ H p = some (.lst xs) ∧ H q = some (.lst ys) ∧ xs.length = ys.length ∧ (∀ (i : Nat) a b, xs[i]? = some a → ys[i]? = some b → EqV H a b) ∧ Q (.bl true) H
theorem op_eqD {X : Cx} (hu : X.A.units + 2 < cLine) : OpR X (compareOp .Eq) rEqD := by
  intro pins s σ H x y v u Q I rx ry h
  obtain ⟨p, q, xs, ys, rfl, rfl, hp, hq, hl, he, k⟩ := h
  cases rx
  cases ry
  have key := lists_at (A := X.A) (by omega) I hp hq hl fun i a b u v ha hb r1 r2 => eqV_at (A := X.A.in1) (by show X.A.units + 1 + 1 < cLine; omega) I (he i a b ha hb) r1 r2
  exact key _ _ _ _ ⟨.bl true, H, I, rfl, k⟩
end L2


set_option Elab.async false
set_option linter.all false
set_option maxRecDepth 100000
set_option maxHeartbeats 4000000
namespace L2
open PySem PySem.W PySem.Spec PySem.Calls PyProof.Rows
theorem list_no_keys : typeLookup (.type "list") "keys" = pure none := by rw [typeLookup_type, builtinLookup_eq_fast]; kernel_rfl
theorem keysQ_list {prog : Program} {w : World} {A : Around} {E : Value → Shared → Prop} {s : Shared} {a : Addr} {xs : Array Value} {k : Nat} {Q : Option Value → Shared → Prop}
    (hx : s.heap.get? a = some { cls := .type "list", data := .seq xs k }) (hA : A.handled = none)
    (hq : ∀ h' tk, (∀ b o, s.heap.get? b = some o → h'.get? b = some o) → Q none { s with heap := h', toks := tk }) : wpAny (model prog w) A (getAttr? (.ref a) "keys") Q E s := by
  obtain ⟨hp, g, d, tk, os⟩ := s
  have hT : ∀ tk', (⟨hp, g, d, tk', os⟩ : Shared).TypeIs (.ref a) "list" := fun _ => ⟨_, hx, rfl⟩
  have g1 := sub_AttributeError
  have g3 := PySem.F.slot_list_getattribute.lookup
  have g4 := PySem.F.slot_list_getattribute.bind (.ref a)
  have g5 := am_list_getattr_none
  unfold getAttr? getAttrBy? getAttrBy
  repeat (any_goals (first | assumption | exact hT _ | ((with_reducible show wpAny _ _ (call (Value.builtin "list.__getattribute__") _ _) _ _ _); refine call_meets PySem.F.slot_list_getattribute (hT _) am_entry_list_getattribute (PySem.F.args_list_getattribute_2 _ _) (meets_getattribute_miss_list a xs k #[] "keys" _ list_no_keys (by decide +kernel) (by size_fits)) ⟨hx, hA, fun h' tk' e hy => ?_⟩) | wp_step))
  obtain ⟨t', u', he⟩ := hy.there
  have hkp := hy.of.keeps
  (show wpAny (model prog w) _ (getattributeRaised _ _ _ _ _ _ _) _ _ _; unfold getattributeRaised; repeat (any_goals (first | assumption | wp_step)))
  exact hq _ _ hkp
theorem plain_dul : plainId "dict.update.loop" = true := by decide +kernel
theorem entry_dul : entryFor table "dict.update.loop" = some Builtin.«dict.update.loop» := entryFor_of_fast (by kernel_rfl)
section
variable {prog : Program} {w : World} {K : Type} [DecidableEq K] {knd : KeyKind prog w K} {A : Around} {R : Result → Shared → Prop}
theorem loop_pairs (hh : A.handled = none) {d it l : Addr} {items : Array Value} {ks : List (K × Value)} (hdi : d ≠ it) (hld : l ≠ d) (hli : l ≠ it) (hkl : ks.length = items.size) (hsz : items.size ≤ 1000) :
    ∀ (n i : Nat) (s : Shared) (acc : List (K × Value)) (t : Tok), items.size - i = n → i ≤ items.size → s.heap.IsListIter it l i → s.heap.IsList l items → s.heap.DictOf knd d acc → acc.length ≤ i →
      (∀ (j : Nat) k v, ks[j]? = some (k, v) → ∃ tup key, items[j]? = some (.ref tup) ∧ IsTup s.heap tup #[key, v] ∧ knd.is k key = true ∧ tup ≠ d ∧ tup ≠ it) →
      (∀ h' tk, h'.DictOf knd d (merged acc (ks.drop i)) → (∀ b o, b ≠ d → b ≠ it → s.heap.get? b = some o → h'.get? b = some o) → R (.ok (.ret .none)) { s with heap := h', toks := tk }) →
      codeAny (model prog w) A (.builtin "dict.update.loop" ⟨[.ref d, .ref it, .int i t, .none], []⟩) R s := by
  intro n
  induction n with
  | zero =>
    intro i s acc t hn hi hit hl hd hal hks hR
    have e : i = items.size := by omega
    subst e
    refine codeAny_builtin entry_dul ?_
    rw [Around.under_plainId plain_dul _]
    show wpAny _ A.in1 (pyNext (.ref it) >>= _) _ _ s
    refine wpAny_bind (wpAny_pyNext_list_end (A := A.in1) hh hit hl (by simp) fun h' he => ?_)
    show wpAny _ A.in1 (Builtin.Dict.addKeywords d [] >>= _) _ _ _
    refine wpAny_bind (wpAny_pure (wpAny_pure ?_))
    have e2 : ks.drop items.size = [] := List.drop_eq_nil_of_le (by omega)
    rw [e2] at hR
    refine hR h' s.toks ?_ fun b o _ hb e => he b o hb e
    obtain ⟨o, es, ep, ho, r⟩ := hd
    exact ⟨o, es, ep, he d o hdi ho, r⟩
  | succ n ih =>
    intro i s acc t hn hi hit hl hd hal hks hR
    have hlt : i < items.size := by omega
    have hki : ks[i]? = some ks[i] := List.getElem?_eq_getElem (by omega)
    obtain ⟨tup, key, hti, htup, hkey, ntd, nti⟩ := hks i ks[i].1 ks[i].2 hki
    refine codeAny_builtin entry_dul ?_
    rw [Around.under_plainId plain_dul _]
    show wpAny _ A.in1 (pyNext (.ref it) >>= _) _ _ s
    refine wpAny_bind (wpAny_pyNext_list_item (A := A.in1) hit hl hti fun h1 hit1 hs1 => ?_)
    have k1 : ∀ b o, b ≠ it → s.heap.get? b = some o → h1.get? b = some o := fun b o hb e => (hs1.2 b hb).trans e
    obtain ⟨ot, hot, hct, nt, hdt⟩ := htup
    have hot1 := k1 _ _ nti hot
    have hd1 : h1.DictOf knd d acc := by
      obtain ⟨o, es, ep, ho, r⟩ := hd
      exact ⟨o, es, ep, k1 d o hdi ho, r⟩
    refine wpAny_bind (wpAny_holding (wpAny_bind (wpAny_tryCatch ?_)))
    show wpAny _ A.in1 (Builtin.Dict.pairItems (.ref tup)) _ _ { s with heap := h1 }
    unfold Builtin.Dict.pairItems
    refine wpAny_bind (wpAny_typeOf (T := "tuple") ⟨_, hot1, hct⟩ ?_)
    rw [if_pos (by decide)]
    refine wpAny_bind (wpAny_seqItems hot1 hdt ?_)
    refine wpAny_pure ?_
    show wpAny _ A.in1 (holding [key, ks[i].2] (dictSet d key ks[i].2)) _ _ { s with heap := h1 }
    refine wpAny_holding (wpAny_dictSet_pairs (hsz := Nat.le_trans hal (Nat.le_trans hi (Nat.le_trans hsz (by rw [sizeLine_eq]; decide)))) hkey hd1 fun h2 hd2 hs2 => ?_)
    have k2 : ∀ b o, b ≠ d → b ≠ it → s.heap.get? b = some o → h2.get? b = some o := fun b o hb hb2 e => (hs2.2 b hb).trans (k1 b o hb2 e)
    refine wpAny_pure ⟨plainId_quiet plain_dul _, ?_⟩
    refine ih (i + 1) { s with heap := h2, toks := s.toks + 1 } (stored acc ks[i].1 ks[i].2) 0 (by omega) hlt ?_ ?_ hd2 ?_ ?_ ?_
    · obtain ⟨o, ho, r⟩ := hit1
      exact ⟨o, (hs2.2 it (Ne.symm hdi)).trans ho, r⟩
    · obtain ⟨o, ho, r⟩ := hl
      exact ⟨o, k2 l o hld hli ho, r⟩
    · unfold stored
      split
      · rw [List.length_map]; omega
      · rw [List.length_append]
        show acc.length + 1 ≤ i + 1
        omega
    · intro j k v hj
      obtain ⟨tup', key', a1, ⟨o, a2, a3⟩, a4, a5, a6⟩ := hks j k v hj
      exact ⟨tup', key', a1, ⟨o, k2 tup' o a5 a6 a2, a3⟩, a4, a5, a6⟩
    · intro h' tk hd' kp
      have e3 : ks.drop i = ks[i] :: ks.drop (i + 1) := List.drop_eq_getElem_cons (by omega)
      refine hR h' tk ?_ fun b o hb hb2 e => kp b o hb hb2 (k2 b o hb hb2 e)
      rw [e3]
      exact hd'
end
theorem call_dict_pairs {X : Cx} (hc : X.calm = true) : CallR X (.type "dict") (fun xs H Q => ∃ (p : Addr) (ts : List Addr) (kvs : List (Key × V)), xs = [.ref p] ∧ H p = some (.lst (ts.map V.ref)) ∧ ts.length = kvs.length ∧ (∀ (i : Nat) t k v, ts[i]? = some t → kvs[i]? = some (k, v) → H t = some (.tup [kV k, v])) ∧
    kvs.length ≤ 1000 ∧ (kvs.map (·.1)).Nodup ∧ ∀ l, H l = none → Q (.ref l) (upd H l (.dK kvs))) := by
  intro pins s σ H xs us0 Q I r h
  obtain ⟨p, ts, kvs, rfl, hp, hl, ht, hz, hnd, q⟩ := h
  obtain ⟨u, rfl, ru⟩ := vals1 r
  cases ru
  obtain ⟨_, its, nn, rv, hpo⟩ := (show ObjOk X.prog X.w H s.heap p (.lst (ts.map V.ref)) from I.hok p _ hp)
  have hil : its.length = ts.length := by rw [← rv.length, List.length_map]
  have hti : ∀ (i : Nat) t, ts[i]? = some t → its[i]? = some (Value.ref t) := fun i t hi => by
    obtain ⟨w', hw, rw'⟩ := rv.get (i := i) (x := V.ref t) (by rw [List.getElem?_map, hi]; rfl)
    cases rw'
    exact hw
  have pick : ∀ (i : Nat) k v, kvs[i]? = some (k, v) → ∃ t key u, ts[i]? = some t ∧ IsTup s.heap t #[key, u] ∧ RelV (kV k) key ∧ RelV v u := fun i k v hi => by
    have hlt : i < ts.length := by rw [hl]; exact (List.getElem?_eq_some_iff.mp hi).1
    have h1 : ts[i]? = some ts[i] := List.getElem?_eq_getElem hlt
    obtain ⟨_, tis, tv, tt⟩ := (show ObjOk X.prog X.w H s.heap ts[i] (.tup [kV k, v]) from I.hok _ _ (ht i _ k v h1 hi))
    cases tv with
    | cons a b =>
      cases b with
      | cons c d =>
        cases d
        exact ⟨ts[i], _, _, h1, tt, a, c⟩
  have hvs : ∃ vs : List (Key × Value), KV kvs vs ∧ ∀ (i : Nat) k u, vs[i]? = some (k, u) → ∃ t key, ts[i]? = some t ∧ IsTup s.heap t #[key, u] ∧ RelV (kV k) key := by
    have gen : ∀ (ks : List (Key × V)) (o : Nat), (∀ (i : Nat) k v, ks[i]? = some (k, v) → kvs[o + i]? = some (k, v)) → ∃ vs : List (Key × Value), KV ks vs ∧ ∀ (i : Nat) k u, vs[i]? = some (k, u) → ∃ t key, ts[o + i]? = some t ∧ IsTup s.heap t #[key, u] ∧ RelV (kV k) key := by
      intro ks
      induction ks with
      | nil => intro o _; exact ⟨[], .nil, fun i k u h => by simp at h⟩
      | cons c ks ih =>
        intro o ho
        obtain ⟨t, key, u, a1, a2, a3, a4⟩ := pick o c.1 c.2 (ho 0 c.1 c.2 rfl)
        obtain ⟨vs, b1, b2⟩ := ih (o + 1) fun i k v hi => by
          have := ho (i + 1) k v (by simpa using hi)
          rwa [show o + (i + 1) = o + 1 + i by omega] at this
        refine ⟨(c.1, u) :: vs, .cons ⟨rfl, a4⟩ b1, fun i k u' hi => ?_⟩
        cases i with
        | zero =>
          have e := Option.some.inj hi
          cases e
          exact ⟨t, key, a1, a2, a3⟩
        | succ i =>
          obtain ⟨t', key', c1, c2, c3⟩ := b2 i k u' (by simpa using hi)
          exact ⟨t', key', by rw [show o + (i + 1) = o + 1 + i by omega]; exact c1, c2, c3⟩
    obtain ⟨vs, a, b⟩ := gen kvs 0 fun i k v hi => by rw [Nat.zero_add]; exact hi
    exact ⟨vs, a, fun i k u hi => by have := b i k u hi; rwa [Nat.zero_add] at this⟩
  obtain ⟨vs, hkv, hvt⟩ := hvs
  have hvl := hkv.length
  have hvk : vs.map (·.1) = kvs.map (·.1) := by
    have : ∀ {a : List (Key × V)} {b : List (Key × Value)}, KV a b → b.map (·.1) = a.map (·.1) := by
      intro a b h
      induction h with
      | nil => rfl
      | cons h t ih => rw [List.map_cons, List.map_cons, ih, h.1]
    exact this hkv
  have hh := I.ok.hd hc
  refine callType_codes (Q₁ := fun obj s1 => obj = .ref s.heap.objs.size ∧ s1 = { s with heap := s.heap.push { cls := .type "dict", data := .dict #[] } }) PySem.F.kt_called_dict (PySem.F.kt_typeCall_dict_1 _) PySem.F.entry_dict_init (kt_code_dict_new _ ⟨rfl, rfl⟩) (fun obj s1 hs => ?_)
  obtain ⟨rfl, rfl⟩ := hs
  have nw : (s.heap.push { cls := .type "dict", data := .dict #[] }).DictOf (mixKind X.prog X.w) s.heap.objs.size [] := Heap.DictOf.new s.heap
  have old : ∀ b o, s.heap.get? b = some o → (s.heap.push { cls := .type "dict", data := .dict #[] }).get? b = some o := fun b o e => Heap.get?_push_of_some _ e
  refine ⟨nw.typeIs, PySem.F.args_dict_init_2 _ _, ?_⟩
  (unfold Builtin.«dict.__init__»; refine wpAny_bind ?_; unfold Builtin.Dict.selfAndRest; refine wpAny_bind (wpAny_notOrdered_dict nw.typeIs ?_))
  (show wpAny _ _ (pure (s.heap.objs.size, [Value.ref p])) _ _ _; refine wpAny_pure ?_; show wpAny _ _ (Builtin.Dict.updateFrom "dict.__init__" s.heap.objs.size (.ref p) [] .none) _ _ _; unfold Builtin.Dict.updateFrom)
  refine wpAny_bind (wpAny_typeOf (T := "list") ⟨_, old _ _ hpo, rfl⟩ ?_)
  rw [if_pos (by decide)]
  refine wpAny_bind (keysQ_list (old _ _ hpo) hh fun h1 tk1 k1 => ?_)
  rw [if_pos (show (none : Option Value).isNone = true from rfl)]
  refine wpAny_bind (wpAny_rule ?_)
  have hpl1 : h1.IsList p its.toArray := ⟨_, k1 _ _ (old _ _ hpo), rfl, nn, rfl⟩
  refine wpAny_bind (wpAny_pyIter_list (l := p) (items := its.toArray) hpl1 ?_)
  have lt : ∀ b o, s.heap.get? b = some o → b < s.heap.objs.size := fun b o e => Heap.lt_size e
  have dN : h1.get? s.heap.objs.size = some { cls := .type "dict", data := .dict #[] } := k1 _ _ (Heap.get?_push_size _ rfl)
  have ltd : @LT.lt Nat _ s.heap.objs.size h1.objs.size := Heap.lt_size dN
  have up : ∀ b o, h1.get? b = some o → (h1.push { cls := .type "list_iterator", data := .fields #[.ref p, .int 0 0] }).get? b = some o := fun b o e => Heap.get?_push_of_some _ e
  have ltp := lt _ _ hpo
  have itr : (h1.push { cls := .type "list_iterator", data := .fields #[.ref p, .int 0 0] }).IsListIter h1.objs.size p 0 := ⟨_, Heap.get?_push_size _ rfl, rfl, rfl⟩
  have lst2 : (h1.push { cls := .type "list_iterator", data := .fields #[.ref p, .int 0 0] }).IsList p its.toArray := ⟨_, up _ _ (k1 _ _ (old _ _ hpo)), rfl, nn, rfl⟩
  have dct2 : (h1.push { cls := .type "list_iterator", data := .fields #[.ref p, .int 0 0] }).DictOf (mixKind X.prog X.w) s.heap.objs.size [] := by
    obtain ⟨o, es, ep, ho, rr⟩ := nw
    exact ⟨o, es, ep, up _ _ (k1 _ _ ho), rr⟩
  refine wpAny_pure ⟨plainId_quiet plain_dul _, ?_⟩
  refine loop_pairs (A := X.A.in1) (knd := mixKind X.prog X.w) hh (d := s.heap.objs.size) (it := h1.objs.size) (l := p) (items := its.toArray) (ks := vs) (Nat.ne_of_lt ltd) (Nat.ne_of_lt ltp) (Nat.ne_of_lt (Nat.lt_trans ltp ltd)) (by rw [List.size_toArray, hil, hl, hvl]) (by rw [List.size_toArray, hil, hl]; exact hz) its.toArray.size 0 _ [] _ (by omega) (Nat.zero_le _) ?_ ?_ ?_ (Nat.le_refl _) ?_ ?_
  · exact itr
  · exact lst2
  · exact dct2
  · intro j k v hj
    obtain ⟨t, key, a1, ⟨o, a2, a3⟩, a4⟩ := hvt j k v hj
    have ltt := lt _ _ a2
    exact ⟨t, key, by rw [List.getElem?_toArray]; exact hti j t a1, ⟨o, up _ _ (k1 _ _ (old _ _ a2)), a3⟩, kV_is a4, Nat.ne_of_lt ltt, Nat.ne_of_lt (Nat.lt_trans ltt ltd)⟩
  · intro h' tk hd' kp
    rw [List.drop_zero, merged_nil_of_nodup vs (by rw [hvk]; exact hnd)] at hd'
    refine ⟨rfl, .ref s.heap.objs.size, _, I.laid (a := s.heap.objs.size) (o := .dK kvs) (t' := tk) (fun b o e => ?_) (Nat.le_refl _) ?_, rfl, q _ (I.hok.fresh (Nat.le_refl _))⟩
    · have ltb := lt b o e
      exact kp b o (Nat.ne_of_lt ltb) (Nat.ne_of_lt (Nat.lt_trans ltb ltd)) (up _ _ (k1 _ _ (old _ _ e)))
    · exact dk_new (Nat.le_trans hz (by rw [sizeLine_eq]; decide)) (beq_eq_false_iff_ne.mpr (Ne.symm (Nat.ne_of_lt I.big))) hkv hd'
end L2


set_option Elab.async false
set_option linter.all false
set_option maxRecDepth 100000
set_option maxHeartbeats 4000000
namespace L2
open PySem PySem.W PySem.Spec PySem.Calls PyProof.Rows
/-! ### d.update(e): other keys -/
def rUpd : V → List V → Hp → VK → Prop := fun x vs H Q => ∃ (a b : Addr) (ka kb : List (Key × V)), x = .ref a ∧ vs = [.ref b] ∧ H a = some (.dK ka) ∧ H b = some (.dK kb) ∧ a ≠ b ∧ ka.length + kb.length ≤ 1000 ∧ ((ka ++ kb).map (·.1)).Nodup ∧ Q .non (upd H a (.dK (ka ++ kb)))
theorem kv_keys {a : List (Key × V)} {b : List (Key × Value)} (h : KV a b) : b.map (·.1) = a.map (·.1) := by
  induction h with
  | nil => rfl
  | cons h t ih => rw [List.map_cons, List.map_cons, ih, h.1]
theorem paired_app {α β : Type} {R : α → β → Prop} {xs xs' : List α} {ys ys' : List β} (r : Paired R xs ys) (r' : Paired R xs' ys') : Paired R (xs ++ xs') (ys ++ ys') := by
  induction r with
  | nil => exact r'
  | cons h t ih => exact .cons h ih
theorem mt_update {X : Cx} : MtR X "dict.update" rUpd := by
  intro pins s σ H x vs v us Q I rx rv h
  obtain ⟨a, b, ka, kb, rfl, rfl, ha, hb, hne, hz, hnd, q⟩ := h
  cases rx
  obtain ⟨u, rfl, ru⟩ := vals1 rv
  cases ru
  obtain ⟨z1, y1, v1, r1, d1⟩ := dk_of I.hok ha
  obtain ⟨z2, y2, v2, r2, d2⟩ := dk_of I.hok hb
  have l1 := r1.length
  have l2 := r2.length
  have hk : ((v1 ++ v2).map (·.1)).Nodup := by
    rw [List.map_append, kv_keys r1, kv_keys r2, ← List.map_append]
    exact hnd
  refine call_meetsIn PySem.F.slot_dict_update d1.typeIs PySem.F.entry_dict_update (PySem.F.args_dict_update_2 _ _) (meets_dict_update (mixKind X.prog X.w) a b hne y2) ⟨v1, v2, d1, d2, Nat.le_trans (by omega) (show 1000 ≤ sizeLine by rw [sizeLine_eq]; decide), fun h' hd' _ hs => ?_⟩
  rw [merged_append_of_fresh v1 v2 hk] at hd'
  have he : ∃ o, h'.get? a = some o := by
    obtain ⟨o, _, _, ho, _⟩ := hd'
    exact ⟨o, ho⟩
  exact ⟨.non, _, d_write I (by rw [ha]; exact True.intro) hs he (dk_new (Nat.le_trans (by rw [List.length_append]; exact hz) (by rw [sizeLine_eq]; decide)) y1 (paired_app r1 r2) hd'), rfl, q⟩
/-! ### x in range(n) -/
def rInR : R2 := fun x y H Q => ∃ (i : Int) (p : Addr) (lo hi : Int), x = .int i ∧ y = .ref p ∧ H p = some (.rng lo hi) ∧ Q (.bl (decide (lo ≤ i ∧ i < hi))) H
theorem op_in_rng {X : Cx} : OpR X (compareOp .In) rInR := by
  intro pins s σ H x y v u Q I rx ry h
  obtain ⟨i, p, lo, hi, rfl, rfl, hp, q⟩ := h
  obtain ⟨t, rfl⟩ := rx
  cases ry
  obtain ⟨t1, t2, t3, ho⟩ := (show ObjOk X.prog X.w H s.heap p (.rng lo hi) from I.hok p _ hp)
  have hT : s.TypeIs (.ref p) "range" := ⟨_, ho, rfl⟩
  have e : (Builtin.Range.rangePlace? lo hi 1 i).isSome = decide (lo ≤ i ∧ i < hi) := by
    unfold Builtin.Range.rangePlace?
    by_cases h1 : lo ≤ i <;> by_cases h2 : i < hi <;> simp [h1, h2]
  show wpAny _ _ (do return Value.bool (← contains (Value.ref p) (Value.int i t))) (EP X pins σ Q) X.xe s
  refine wpAny_bind (wpAny_contains_slot hT PySem.F.slot_range_contains (wpAny_call_entry PySem.F.slot_range_contains hT PySem.F.entry_range_contains ?_ (PySem.F.args_range_contains_2 _ _)))
  have fin : EP X pins σ Q (.bool (Builtin.Range.rangePlace? lo hi 1 i).isSome) s := by
    rw [e]
    exact ⟨.bl _, H, I, rfl, q⟩
  (unfold Builtin.«range.__contains__»; repeat (any_goals (first | assumption | with_reducible refine wpAny_loadPart_at ho ?_ | wp_step)))
  exact ⟨_, rfl, wpAny_truthy_bool (wpAny_pure fin)⟩
end L2


set_option Elab.async false
set_option linter.all false
set_option maxRecDepth 100000
set_option maxHeartbeats 4000000
namespace L2
open PySem PySem.Spec PyProof.Rows
/-! ### the call of what an expression tells -/
def tCallE (X : Cx) (k : Nat) (te : TE) (t : TA) : TE := fun σ H Q => te σ H fun x H1 => ∃ (f : Addr) (fd : FuncData) (ps : List Str) (sp : Sp), x = .ref f ∧ FnOk X.prog X.w X.K X.mg X.base CX0 k f fd ps sp ∧ Binds X.K fd ps [] ∧ PySem.W.keepIn X.K (.ref f) = true ∧
  t σ H1 fun vs H2 => sp (vs ++ []) H2 Q E0
section
variable {X : Cx} {k : Nat} {e a : Expr} {es : List Expr} {pos : Pos} {te : TE} {t : TA}
theorem pe_callE (he : PE X e te) (hr : Room k X.A) (ha : PA X (a :: es) t)
    (ht : eval (.Call e (a :: es) [] pos) X.env = (do callWith pos (← eval e X.env) [] (backTo pos (starEach (a :: es) X.env)) (backToKw pos (keywordEach [] X.env))) := by rfl)
    (hst : starEach (a :: es) X.env = (false, eval a X.env) :: starEach es X.env := by rfl) (hpl : (backTo pos (starEach es X.env)).any (·.1) = false := by rfl) :
    PE X (.Call e (a :: es) [] pos) (tCallE X k te t) := by
  intro pins s σ H Q I h
  rw [ht]
  refine wpAny_bind (thn (he pins s σ H _ I h) fun u s1 ⟨x, H1, I1, rx, f, fd, ps, sp, ex, F, hb, hk, q⟩ => ?_)
  subst ex
  obtain rfl : u = Value.ref f := rx
  refine PySem.W.callWith_K (h₀ := X.base) I1.ok.mod.kin hk (thn (ha pos pins s1 σ H1 _ I1 q) fun us s2 ⟨vs, H2, I2, r, q2⟩ => ⟨I2.kIn, ?_⟩) hst hpl
  exact run_fn F hr hb .nil pass0 I2 r q2
end
end L2


set_option Elab.async false
set_option linter.all false
set_option maxRecDepth 100000
set_option maxHeartbeats 4000000
namespace L2
open PySem PySem.Spec PyProof.Rows
/-- a dict of the top, keyed by texts: what it holds at x -/
def KHas (K : PySem.W.Frag) (P : Params) (a : Addr) (x : Str) (r : Option V) : Prop :=
  ∃ (es : Array DictEntry) (n : Nat), K.lookup a = some ⟨.type "dict", none, .dict es n, #[]⟩ ∧ PySem.W.KeysLit P es.toList ∧ (a == sysModules) = false ∧ ∃ q, PySem.W.nsIn K a x = some q ∧ RelO r q
def tKGet (K : PySem.W.Frag) (P : Params) (td ty : TE) : TE := fun σ H Q => td σ H fun x H1 => ty σ H1 fun y H2 => ∃ a k v, x = .ref a ∧ y = .str k ∧ KHas K P a k (some v) ∧ Q v H2
section
variable {X : Cx} {o i : Expr} {pos : Pos} {td ty : TE}
theorem pe_kget (ho : PE X o td) (hi : PE X i ty) (hs : NoSl i) : PE X (.Subscript o i pos) (tKGet X.K X.w.params td ty) := by
  intro pins s σ H Q I h
  refine subD_of PySem.F.slot_dict_getitem.lookup hs (thn (ho pins s σ H _ I h) fun u s1 ⟨x, H1, I1, rx, q1⟩ => thn (hi pins s1 σ H1 _ I1 q1) fun iv s2 ⟨y, H2, I2, ry, a, k, v, ex, ey, g, q2⟩ => ?_)
  subst ex ey
  obtain rfl : u = Value.ref a := rx
  obtain ⟨t, rfl⟩ := ry
  obtain ⟨es, n, hl, hk, hm, q, hq, rq⟩ := g
  obtain ⟨w', hw, rw'⟩ := RelO.some_of (v := v) (o := q) rq
  subst hw
  have mo := PySem.W.mapOf_K (prog := X.prog) (w := X.w) I2.kIn hl hk
  exact ⟨mo.typeIs, wpAny_getItem_of (strKind_is X.prog X.w k t) mo (PySem.W.find_K hl hq) ⟨v, H2, I2.tok _, rw', q2⟩⟩
end
end L2


set_option Elab.async false
set_option linter.all false
set_option maxRecDepth 100000
set_option maxHeartbeats 4000000
namespace L2
open PySem PySem.Spec PyProof.Rows
/-! ### a dict from ints to ints stands for a function that is 0 nearly everywhere -/
def fput (f : Int → Int) (j v : Int) : Int → Int := fun i => if i = j then v else f i
structure Rep (d : List (Key × V)) (f : Int → Int) : Prop where
  isI : ∃ kvs : List (Int × Int), d = iD kvs ∧ (kvs.map (·.1)).Nodup
  val : ∀ j, (valV d (Sum.inl j)).getD (.int 0) = .int (f j)
theorem Rep.nil : Rep [] (fun _ => 0) := ⟨⟨[], rfl, List.nodup_nil⟩, fun _ => rfl⟩
theorem iD_val {kvs : List (Int × Int)} {j : Int} : ∀ {x : V}, valV (iD kvs) (Sum.inl j) = some x → ∃ v, x = .int v ∧ (j, v) ∈ kvs := by
  induction kvs with
  | nil => intro x h; cases h
  | cons p r ih =>
    intro x h
    by_cases e : p.1 = j
    · have : (Sum.inl p.1 : Key) = Sum.inl j := by rw [e]
      rw [show iD (p :: r) = (Sum.inl p.1, V.int p.2) :: iD r from rfl, valV_pos this] at h
      have h := Option.some.inj h
      exact ⟨p.2, h.symm, by rw [← e]; simp⟩
    · have : ¬ (Sum.inl p.1 : Key) = Sum.inl j := fun z => e (Sum.inl.inj z)
      rw [show iD (p :: r) = (Sum.inl p.1, V.int p.2) :: iD r from rfl, valV_neg this] at h
      obtain ⟨v, a, b⟩ := ih h
      exact ⟨v, a, by simp [b]⟩
theorem iD_mem {j v : Int} : ∀ {kvs : List (Int × Int)}, (kvs.map (·.1)).Nodup → (j, v) ∈ kvs → valV (iD kvs) (Sum.inl j) = some (.int v)
  | [], _, h => by simp at h
  | p :: r, hn, h => by
    rw [List.map_cons, List.nodup_cons] at hn
    rcases List.mem_cons.mp h with e | h
    · rw [show iD (p :: r) = (Sum.inl p.1, V.int p.2) :: iD r from rfl, valV_pos (by rw [← e])]
      rw [← e]
    · have ne : ¬ (Sum.inl p.1 : Key) = Sum.inl j := fun z => hn.1 (by rw [Sum.inl.inj z]; exact List.mem_map.mpr ⟨_, h, rfl⟩)
      rw [show iD (p :: r) = (Sum.inl p.1, V.int p.2) :: iD r from rfl, valV_neg ne]
      exact iD_mem hn.2 h
theorem iD_put {kvs : List (Int × Int)} {j v : Int} (hn : (kvs.map (·.1)).Nodup) : ∃ kvs', putK (iD kvs) (Sum.inl j) (.int v) = iD kvs' ∧ (kvs'.map (·.1)).Nodup ∧ kvs'.length ≤ kvs.length + 1 ∧ (v ≠ 0 → (∀ p ∈ kvs, p.2 ≠ 0) → ∀ p ∈ kvs', p.2 ≠ 0) := by
  by_cases h : valV (iD kvs) (Sum.inl j : Key) = none
  · refine ⟨kvs ++ [(j, v)], ?_, ?_, by simp, fun hv hz p hp => ?_⟩
    · rw [putK_new _ h]
      simp [iD]
    · rw [List.map_append, List.nodup_append]
      refine ⟨hn, by simp, fun a ha b hb e => ?_⟩
      have hb : b = j := by simpa using hb
      subst hb
      have := valV_not h
      apply this
      obtain ⟨p, hp, rfl⟩ := List.mem_map.mp ha
      exact List.mem_map.mpr ⟨(Sum.inl p.1, .int p.2), List.mem_map.mpr ⟨p, hp, rfl⟩, by rw [e]⟩
    · rcases List.mem_append.mp hp with hp | hp
      · exact hz p hp
      · rw [List.mem_singleton.mp hp]
        exact hv
  · refine ⟨kvs.map fun p => if p.1 = j then (p.1, v) else p, ?_, ?_, by simp, fun hv hz p hp => ?_⟩
    · unfold putK
      rw [valV_any, if_pos (by cases e : valV (iD kvs) (Sum.inl j : Key) with | none => exact absurd e h | some _ => rfl)]
      unfold iD
      rw [List.map_map, List.map_map]
      refine List.map_congr_left fun p _ => ?_
      show (if (Sum.inl p.1 : Key) = Sum.inl j then ((Sum.inl p.1 : Key), V.int v) else (Sum.inl p.1, V.int p.2)) = (Sum.inl (if p.1 = j then (p.1, v) else p).1, V.int (if p.1 = j then (p.1, v) else p).2)
      by_cases e : p.1 = j
      · rw [if_pos (by rw [e]), if_pos e]
      · rw [if_neg (fun z => e (Sum.inl.inj z)), if_neg e]
    · rw [List.map_map]
      have : ((fun p : Int × Int => p.1) ∘ fun p => if p.1 = j then (p.1, v) else p) = fun p => p.1 := by
        funext p
        show (if p.1 = j then (p.1, v) else p).1 = p.1
        split <;> rfl
      rw [this]
      exact hn
    · obtain ⟨q, hq, rfl⟩ := List.mem_map.mp hp
      by_cases e : q.1 = j
      · rw [if_pos e]; exact hv
      · rw [if_neg e]; exact hz q hq
theorem Rep.put {d : List (Key × V)} {f : Int → Int} (r : Rep d f) (j v : Int) : Rep (putK d (Sum.inl j) (.int v)) (fput f j v) := by
  obtain ⟨⟨kvs, rfl, hn⟩, hv⟩ := r
  obtain ⟨kvs', e, hn', _⟩ := iD_put (j := j) (v := v) hn
  refine ⟨⟨kvs', e, hn'⟩, fun i => ?_⟩
  rw [valV_put]
  unfold fput
  by_cases h : i = j
  · rw [if_pos (by rw [h]), if_pos h]
    rfl
  · rw [if_neg (fun z => h (Sum.inl.inj z)), if_neg h]
    exact hv i
/-- without noughts -/
structure NZ (d : List (Key × V)) (f : Int → Int) : Prop where
  rep : Rep d f
  nz : ∀ k v, (k, v) ∈ d → v ≠ .int 0
theorem len_le : ∀ (a b : List Int), a.Nodup → (∀ x ∈ a, x ∈ b) → a.length ≤ b.length
  | [], _, _, _ => Nat.zero_le _
  | x :: a, b, hn, h => by
    rw [List.nodup_cons] at hn
    have hx := h x (by simp)
    have := len_le a (b.erase x) hn.2 fun y hy => (List.mem_erase_of_ne (show y ≠ x from fun e => hn.1 (by rw [← e]; exact hy))).mpr (h y (by simp [hy]))
    rw [List.length_erase_of_mem hx] at this
    have : 0 < b.length := List.length_pos_of_mem hx
    simp only [List.length_cons]
    omega
theorem NZ.sub {d e : List (Key × V)} {f : Int → Int} (a : NZ d f) (b : NZ e f) : ∃ ka kb, d = iD ka ∧ e = iD kb ∧ ka.length = kb.length ∧ ∀ c ∈ ka, c ∈ kb := by
  obtain ⟨⟨⟨ka, rfl, na⟩, va⟩, za⟩ := a
  obtain ⟨⟨⟨kb, rfl, nb⟩, vb⟩, zb⟩ := b
  have sub : ∀ {ka kb : List (Int × Int)}, (ka.map (·.1)).Nodup → (kb.map (·.1)).Nodup → (∀ j, (valV (iD ka) (Sum.inl j)).getD (.int 0) = .int (f j)) → (∀ j, (valV (iD kb) (Sum.inl j)).getD (.int 0) = .int (f j)) → (∀ k v, (k, v) ∈ iD ka → v ≠ .int 0) → ∀ c ∈ ka, c ∈ kb := by
    intro ka kb na nb va vb za c hc
    have h1 := iD_mem na (show (c.1, c.2) ∈ ka from hc)
    have h2 := va c.1
    rw [h1] at h2
    have h3 : c.2 = f c.1 := V.int.inj h2
    have h4 : c.2 ≠ 0 := fun z => za (Sum.inl c.1) (.int c.2) (List.mem_map.mpr ⟨c, hc, rfl⟩) (by rw [z])
    have h5 := vb c.1
    cases e : valV (iD kb) (Sum.inl c.1 : Key) with
    | none =>
      rw [e] at h5
      exact absurd (V.int.inj h5) (fun z => h4 (by rw [h3, ← z]))
    | some x =>
      rw [e] at h5
      obtain ⟨v, rfl, hm⟩ := iD_val e
      have h6 : v = f c.1 := V.int.inj h5
      rw [h6, ← h3] at hm
      exact hm
  refine ⟨ka, kb, rfl, rfl, ?_, sub na nb va vb za⟩
  have l1 := len_le (ka.map (·.1)) (kb.map (·.1)) na fun x hx => by
    obtain ⟨c, hc, rfl⟩ := List.mem_map.mp hx
    exact List.mem_map.mpr ⟨c, sub na nb va vb za c hc, rfl⟩
  have l2 := len_le (kb.map (·.1)) (ka.map (·.1)) nb fun x hx => by
    obtain ⟨c, hc, rfl⟩ := List.mem_map.mp hx
    exact List.mem_map.mpr ⟨c, sub nb na vb va zb c hc, rfl⟩
  rw [List.length_map, List.length_map] at l1 l2
  omega
/-- the pairs that are not nought -/
theorem NZ.filter {kvs : List (Int × Int)} {f : Int → Int} (r : Rep (iD kvs) f) (hn : (kvs.map (·.1)).Nodup) : NZ (iD (kvs.filter fun p => p.2 != 0)) f := by
  have hn' : ((kvs.filter fun p => p.2 != 0).map (·.1)).Nodup := hn.sublist (List.Sublist.map _ List.filter_sublist)
  refine ⟨⟨⟨_, rfl, hn'⟩, fun j => ?_⟩, fun k v h => ?_⟩
  · have h0 := r.val j
    cases e : valV (iD (kvs.filter fun p => p.2 != 0)) (Sum.inl j : Key) with
    | some x =>
      obtain ⟨v, rfl, hm⟩ := iD_val e
      have := (List.mem_filter.mp hm).1
      rw [iD_mem hn this] at h0
      exact h0
    | none =>
      cases e2 : valV (iD kvs) (Sum.inl j : Key) with
      | none => rw [e2] at h0; exact h0
      | some x =>
        obtain ⟨v, rfl, hm⟩ := iD_val e2
        rw [e2] at h0
        by_cases hv : v = 0
        · rw [hv] at h0
          exact h0
        · have := iD_mem hn' (j := j) (v := v) (List.mem_filter.mpr ⟨hm, by simpa using hv⟩)
          rw [e] at this
          cases this
  · obtain ⟨p, hp, e⟩ := List.mem_map.mp h
    have := (List.mem_filter.mp hp).2
    injection e with _ e
    rw [← e]
    intro z
    have := V.int.inj z
    simp_all
end L2


set_option Elab.async false
set_option linter.all false
set_option maxRecDepth 100000
set_option maxHeartbeats 4000000
namespace L2
open PySem PySem.Spec PyProof.Rows
section
variable {X : Cx}
end
end L2


set_option Elab.async false
set_option linter.all false
set_option maxRecDepth 100000
set_option maxHeartbeats 4000000
namespace L2
open PySem PySem.Spec PyProof.Rows
section
variable {X : Cx}
/-- t != u, two tuples of the same scalars -/
def rNeTp : R2 := fun x y H Q => EqT H x y ∧ Q (.bl false) H
theorem rcNT_at {pins : List (Addr × Obj)} {σ : St} {H : Hp} {s : Shared} {A : Around} (hu : A.units < cLine) (I : Inv X pins σ H s) {x y : V} {u v : Value} (h : EqT H x y) (ru : RelV x u) (rv : RelV y v) : SeqAt.RcNeAt A s u v false := by
  obtain ⟨p, q, xs, rfl, rfl, hp, hq, hs⟩ := h
  cases ru
  cases rv
  obtain ⟨_, i1, r1, t1⟩ := (show ObjOk X.prog X.w H s.heap p (.tup xs) from I.hok p _ hp)
  obtain ⟨_, i2, r2, t2⟩ := (show ObjOk X.prog X.w H s.heap q (.tup xs) from I.hok q _ hq)
  have l1 := r1.length
  have l2 := r2.length
  have key := SeqAt.RcNeAt.tuples (A := A) (s := s) (e := fun _ => true) t1 t2 hu fun j h1 h2 => by
    have j1 : j < xs.length := by simp at h1; omega
    have z1 : xs[j]? = some xs[j] := List.getElem?_eq_getElem j1
    obtain ⟨u1, w1, q1⟩ := r1.get z1
    obtain ⟨u2, w2, q2⟩ := r2.get z1
    have e1 : i1.toArray[j] = u1 := by
      have : i1[j]? = some i1[j] := List.getElem?_eq_getElem (by omega)
      rw [this] at w1
      simpa using w1
    have e2 : i2.toArray[j] = u2 := by
      have : i2[j]? = some i2[j] := List.getElem?_eq_getElem (by omega)
      rw [this] at w2
      simpa using w2
    rw [e1, e2]
    exact scal_at (hs _ (List.getElem_mem j1)) q1 q2
  rw [all_true] at key
  have e3 : (!(true && i1.toArray.size == i2.toArray.size)) = false := by simp; omega
  rw [e3] at key
  exact key
theorem op_neTp (hu : X.A.units < cLine) : OpR X (compareOp .NotEq) rNeTp := by
  intro pins s σ H x y v u Q I rx ry h
  obtain ⟨he, k⟩ := h
  have key := rcNT_at (A := X.A) hu I he rx ry
  exact key _ _ _ _ ⟨.bl false, H, I, rfl, k⟩
end
end L2


set_option Elab.async false
set_option linter.all false
set_option maxRecDepth 100000
set_option maxHeartbeats 4000000
namespace L2
open PySem PySem.W PySem.Spec PySem.Calls PyProof.Rows
/-! ### a heap with some of its objects taken away -/
def lessObj (S : List Addr) (i : Nat) (o : Obj) : Obj := if i ∈ S then { o with data := .freed } else o
def less (h : Heap) (S : List Addr) : Heap := { h with objs := h.objs.mapIdx (lessObj S) }
theorem less_in {h : Heap} {S : List Addr} {b : Addr} (hb : b ∈ S) : (less h S).get? b = none := by
  unfold Heap.get? less
  simp only [Array.getElem?_mapIdx]
  cases e : h.objs[b]? with
  | none => rfl
  | some o =>
    simp only [Option.map_some, lessObj, if_pos hb]
theorem less_out {h : Heap} {S : List Addr} {b : Addr} (hb : b ∉ S) : (less h S).get? b = h.get? b := by
  unfold Heap.get? less
  simp only [Array.getElem?_mapIdx]
  cases e : h.objs[b]? with
  | none => rfl
  | some o =>
    simp only [Option.map_some, lessObj, if_neg hb]
theorem less_stays {h : Heap} {S : List Addr} : (less h S).StaysIn h := fun b o e => by
  by_cases hb : b ∈ S
  · rw [less_in hb] at e; cases e
  · rwa [less_out hb] at e
theorem less_funs {h base : Heap} {S : List Addr} : ∀ {l : List Env}, h.FunFrames base l → (∀ b ∈ frs l, b ∈ S) → h.FunFrames (less h S) l
  | [], _, _ => trivial
  | env :: r, ⟨hk, ⟨L, o, hf, hn, ho, hd⟩, hr⟩, hs => by
    have e : frs (env :: r) = L :: frs r := by unfold frs; rw [List.filterMap_cons, hf]
    rw [e] at hs
    exact ⟨hk, ⟨L, o, hf, less_in (hs L (by simp)), ho, hd⟩, less_funs hr fun b hb => hs b (by simp [hb])⟩
/-! ### how an exception lies behind a call -/
theorem ObjOk.some_ {P : Program} {w : World} {H : Hp} {h : Heap} {a : Addr} {o : HO} (x : ObjOk P w H h a o) : ∃ u, h.get? a = some u := by
  cases o with
  | lst xs => obtain ⟨_, _, _, _, e⟩ := x; exact ⟨_, e⟩
  | tup xs => obtain ⟨_, _, _, ob, e, _⟩ := x; exact ⟨_, e⟩
  | dK kvs => obtain ⟨_, _, _, _, o, _, _, e, _⟩ := x; exact ⟨_, e⟩
  | dT kvs => obtain ⟨_, _, _, _, o, _, _, e, _⟩ := x; exact ⟨_, e⟩
  | set S n => obtain ⟨o, _, _, _, e, _⟩ := x; exact ⟨_, e⟩
  | ins C dx fs => obtain ⟨_, _, _, e, _⟩ := x; exact ⟨_, e⟩
  | own y => exact x
  | xd fs => obtain ⟨_, ⟨_, _, _, e, _⟩, _⟩ := x; exact ⟨_, e⟩
  | rng lo hi => obtain ⟨_, _, _, e⟩ := x; exact ⟨_, e⟩
  | frz ob u => obtain ⟨e, _⟩ := x; exact ⟨_, e⟩
  | tbl ps => exact ⟨_, (show h.get? a = some _ from x)⟩
  | met f y => exact ⟨_, (show h.get? a = some _ from x)⟩
  | ext φ => exact x.2.1
/-- it flies over B; B has all that stood at the call (but the callers' frames) and all that is tracked -/
def CX1 (P : Program) (w : World) : CXT := fun outer H s E e s' => ∃ (ea : Addr) (cls a0 : Value) (H' : Hp) (B : Heap), e = .ref ea ∧ B.FlyingW outer ea cls a0 s'.heap ∧
  (∀ b o, s.heap.get? b = some o → b ∉ frs outer → ∃ o', B.get? b = some o') ∧ (∀ b o, H' b = some o → ∃ o', B.get? b = some o') ∧
  s'.os = s.os ∧ AllBare s'.gens ∧ Un (frs outer) [] H H' s.heap s'.heap ∧ HOk P w H' s'.heap ∧ E cls none H'
/-- an own class of exceptions without an __init__ of its own, as the top has written it -/
structure XCls (K : PySem.W.Frag) (C : Addr) (bmB : List Value) (newId : String) : Prop where
  isIn : excIn K C bmB newId = true
theorem XCls.obj {K : PySem.W.Frag} {C : Addr} {bmB : List Value} {newId : String} {h₀ : Heap} (c : XCls K C bmB newId) (X : K.In h₀) : ∃ bm N nm q bs hdct sn sub ab col dd k0 k1 k2 k3 k5 mN,
      h₀.get? C = some (excClassObj nm q C N bs bm hdct sn sub ab col dd k0 k1 k2 k3 k5 newId) ∧ h₀.Ns N mN ∧ mN (Str.ofString "__init__") = none ∧ OwnTail h₀ bmB bm := by
  have q := c.isIn
  unfold excIn at q
  split at q
  · rename_i dd cd sl ho
    split at q
    · rename_i C' bm k0 k1 k2 k3 n k5 hm hs
      simp only [Bool.and_eq_true, beq_iff_eq, Bool.not_eq_true'] at q
      obtain ⟨⟨⟨⟨⟨rfl, rfl⟩, hdel⟩, ht⟩, hok⟩, hni⟩ := q
      obtain ⟨nm, bs, mro, ns, qn, hd, sn, sub, ab, col, del⟩ := cd
      dsimp only at hm hdel hok hni
      subst hm hdel
      have hsl : sl = #[k0, k1, k2, k3, some (.builtin n), k5] := by
        obtain ⟨l⟩ := sl
        simp only at hs
        rw [hs]
      subst hsl
      exact ⟨bm, ns, nm, qn, bs, hd, sn, sub, ab, col, dd, k0, k1, k2, k3, k5, _, X _ _ ho, .of_isNs (isNs_of_in X hok), nsMap_none_of_in X hok hni, tail_of_in X ht⟩
    · cases q
  · cases q
section
variable {P : Program} {w : World} {K : PySem.W.Frag} {mg : Str → Option Value} {base : Heap} {N : List Str} {qual : Str} {scope : Scope} {f : Addr} {cd : Value} {A : Around} {outer : List Env} {s₀ : Shared} {H₀ : Hp} {E : XK}
/-- raise C(), C an own class -/
theorem ps_raise0 {C : Addr} {bmB : List Value} {newId initId Bn : String} {x : Str} {np cpos pos : Pos} (c : XCls K C bmB newId) (FB : ExcBaseFacts Bn newId initId bmB) (hm : mg x = some (.ref C))
    (hg : Gl (cxOf (CX1 P w) P w K mg base N qual scope f cd A outer s₀ H₀ E) x) (hd : (x == ("__debug__" : Str)) = false := by decide) :
    PS (cxOf (CX1 P w) P w K mg base N qual scope f cd A outer s₀ H₀ E) (.Raise (some (.Call (.Name x np) [] [] cpos)) none pos) (fun _ _ H => E (.ref C) none H) := by
  intro pins s σ H D I h
  obtain ⟨bm, N', nm, q, bs, hdct, sn, sub, ab, col, dd, k0, k1, k2, k3, k5, mN, hC, hN, hni, T⟩ := c.obj I.mod.kin
  have bk := I.bk
  refine wpAny_Raise_call_subT (C := C) (nm := nm) (q := q) (N := N') (bs := bs) (bm := bm) (hdct := hdct) (sn := sn) (sub := sub) (ab := ab) (col := col) (dd := dd) (k0 := k0) (k1 := k1) (k2 := k2) (k3 := k3) (k5 := k5)
    FB (mN := mN) (T.hasType FB.hasBase) (I.ok.hd rfl) rfl hni (ld_glob I hg hm ⟨rfl, evalArgs_empty ⟨rfl, Nat.zero_le _, bk _ _ hC, hN.keeps bk, T.keeps bk, fun h' e made => ?_⟩⟩ hd)
  have stk : ∀ {b o}, s₀.heap.get? b = some o → b ∉ frs outer → b ∉ frs ((envOfC qual scope s₀.heap.objs.size f cd) :: outer) := fun {b o} hb nf hx => by
    rcases List.mem_cons.mp (I.stkSub b hx) with e | e
    · have h1 := Heap.lt_size hb
      have h2 : s₀.heap.objs.size ≤ (envOfC qual scope s₀.heap.objs.size f cd).locals := I.ok.above
      have e : b = (envOfC qual scope s₀.heap.objs.size f cd).locals := e
      rw [e] at h1
      exact absurd h1 (Nat.not_lt.mpr h2)
    · exact nf e
  refine wpAny_leaves_madeW (base := less s.heap (frs ((envOfC qual scope s₀.heap.objs.size f cd) :: outer))) (h := s.heap) (L := (envOfC qual scope s₀.heap.objs.size f cd).locals) I.ok.frames rfl less_stays (less_funs I.stack fun b h => h) made fun h'' t fly tup bt up => ?_
  have hk : ∀ {b o}, H b = some o → b ∉ frs ((envOfC qual scope s₀.heap.objs.size f cd) :: outer) := fun {b o} hb hx => by
    have := I.stkFree b hx
    rw [hb] at this
    cases this
  have stay : ∀ {b u}, b ∉ frs ((envOfC qual scope s₀.heap.objs.size f cd) :: outer) → s.heap.get? b = some u → h''.get? b = some u := fun {b u} hb hu => fly.1 b u (by rw [less_out hb]; exact hu)
  have ub : Un (frs outer) [] H₀ H s₀.heap s.heap := I.base
  have slots : ∀ b o, s₀.heap.get? b = some o → H₀ b = none → b ∈ frs outer → ∃ sl, h''.get? b = some { o with slots := sl } := fun b o e n hb => by
    obtain ⟨sl, e1⟩ := ub.slot b o e n hb (by simp)
    obtain ⟨_, o2, e2, nf⟩ := I.funs.mem hb
    rw [e1] at e2
    cases e2
    obtain ⟨sl', e3⟩ := up b _ (made.keeps _ _ e1) nf
    exact ⟨sl', e3⟩
  refine ⟨e, .ref C, .ref t, H, _, rfl, fly, fun b o hb nf => ?_, fun b o hb => ?_, I.os, I.bare, ⟨fun b o e n nf nx => stay (stk e nf) (ub.keep b o e n nf nx), fun b o e n hb _ => slots b o e n hb, ub.free, fun b o e nx => ?_, ub.tups, ub.frzs, ub.tbls⟩, fun a o e => (I.hok a o e).stay (fun b u hc q => ?_) (fun _ q => q) (fun _ _ q => q), h⟩
  · obtain ⟨o', e'⟩ := ub.there b o hb (by simp)
    exact ⟨o', by rw [less_out (stk hb nf)]; exact e'⟩
  · obtain ⟨o', e'⟩ := (I.hok b o hb).some_
    exact ⟨o', by rw [less_out (hk hb)]; exact e'⟩
  · by_cases hb : b ∈ frs outer
    · obtain ⟨_, o2, e2, nf⟩ := I.funs.mem hb
      obtain ⟨sl', e3⟩ := up b _ (made.keeps _ _ e2) nf
      exact ⟨_, e3⟩
    · obtain ⟨o', e'⟩ := ub.there b o e nx
      exact ⟨o', stay (stk e hb) e'⟩
  · rcases hc with rfl | hc
    · exact stay (hk e) q
    · exact stay (hk hc) q
end
end L2


set_option Elab.async false
set_option linter.all false
set_option maxRecDepth 100000
set_option maxHeartbeats 4000000
namespace L2
open PySem PySem.W PySem.Spec PySem.Calls PyProof.Rows
/-- a def by its body, exceptions and all -/
theorem Fun.okX {P : Program} {w : World} {K : PySem.W.Frag} {mg : Str → Option Value} {base : Heap} {CX : CXT} {x qual : Str} {st : Stmt} {f : Addr} {fd : FuncData} {N ps : List Str} {k : Nat} {sp : Sp} (F : Fun K x qual st f fd) (S : FnScope N ps (defScope st)) (len : ∀ vs H Q E, sp vs H Q E → vs.length = ps.length)
    (hbody : ∀ (cdv : Value) (A : Around) (outer : List Env) (s : Shared) (H : Hp) (vs : List V) (Q : VK) (E : XK), Room k (A.deeper (envOfC qual (defScope st) s.heap.objs.size f cdv)) → sp vs H Q E →
      ∃ t, PSs (cxOf CX P w K mg base N qual (defScope st) f cdv A outer s H E) (defBody st) t ∧ t { nx := fun _ H' => Q .non H', rt := Q } (start N vs) H) : FnOk P w K mg base CX (k + 1) f fd ps sp := by
  obtain ⟨oc, od, kV, doc, pm, an, cdv, ct, osl, rfl, lk, hcd⟩ := F.ex
  exact fn_of lk hcd S len fun A outer s H vs Q E hr hsp => hbody cdv A outer s H vs Q E hr hsp
section
variable {X : Cx} {pins : List (Addr × Obj)} {σ : St}
/-- try, nothing raised -/
theorem ps_try0 {body : List Stmt} {h₀ : ExceptHandler} {hs : List ExceptHandler} {pos : Pos} {t : TS} (hb : PSs X.nox body t) : PS X (.Try body (h₀ :: hs) [] [] pos) t := by
  intro pins s σ H D I h
  refine wpAny_Try_except (wpAny_mono (hb pins s σ H D (I.wish _) h) (fun fl s1 q => ?_) fun _ _ z => False.elim z)
  have q := q.unwish
  cases fl with
  | next => exact wpAny_execs_nil q
  | ret v => exact q
  | brk => exact q
  | cont => exact q
/-- what flies stands apart from B: over another heap -/
theorem fly_less {B h : Heap} {l : List Env} {ea : Addr} {cls a0 : Value} (fly : B.FlyingW l ea cls a0 h) : ∃ T, B.get? ea = none ∧ B.get? T = none ∧ (less h (frs l ++ [ea, T])).FlyingW l ea cls a0 h := by
  obtain ⟨f1, f2, f3, oe, vs, T, oT, ts, g1, g2, g3, g4, g5, g6, g7, g8, g9⟩ := fly
  exact ⟨T, f2, g5, less_stays, less_in (by simp), less_funs f3 (fun b hb => by simp [hb]), oe, vs, T, oT, ts, g1, g2, g3, g4, less_in (by simp), g6, g7, g8, g9⟩
/-- an exception of a callee has come to the body's try: it lands -/
theorem caught {H : Hp} {s s' : Shared} {e : Value} {E : XK} {L : Addr} {hs : List ExceptHandler} {Q : Flow → Shared → Prop} {XE : Value → Shared → Prop} (I : Inv X pins σ H s) (hst : X.stack = X.env :: X.outer) (hL : X.env.frame = some L) (cx : CX1 X.prog X.w X.stack H s E e s')
    (k : ∀ (ea : Addr) (cls a0 : Value) (H' : Hp) (B : Heap) (s2 : Shared), e = .ref ea → E cls none H' → Inv X pins σ H' s2 → B.FlyingW X.stack ea cls a0 s2.heap → (∀ b o, H' b = some o → ∃ o', B.get? b = some o') → (∀ b o, s.heap.get? b = some o → b ∉ frs X.stack → ∃ o', B.get? b = some o') →
      (∀ h6, B.FlyingW X.stack ea cls a0 h6 → s2.heap.UpToSlots h6 → Inv X pins σ H' { s2 with heap := h6 }) → wpAny (model X.prog X.w) X.A (handleBy e X.env hs) Q XE s2) :
    wpAny (model X.prog X.w) X.A (noteFrame e X.env) (fun _ s2 => wpAny (model X.prog X.w) X.A (setFlight e none) (fun _ s3 => wpAny (model X.prog X.w) X.A (handleBy e X.env hs) Q XE s3) XE s2) XE s' := by
  obtain ⟨ea, cls, a0, H', B, rfl, fly, hB, hH, os, bare, un, hok, hE⟩ := cx
  obtain ⟨T, be, bT, fly2⟩ := fly_less fly
  have fly2' := fly2
  rw [hst] at fly2'
  have apart : ∀ {b o}, B.get? b = some o → b ∉ frs X.stack → b ∉ frs X.stack ++ [ea, T] := fun {b o} hb nf hx => by
    rcases List.mem_append.mp hx with h | h
    · exact nf h
    · rcases (show b = ea ∨ b = T by simpa using h) with rfl | rfl
      · rw [be] at hb; cases hb
      · rw [bT] at hb; cases hb
  have fr' : ∀ b ∈ frs X.stack, H' b = none := fun b hb => by
    obtain ⟨_, o, ho, _⟩ := I.stack.mem hb
    exact un.free b o ho (I.stkFree b hb) (by simp)
  refine wpAny_looks_onW (base := less s'.heap (frs (X.env :: X.outer) ++ [ea, T])) (by rw [I.ok.frames, hst]) hL (by rw [← hst] at fly2' ⊢; exact fly2') fun h4 held4 up4 => ?_
  refine wpAny_landsW held4 fun h5 fly5 up5 => ?_
  have up := up4.trans up5
  rw [← hst] at fly5
  have kH : ∀ {b o}, H' b = some o → b ∉ frs X.stack ++ [ea, T] := fun {b o} hb => by
    obtain ⟨o', h1⟩ := hH b o hb
    exact apart h1 fun z => by rw [fr' b z] at hb; cases hb
  have inv : ∀ h5, (less s'.heap (frs X.stack ++ [ea, T])).FlyingW X.stack ea cls a0 h5 → s'.heap.UpToSlots h5 → Inv X pins σ H' { s' with heap := h5 } := fun h5 fly5 up => by
    have stay : ∀ {b u}, b ∉ frs X.stack ++ [ea, T] → s'.heap.get? b = some u → h5.get? b = some u := fun {b u} hb hu => fly5.1 b u (by rw [less_out hb]; exact hu)
    have up1 : ∀ b o, s'.heap.get? b = some o → b ∈ frs X.stack → ∃ sl, h5.get? b = some { o with slots := sl } := fun b o ho hb => by
      obtain ⟨_, o2, e2, nf⟩ := fly.2.2.1.mem hb
      rw [ho] at e2
      cases e2
      exact up b o ho nf
    have un5 : Un (frs X.stack) [] H H' s.heap h5 := by
      refine ⟨fun b o e n nf nx => ?_, fun b o e n hb nx => ?_, un.free, fun b o e nx => ?_, un.tups, un.frzs, un.tbls⟩
      · obtain ⟨o', hb⟩ := hB b o e nf
        exact stay (apart hb nf) (un.keep b o e n nf nx)
      · obtain ⟨sl, e1⟩ := un.slot b o e n hb nx
        obtain ⟨sl', e2⟩ := up1 b _ e1 hb
        exact ⟨sl', e2⟩
      · obtain ⟨o', e1⟩ := un.there b o e nx
        by_cases hb : b ∈ frs X.stack
        · obtain ⟨sl', e2⟩ := up1 b _ e1 hb
          exact ⟨_, e2⟩
        · obtain ⟨o2, h2⟩ := hB b o e hb
          exact ⟨o', stay (apart h2 hb) e1⟩
    have hok5 : HOk X.prog X.w H' h5 := fun a o e => (hok a o e).stay (fun b u hc q => by
      rcases hc with rfl | hc
      · exact stay (kH e) q
      · exact stay (kH hc) q) (fun _ q => q) fun _ _ q => q
    exact I.call' (s' := { s' with heap := h5 }) (ch := []) os un5 hok5 bare (fun b z => absurd z (by simp))
  refine k ea cls a0 H' (less s'.heap (frs X.stack ++ [ea, T])) _ rfl hE (inv h5 fly5 up) fly5 (fun b o hb => ?_) (fun b o hb nf => ?_) (fun h6 f6 u6 => inv h6 f6 (up.trans u6))
  · obtain ⟨u, hu⟩ := (hok b o hb).some_
    exact ⟨u, by rw [less_out (kH hb)]; exact hu⟩
  · obtain ⟨o2, h2⟩ := hB b o hb nf
    obtain ⟨o', e1⟩ := un.there b o hb (by simp)
    exact ⟨o', by rw [less_out (apart h2 nf)]; exact e1⟩
end
end L2


set_option Elab.async false
set_option linter.all false
set_option maxRecDepth 100000
set_option maxHeartbeats 4000000
namespace L2
open PySem PySem.W PySem.Spec PySem.Calls PyProof.Rows
section
variable {X : Cx} {pins : List (Addr × Obj)} {σ : St} {H : Hp} {s : Shared}
/-- a name is taken away again (behind an except suite) -/
theorem forget_ok {M : Model} {A : Around} {E : Value → Shared → Prop} {i : Nat} {x : Str} {pos : Pos} {Q : Unit → Shared → Prop} (I : Inv X pins σ H s) (hN : X.N.Nodup) (hi : X.N[i]? = some x) (hk : X.env.kindOf x = some .local)
    (h : ∀ s', Inv X pins (σ.set i none) H s' → Q () s') : wpAny M A (do bindName X.env x .none; unbindBehindTheSuite X.env x pos) Q E s := by
  obtain ⟨m, hn, hl⟩ := id I.loc
  have hcls : (X.env.scope.kind == .class || (X.env.scope.kind == .module && X.env.locals != X.env.globals)) = false := by rw [I.ok.kind]; rfl
  have hiσ : i < σ.length := by rw [I.len]; exact (List.getElem?_eq_some_iff.mp hi).1
  have cne := I.cne
  have tracked : ∀ {a : Addr} {h' : Heap}, (∃ o, s.heap.get? a = some o ∧ H a = none) → Heap.SameBut a s.heap h' → HOk X.prog X.w H h' := fun {a h'} ha hs b ob e => by
    obtain ⟨_, _, hfree⟩ := ha
    refine (I.hok b ob e).stay (fun c w' hc q => (hs.2 c ?_).trans q) (fun _ q => q) fun _ _ q => q
    rintro rfl
    rcases hc with rfl | hc
    · rw [hfree] at e; cases e
    · rw [hfree] at hc; cases hc
  refine wpAny_nameGoes_keeps hk hn hcls fun h' v hn' hs => ?_
  obtain ⟨oL, _, _, hoL, _⟩ := id hn
  refine h _ ⟨I.ok, I.os, I.bare, ⟨fun b o e n hb hx => ?_, fun b o e n hb hx => ?_, I.base.free, fun b o e hx => ?_, I.base.tups, I.base.frzs, I.base.tbls⟩, ⟨_, hn', fun j y v' e1 e2 e3 => ?_⟩, fun y c e => ?_, I.free, I.freeC, fun p hp => ?_, tracked ⟨oL, hoL, I.free⟩ hs, by simpa using I.len⟩
  · exact (hs.2 b (Nat.ne_of_lt (Nat.lt_of_lt_of_le (Heap.lt_size e) I.ok.above))).trans (I.base.keep b o e n hb hx)
  · obtain ⟨sl, e1⟩ := I.base.slot b o e n hb hx
    exact ⟨sl, (hs.2 b (Nat.ne_of_lt (Nat.lt_of_lt_of_le (Heap.lt_size e) I.ok.above))).trans e1⟩
  · obtain ⟨o', e1⟩ := I.base.there b o e hx
    exact ⟨o', (hs.2 b (Nat.ne_of_lt (Nat.lt_of_lt_of_le (Heap.lt_size e) I.ok.above))).trans e1⟩
  · by_cases hj : j = i
    · subst hj
      rw [List.getElem?_set_self hiσ] at e2
      cases e2
    · rw [List.getElem?_set_ne (Ne.symm hj)] at e2
      obtain ⟨u', r', q⟩ := hl j y v' e1 e2 e3
      refine ⟨u', r', ?_⟩
      rcases q with ⟨k, e⟩ | ⟨k, c, e, z⟩
      · refine .inl ⟨k, ?_⟩
        have : y ≠ x := fun e => hj (nodup_ix hN e1 (e ▸ hi))
        simp [this, e]
      · exact .inr ⟨k, c, e, z.sameBut hs (cne y c e)⟩
  · obtain ⟨w', z⟩ := I.cell y c e
    exact ⟨w', z.sameBut hs (cne y c e)⟩
  · obtain ⟨e, n, ne, nf, d⟩ := I.pin p hp
    exact ⟨(hs.2 p.1 ne).trans e, n, ne, nf, d⟩
/-- within an except suite, the exception at ea -/
abbrev Cx.inSuite (X : Cx) (ea : Addr) : Cx := { X with A := X.A.mark (some (.ref ea)), calm := false, xe := fun _ _ => False }
theorem Inv.suite (I : Inv X pins σ H s) (ea : Addr) : Inv (X.inSuite ea) pins σ H s :=
  ⟨⟨I.ok.mod, I.ok.kind, I.ok.glob, I.ok.blt, I.ok.above, I.ok.inj, I.ok.has, I.ok.cab, (fun z => by cases z), I.ok.frames, I.ok.stk, I.ok.exf, I.ok.bs, I.ok.bsz, I.ok.noex, I.ok.exfs, I.ok.funs, I.ok.frf⟩, I.os, I.bare, I.base, I.loc, I.cell, I.free, I.freeC, I.pin, I.hok, I.len⟩
theorem Inv.unsuite {ea : Addr} (ok : X.Ok) (I : Inv (X.inSuite ea) pins σ H s) : Inv X pins σ H s := ⟨ok, I.os, I.bare, I.base, I.loc, I.cell, I.free, I.freeC, I.pin, I.hok, I.len⟩
/-- an exception's object, of the class cls -/
def excO (ea : Addr) (cls : Value) : HO := .ext fun h => ∃ o, h.get? ea = some o ∧ o.cls = cls
theorem Inv.track {ea : Addr} {cls : Value} (I : Inv X pins σ H s) (hn : H ea = none) (hs₀ : X.s₀.heap.get? ea = none) (hne : ea ≠ X.env.locals) (hc : ∀ x c, X.env.cells.lookup x = some c → c ≠ ea) (hp : ∀ p ∈ X.pn ++ pins, p.1 ≠ ea) (ho : ∃ o, s.heap.get? ea = some o ∧ o.cls = cls) :
    Inv X pins σ (upd H ea (excO ea cls)) s := by
  have ne : ∀ {b}, b ≠ ea → upd H ea (excO ea cls) b = H b := fun h => upd_ne h
  have old : ∀ {b o}, X.s₀.heap.get? b = some o → b ≠ ea := fun {b o} h z => by rw [z, hs₀] at h; cases h
  refine ⟨I.ok, I.os, I.bare, ⟨I.base.keep, I.base.slot, fun b o e n hx => ?_, I.base.there, fun b xs e => ?_, fun b o u e => ?_, fun b ps e => ?_⟩, I.loc, I.cell, ?_, fun x c e => ?_, fun p hp' => ?_, fun b o e => ?_, I.len⟩
  · rw [ne (old e)]; exact I.base.free b o e n hx
  · have := I.base.tups b xs e
    rw [ne (ne_of_none this hn)]; exact this
  · have := I.base.frzs b o u e
    rw [ne (ne_of_none this hn)]; exact this
  · obtain ⟨more, this⟩ := I.base.tbls b ps e
    exact ⟨more, by rw [ne (ne_of_none this hn)]; exact this⟩
  · rw [ne hne.symm]; exact I.free
  · rw [ne (hc x c e)]; exact I.freeC x c e
  · obtain ⟨a1, a2, a3⟩ := I.pin p hp'
    exact ⟨a1, by rw [ne (hp p hp')]; exact a2, a3⟩
  · by_cases hb : b = ea
    · subst hb
      rw [upd_same] at e
      cases e
      obtain ⟨o, h1, h2⟩ := ho
      exact ⟨⟨o, h1, h2⟩, ⟨o, h1⟩, fun h1 h2 ⟨o, a, b⟩ k => ⟨o, k o a, b⟩⟩
    · rw [ne hb] at e
      exact (I.hok b o e).stay (fun c u _ q => q) (fun c q => by rw [ne (ne_of_none q hn)]; exact q) (fun c xs q => by rw [ne (ne_of_none q hn)]; exact q)
end
end L2


set_option Elab.async false
set_option linter.all false
set_option maxRecDepth 100000
set_option maxHeartbeats 4000000
namespace L2
open PySem PySem.W PySem.Spec PySem.Calls PyProof.Rows
/-- the ends of an except suite: the name at i goes -/
def Ends.less (D : Ends) (i : Nat) : Ends := { nx := fun σ H => D.nx (σ.set i none) H, rt := D.rt, bk := fun σ H => D.bk (σ.set i none) H, ct := fun σ H => D.ct (σ.set i none) H }
/-- try: o.m() except cR as n: .. -/
def tTryM (K : PySem.W.Frag) (C : Addr) (m : Str) (sp : Sp) (dvs : List V) (ta : TE) (i : Nat) (cR : Value) (ts : TS) : TS := fun D σ H => ta σ H fun x H1 => ∃ a dx fs, x = .ref a ∧ H1 a = some (.ins C dx fs) ∧ fs.lookup m = none ∧
  sp (.ref a :: dvs) H1 (fun _ H2 => D.nx σ H2) fun cls _ H2 => exmOne K cls cR = some true ∧ ∀ ea, H2 ea = none → ts (D.less i) (σ.set i (some (.ref ea))) (upd H2 ea (excO ea cls))
section
variable {X : Cx} {k : Nat} {f C cR : Addr} {fd : FuncData} {ps : List Str} {sp : Sp} {dvs : List V} {ds : List Value} {x m n : Str} {np pos apos p2 p3 p4 : Pos} {o : Expr} {ta : TE} {ts : TS} {i : Nat} {b₀ : Stmt} {suite : List Stmt} {L : Addr}
theorem run_fnX {pins : List (Addr × Obj)} {σ : St} {H : Hp} {s : Shared} {Q : VK} {E : XK} {us : List Value} {vs : List V} {XE : Value → Shared → Prop} (F : FnOk X.prog X.w X.K X.mg X.base (CX1 X.prog X.w) k f fd ps sp) (hr : Room k X.A) (hb : Binds X.K fd ps ds) (hd : Vals dvs ds)
    (I : Inv X pins σ H s) (r : Vals vs us) (h : sp (vs ++ dvs) H Q E) (hx : ∀ e s', CX1 X.prog X.w X.stack H s E e s' → XE e s') : wpAny (model X.prog X.w) X.A (call (.ref f) us) (EP X pins σ Q) XE s := by
  have r2 : Vals (vs ++ dvs) (us ++ ds) := r.append hd
  have hl : (us ++ ds).length = ps.length := by rw [← r2.length]; exact F.len _ _ _ _ h
  refine wpAny_call (codeAny_mono (F.run X.A X.stack s H ⟨us, []⟩ (us ++ ds) (vs ++ dvs) Q E hr I.env0 (hb s us I.kIn hl) r2 h) fun r s' hq => ?_)
  cases r with
  | error e => exact hx e s' hq
  | ok fl =>
    cases fl with
    | ret u => exact I.after hq
    | next => exact False.elim hq
    | brk => exact False.elim hq
    | cont => exact False.elim hq
theorem ps_tryM {pl : Sem Bool} (he : PE X.nox o ta) (c : Cls X.K C) (hm : Meth X.K C m f) (F : FnOk X.prog X.w X.K X.mg X.base (CX1 X.prog X.w) k f fd ps sp) (hr : Room k X.A) (hb : Binds X.K fd ps ds) (hd : Vals dvs ds)
    (hst : X.stack = X.env :: X.outer) (hL : X.env.frame = some L) (hLl : X.env.locals = L) (hex : X.ex = []) (hg : Gl X x) (hmg : X.mg x = some (.ref cR)) (hN : X.N.Nodup) (hi : X.N[i]? = some n) (hn : X.env.kindOf n = some .local)
    (hs : ∀ ea, PSs (X.inSuite ea) (b₀ :: suite) ts)
    (ht : eval (.Call (.Attribute o m apos) [] [] pos) X.env = (do
      let ov ← eval o X.env
      standAt apos.atName
      let (f, first) ← holding [ov] (getMethod ov m pl)
      callWith pos f first (backTo pos (starEach [] X.env)) (backToKw pos (keywordEach [] X.env))) := by rfl)
    (hsw : swapsWith (.Call (.Attribute o m apos) [] [] pos) none p2.line X.env = pure false := by rfl) (hdb : (x == ("__debug__" : Str)) = false := by decide) :
    PS X (.Try [.Expr (.Call (.Attribute o m apos) [] [] pos) p2] [.ExceptHandler (some (.Name x np)) (some n) (b₀ :: suite) p3] [] [] p4) (tTryM X.K C m sp dvs ta i (.ref cR) ts) := by
  intro pins s σ H D I h
  refine wpAny_Try_except (wpAny_execs_cons (wpAny_Expr_any (?_) I.quiet hsw))
  refine PySem.W.methodCall_KW (pl := pl) (wpAny_mono (he pins s σ H _ (I.wish _) h) (fun u s1 hu => ?_) fun _ _ z => False.elim z) ht
  obtain ⟨xv, H1, I1', rx, a, dx, fs, ex, ea, l, q⟩ := hu
  have I1 : Inv X pins σ H1 s1 := I1'.unwish
  subst ex
  obtain rfl : u = Value.ref a := rx
  refine getmeth_ok I1 ea c hm l ?_
  refine PySem.W.callWith_K0 (first := [.ref a]) I1.kIn hm.kp (wpAny_mono (run_fnX (us := [.ref a]) (vs := [.ref a]) F hr hb hd I1 (.cons rfl .nil) q fun e s' cx => ?_) (fun v s2 hv => ?_) fun e s' hx => hx)
  · -- it was raised
    refine caught I1 hst hL cx fun ex cls a0 H' B s2 ee hE I2 fly hH hB again => ?_
    subst ee
    obtain ⟨hcls, hsuite⟩ := hE
    obtain ⟨oe, vs, T, oT, tss, g1, g2, g3, g4, g5, g6, g7, g8, g9⟩ := fly.2.2.2
    have nfr : ex ∉ frs X.stack := fun z => by
      obtain ⟨_, o2, e2, nf⟩ := fly.2.2.1.mem z
      rw [g1] at e2
      cases e2
      exact nf _ g3
    have apart : ∀ {b o}, s1.heap.get? b = some o → b ≠ ex := fun {b o} hb z => by
      subst z
      obtain ⟨o', h'⟩ := hB b o hb nfr
      rw [fly.2.1] at h'
      cases h'
    have hnone : H' ex = none := by
      cases e : H' ex with
      | none => rfl
      | some o' =>
        obtain ⟨o2, h2⟩ := hH ex o' e
        rw [fly.2.1] at h2
        cases h2
    have IS := I2.suite ex
    refine wpAny_handleBy_cons (codeAny_handlers_test (ld_glob IS hg hmg ?_ hdb)) (by intro z; cases z)
    have LT : Looks (model X.prog X.w) s2.heap (typeOf (.ref ex)) cls := by
      have this : Looks (model X.prog X.w) s2.heap (typeOf (.ref ex)) oe.cls := (Looks.ld g1).andThen .now
      rw [g2.1] at this
      exact this
    refine (exm_one I2.kIn LT hcls).here ?_
    refine codeAny_handlers_suite_as (lands_againW fly fun h6 fly6 up6 => ?_)
    have I6 := again h6 fly6 up6
    obtain ⟨oe6, vs6, T6, oT6, ts6, k1, k2, _⟩ := fly6.2.2.2
    have I7 := I6.track (cls := cls) hnone (by
      cases e : X.s₀.heap.get? ex with
      | none => rfl
      | some o' =>
        obtain ⟨o2, h2⟩ := I1.base.there ex o' e (by rw [hex]; simp)
        exact absurd rfl (apart h2)) (fun z => nfr (by
          rw [hst, z, hLl]
          unfold frs
          rw [List.filterMap_cons, hL]
          simp)) (fun y c e => by
        obtain ⟨v, oc, hc, _⟩ := I1.cell y c e
        exact apart hc) (fun p hp => apart (I1.pin p hp).1) ⟨oe6, k1, k2.1⟩
    refine store_ok I7 hN hi (.inl hn) (v := .ref ex) (u := .ref ex) rfl (fun s8 I8 => ?_) (.inr hn)
    refine wpAny_mono (hs ex pins s8 _ _ _ (I8.suite ex) (hsuite ex hnone)) (fun fl s9 q9 => ?_) fun _ _ z => False.elim z
    show wpAny _ _ _ _ _ _
    cases fl with
    | next =>
      obtain ⟨σ9, H9, I9, q⟩ := q9
      exact forget_ok (I9.unsuite I.ok) hN hi hn fun s10 I10 => ⟨_, H9, I10, q⟩
    | brk =>
      obtain ⟨σ9, H9, I9, q⟩ := q9
      exact forget_ok (I9.unsuite I.ok) hN hi hn fun s10 I10 => ⟨_, H9, I10, q⟩
    | cont =>
      obtain ⟨σ9, H9, I9, q⟩ := q9
      exact forget_ok (I9.unsuite I.ok) hN hi hn fun s10 I10 => ⟨_, H9, I10, q⟩
    | ret u =>
      obtain ⟨v, σ9, H9, I9, r, q⟩ := q9
      exact forget_ok (I9.unsuite I.ok) hN hi hn fun s10 I10 => ⟨v, _, H9, I10, r, q⟩
  · -- nothing was raised
    obtain ⟨v', H2, I2, r2, q2⟩ := hv
    exact wpAny_execs_nil (wpAny_execs_nil ⟨σ, H2, I2, q2⟩)
end
end L2


set_option Elab.async false
set_option linter.all false
set_option maxRecDepth 100000
set_option maxHeartbeats 4000000
namespace L2
open PySem PySem.W PySem.Spec PySem.Calls PyProof.Rows PySem.Builtin PySem.Builtin.ObjectAttr PySem.Builtin.Getset_descriptor
section
variable {prog : Program} {w : World} {A : Around} {E : Value → Shared → Prop} {s : Shared} {K : PySem.W.Frag} {x C : Addr}
theorem class_getL {R : Result → Shared → Prop} {tp : Value} (X : K.In s.heap) (L0 : Looks (model prog w) s.heap (typeOf (.ref x)) (.ref C)) (hm : mroIn K C (.type "object") = some true)
    (h : R (.ok (.ret (.ref C))) s) : codeAny (model prog w) A (.call (.builtin "getset_descriptor.__get__") ⟨[.builtin "object.__class__", .ref x, tp], []⟩) R s := by
  obtain ⟨hh, g, dr, t, os⟩ := s
  have L1 := looks_mroIn (M := model prog w) X hm
  refine codeAny_call_builtin KF.slot_gs.plain KF.entry_gs (KF.slot_gs.check _ _ _ _ _ _ _ _ KF.type_class (KF.args_gs _ _ _) ?_)
  unfold Builtin.«getset_descriptor.__get__» descrGet
  rw [dga_obj]
  refine wpAny_bind (wpAny_pure ?_)
  unfold descrGetter descrCheckInstance descrNameAndClass isInstance
  simp only [KF.owner_class]
  repeat lk
  refine ⟨Code.quiet_builtin _ (by decide +kernel), codeAny_builtin KF.entry_class ?_⟩
  unfold Builtin.«object.__class__» shownTypeOf
  repeat lk
  exact h
/-- what the top tells of a class of exceptions, for reading __class__ -/
structure XRead (K : PySem.W.Frag) (C : Addr) : Prop where
  ga : findIn K (.ref C) "__getattribute__" = some (some (.builtin "BaseException.__getattribute__"))
  gh : findIn K (.ref C) "__getattr__" = some none
  cl : findIn K (.ref C) "__class__" = some (some (.builtin "object.__class__"))
  gt : specialIn K (.builtin "object.__class__") "__get__" = some (some (.builtin "getset_descriptor.__get__"))
  tk : takesIn K (.builtin "object.__class__") = some true
  ob : mroIn K C (.type "object") = some true
  bx : mroIn K C (.type "BaseException") = some true
  ci : (clsIn K C).isSome = true
theorem looks_findD {M : Model} {h : Heap} (X : K.In h) {self : Value} {name : Str} {a g : Value} (ha : findIn K (.ref C) name = some (some a)) (hg : specialIn K a "__get__" = some (some g)) (ht : takesIn K a = some true) : Looks M h (find self (.ref C) name) (.bind g a) := by
  have L1 := looks_findIn (M := M) X ha
  have L2 : Looks M h (getOf (some a)) (some g) := looks_specialIn X hg
  have L3 := looks_takesIn (M := M) X ht
  exact L1.andThen (L2.andThen ((show Looks M h (dataDescriptor? (some a) (some g)) (some (g, a)) from L3.andThen .now).andThen (Looks.tag .now)))
theorem check_exc {M : Model} {nameV : Value} {Q : Unit → Shared → Prop} (L0 : Looks M s.heap (typeOf (.ref x)) (.ref C)) (L3 : Looks M s.heap (isSubtype (.ref C) (.type "BaseException")) true) (hq : Q () s) : wpAny M A (checkBuiltinCall "BaseException.__getattribute__" ⟨[.ref x, nameV], []⟩) Q E s := by
  have hk : builtinKind "BaseException.__getattribute__" = some .slot := by decide +kernel
  have hsplit : splitId "BaseException.__getattribute__" = some ("BaseException", "__getattribute__") := by decide +kernel
  have ha := F.args_bexc_ga (.ref x) nameV
  obtain ⟨hh, g, d, t, os⟩ := s
  simp only [checkBuiltinCall, hk, hsplit]
  refine wpAny_bind ?_
  · unfold isInstance
    repeat (first | lk | wp_step)
    exact hq
theorem entry_exc {Q : Fin → Shared → Prop} {tk : Tok} (X : K.In s.heap) (R : XRead K C) (L0 : Looks (model prog w) s.heap (typeOf (.ref x)) (.ref C)) (hq : Q (.done (.ret (.ref C))) s) : wpAny (model prog w) A (Builtin.«object.__getattribute__» ⟨[.ref x, .str "__class__" tk], []⟩) Q E s := by
  have L4 := looks_findD (M := model prog w) X (self := .ref x) R.cl R.gt R.tk
  have hc := fun (R' : Result → Shared → Prop) (h : R' (.ok (.ret (.ref C))) s) => class_getL (prog := prog) (w := w) (A := A) (tp := .ref C) X L0 R.ob h
  unfold Builtin.«object.__getattribute__»
  refine wpAny_bind (wpAny_pure (wpAny_bind (wpAny_pure (wpAny_bind (L0.here (wpAny_bind (L4.here ?_)))))))
  show wpAny _ _ (bindTo _ _ _ _) _ _ _
  unfold bindTo
  dsimp only
  first
    | exact wpAny_bind (wpAny_holding (wpAny_call (hc _ (wpAny_pure hq))))
    | exact wpAny_bind (wpAny_call (hc _ (wpAny_pure hq)))
    | exact wpAny_bind (wpAny_bind (wpAny_holding (wpAny_call (hc _ (wpAny_pure hq)))))
/-- e.__class__ as isinstance reads it -/
theorem exc_class {Q : Option Value → Shared → Prop} {Bn : String} (FB : ExcAttrFacts Bn) (X : K.In s.heap) (R : XRead K C) (L0 : Looks (model prog w) s.heap (typeOf (.ref x)) (.ref C)) (h : Q (some (.ref C)) { s with toks := s.toks + 1 }) : wpAny (model prog w) A (getAttr? (.ref x) "__class__") Q E s := by
  obtain ⟨hh, g, d, t, os⟩ := s
  have L1 := looks_findIn (M := model prog w) X R.ga
  have L2 := looks_findIn (M := model prog w) X R.gh
  have L3 := looks_mroIn (M := model prog w) X R.bx
  have L4 := looks_findD (M := model prog w) X (self := .ref x) R.cl R.gt R.tk
  have hk : builtinKind "BaseException.__getattribute__" = some .slot := by decide +kernel
  have hsplit : splitId "BaseException.__getattribute__" = some ("BaseException", "__getattribute__") := by decide +kernel
  unfold getAttr? getAttrBy? getAttrBy
  refine wpAny_bind (wpAny_mkText (wpAny_bind (wpAny_attempt (wpAny_holding (wpAny_bind (L0.at (wpAny_bind (L1.at ?_))))))))
  show wpAny _ _ (getAttrByItsOwn _ _ _ _ _ _) _ _ _
  unfold getAttrByItsOwn hookBefore
  rw [if_pos (show onTheHeap (Value.ref C) = true from rfl)]
  refine wpAny_bind (L2.at (wpAny_bind (wpAny_attempt (wpAny_holding ?_))))
  unfold callGetattribute
  rw [if_neg (show ¬ (false && onTheHeap (Value.builtin "BaseException.__getattribute__")) = true from by decide)]
  unfold boundAndCalled
  rw [FB.ga.bind (.ref x)]
  refine wpAny_bind (wpAny_pure (wpAny_call ?_))
  refine codeAny_call_builtin FB.ga.plain F.entry_bexc_ga ?_
  refine check_exc L0 L3 (entry_exc X R L0 ?_)
  exact wpAny_pure (wpAny_pure h)
end
end L2


set_option Elab.async false
set_option linter.all false
set_option maxRecDepth 100000
set_option maxHeartbeats 4000000
namespace L2
open PySem PySem.W PySem.Spec PySem.Calls PyProof.Rows
theorem kitx_exc {K : PySem.W.Frag} {C ea : Addr} {Bn : String} (R : XRead K C) (FB : ExcAttrFacts Bn) : KitX K (.ref ea) (.ref C) (fun h => ∃ o, h.get? ea = some o ∧ o.cls = .ref C) where
  ty := fun M h _ ⟨o, h1, h2⟩ => h2 ▸ (Looks.ld h1).andThen .now
  it := fun _ _ X _ => by
    obtain ⟨cdD, hcD⟩ := Option.isSome_iff_exists.mp R.ci
    unfold clsIn at hcD
    split at hcD
    · rename_i c' d' cd' sl' ho
      intro A' Q' E' s' k q
      unfold isType loadHead
      exact wpAny_bind (wpAny_loadPart (k _ _ (X _ _ ho)) (wpAny_pure q))
    · cases hcD
  ne := fun h tp dd its n sl X htp => by
    obtain ⟨cdD, hcD⟩ := Option.isSome_iff_exists.mp R.ci
    refine Bool.eq_false_iff.mpr fun q => ?_
    have e : C = tp := Value.ref.inj (beq_iff_eq.mp q)
    subst e
    unfold clsIn at hcD
    split at hcD
    · rename_i c' d' cd' sl' ho
      have z := (X _ _ ho).symm.trans htp
      cases z
    · cases hcD
  ca := fun X p k => by
    obtain ⟨o, h1, h2⟩ := p
    exact exc_class FB X R (h2 ▸ (Looks.ld h1).andThen .now) k
section
variable {X : Cx} {C : Addr} {Bn : String}
/-- isinstance(e, c), e a caught exception of the own class C -/
def rIsX (K : PySem.W.Frag) (C : Addr) : List V → Hp → VK → Prop := fun xs H Q => ∃ (ea : Addr) (c : V) (b : Bool), xs = [.ref ea, c] ∧ H ea = some (excO ea (.ref C)) ∧ (∀ cv, RelV c cv → kitOne K (.ref C) cv = some b) ∧ Q (.bl b) H
theorem call_isx (R : XRead X.K C) (FB : ExcAttrFacts Bn) : CallR X (.builtin "isinstance") (rIsX X.K C) := by
  intro pins s σ H xs us Q I r h
  obtain ⟨ea, c, b, rfl, he, hk, q⟩ := h
  cases r with
  | cons r1 r =>
    cases r with
    | cons r2 r =>
      cases r
      cases r1
      have p := (I.hok ea _ he).1
      exact kia_one (kitx_exc (ea := ea) R FB) I.kIn p (hk _ r2) (by intro z; cases z) fun tk => ⟨.bl b, H, I.tok tk, rfl, q⟩
/-- isinstance(e, (c1, c2, ..)) -/
def rIsXT (K : PySem.W.Frag) (C : Addr) : List V → Hp → VK → Prop := fun xs H Q => ∃ (ea tp : Addr) (cs : List V) (b : Bool), xs = [.ref ea, .ref tp] ∧ H ea = some (excO ea (.ref C)) ∧ H tp = some (.tup cs) ∧ (∀ cvs, Vals cs cvs → kitAny K (.ref C) cvs = some b) ∧ Q (.bl b) H
theorem call_isxT (R : XRead X.K C) (FB : ExcAttrFacts Bn) : CallR X (.builtin "isinstance") (rIsXT X.K C) := by
  intro pins s σ H xs us Q I r h
  obtain ⟨ea, tp, cs, b, rfl, he, ht, hk, q⟩ := h
  cases r with
  | cons r1 r =>
    cases r with
    | cons r2 r =>
      cases r
      cases r1
      cases r2
      have p := (I.hok ea _ he).1
      obtain ⟨z, its, rv, ob, ho, hc, n, hd⟩ := (show ObjOk X.prog X.w H s.heap tp (.tup cs) from I.hok tp _ ht)
      obtain ⟨oc, od, odt, osl⟩ := ob
      dsimp only at hc hd
      subst hc hd
      exact kia_tup (kitx_exc (ea := ea) R FB) I.kIn p ho (hk _ rv) (by intro z; cases z) fun tk => ⟨.bl b, H, I.tok tk, rfl, q⟩
end
end L2


set_option Elab.async false
set_option linter.all false
set_option maxRecDepth 100000
set_option maxHeartbeats 4000000
namespace My
open PySem L2
def top (i : Nat) : Stmt := PySem.Challenge.pw_widenrows_k25_ended.main.body.getD i (.Pass ⟨0, 0, 0, 0⟩)
abbrev sCell : Stmt := top 34
abbrev sDraws : Stmt := top 35
abbrev sRow : Stmt := top 36
abbrev sProg : Stmt := top 37
abbrev sBegin : Stmt := top 38
abbrev sStart : Stmt := top 39
abbrev sGiven : Stmt := top 40
abbrev sNumber : Stmt := top 41
abbrev sStraight : Stmt := top 42
abbrev sGoal : Stmt := top 43
abbrev sStepL : Stmt := top 44
abbrev sAlike : Stmt := top 45
abbrev sLaw : Stmt := top 49
abbrev sRefused : Stmt := top 46
abbrev sOver : Stmt := top 47
abbrev sOnce : Stmt := top 48
abbrev sEnd : Stmt := top 9
abbrev sNought : Stmt := top 31

theorem small9k {n : Nat} (h : n ≤ 9000) : n < sizeLine := Nat.lt_of_le_of_lt h (by decide)
theorem bt_list : bootBuiltins "list" = some (.type "list") := by decide +kernel
theorem bt_tuple : bootBuiltins "tuple" = some (.type "tuple") := by decide +kernel
theorem bt_bool : bootBuiltins "bool" = some (.type "bool") := by decide +kernel
theorem bt_len : bootBuiltins "len" = some (.builtin "len") := by decide +kernel
theorem bt_isi : bootBuiltins "isinstance" = some (.builtin "isinstance") := by decide +kernel
theorem at0 {α : Type} (a : α) (r : List α) : atI (a :: r) 0 = some a := atI_nat (j := 0) rfl
theorem at1 {α : Type} (a b : α) (r : List α) : atI (a :: b :: r) 1 = some b := atI_nat (j := 1) rfl
theorem at2 {α : Type} (a b c : α) (r : List α) : atI (a :: b :: c :: r) 2 = some c := atI_nat (j := 2) rfl
theorem strEq {a b : Str} (h : decide (V.str a = V.str b) = true) : a = b := V.str.inj (of_decide_eq_true h)
theorem strNe {a b : Str} (h : ¬ decide (V.str a = V.str b) = true) : ¬ a = b := fun e => h (by rw [e]; exact decide_eq_true rfl)
/-! ### words -/
theorem inV_str (w : Str) : ∀ ss : List Str, inV (.str w) (ss.map V.str) = decide (w ∈ ss)
  | [] => rfl
  | x :: r => by
    have ih := inV_str w r
    unfold inV at ih ⊢
    rw [List.map_cons, List.any_cons, ih]
    show ((x == w) || _) = _
    by_cases h : x = w
    · subst h
      simp
    · have h' : ¬ w = x := fun e => h e.symm
      simp [h, h']
def notOn : List Str := ["stop", "back", "halt", "jump"]
def jcm : List Str := ["jump", "call", "mark"]
def zb : List Str := ["zero", "below"]
/-- what a row's own parts tell of its targets -/
def Parts (H : Hp) (w : Str) (items : List V) (ts : List Int) : Prop :=
  if w = "table" then ∃ (b : V) (q : Addr), items = [b, .ref q] ∧ H q = some (.tup (ts.map V.int))
  else if w ∈ jcm then ∃ (t f : Int), items = [.int t, .int f] ∧ ts = [t]
  else if w ∈ zb then ∃ (b : V) (t f : Int), items = [b, .int t, .int f] ∧ ts = [t] else ts = []
/-- a row at r: its word, its targets -/
def RowAt (H : Hp) (r : Addr) (w : Str) (ts : List Int) : Prop := ∃ items, H r = some (.tup (.str w :: items)) ∧ Parts H w items ts
theorem same_new {H : Hp} {l : Addr} {o : HO} (h : H l = none) : Same H (upd H l o) := fun b u e => by
  rw [upd_ne (ne_of_none e h)]
  exact e
/-- what the walk asks of the module -/
structure Txt (K : PySem.W.Frag) (mg : Str → Option Value) : Prop where
  len : mg "len" = none
  list : mg "list" = none
  int : mg "int" = none
  range : mg "range" = none
  tuple : mg "tuple" = none
  isi : mg "isinstance" = none
  dict : mg "dict" = none
  bool : mg "bool" = none
  intb : PySem.W.kitOne K (.type "int") (.type "bool") = some false
end My


set_option Elab.async false
set_option linter.all false
set_option maxRecDepth 100000
set_option maxHeartbeats 4000000
namespace My
open PySem L2
section
variable {P : Program} {w : World} {K : PySem.W.Frag} {mg : Str → Option Value} {base : Heap}
/-! ### a cell of the script: some int -/
def spCell : Sp := fun vs H Q _ => ∃ (a : Addr) (ns : List Int) (k : Int), vs = [.ref a, .int k] ∧ SqL K H a (ns.map V.int) ∧ 0 ≤ k ∧ ∀ c : Int, Q (.int c) H
theorem scCell : FnScope ["_law_script", "_law_k"] ["_law_script", "_law_k"] (defScope sCell) := ⟨rfl, rfl, rfl, by decide +kernel, rfl, by decide +kernel, by decide +kernel⟩
theorem ok_cell {f : Addr} {fd : FuncData} (F : Fun K "_law_cell_at" "_law_cell_at" sCell f fd) (T : Txt K mg) : FnOk P w K mg base CX0 1 f fd ["_law_script", "_law_k"] (spCell (K := K)) := by
  refine F.ok scCell (fun vs H Q E h => ?_) (fun cdv A outer s H vs Q E hr h => ?_)
  · obtain ⟨a, ns, k, rfl, _⟩ := h
    rfl
  · obtain ⟨a, ns, k, rfl, hS, hk, q⟩ := h
    refine ⟨_, pss_cons (ps_if (pt_cmpR op_lt (pv 1) (pe_callB call_len_seq (by rfl) T.len bt_len (pa_cons (pv 0) pa_nil)) (nomark _)) (pss_one (ps_ret (pe_ix ix_list (pv 0) (pv 1) (fun _ _ => rfl)))) pss_nil)
      (pss_one (ps_ret pe_int)), ?_⟩
    refine ⟨_, rfl, _, rfl, a, _, rfl, .inl hS, _, _, rfl, rfl, _, rfl, ?_⟩
    refine ite2 (fun h1 => ?_) (fun h1 => ?_)
    · have h1 := of_decide_eq_true h1
      rw [List.length_map] at h1
      obtain ⟨j, rfl⟩ := Int.eq_ofNat_of_zero_le hk
      have hj : j < ns.length := by omega
      refine ⟨_, rfl, _, rfl, a, _, _, .int ns[j], rfl, rfl, hS, atI_nat (j := j) ?_, q _⟩
      rw [List.getElem?_map, List.getElem?_eq_getElem hj]
      rfl
    · exact q 0
/-! ### draws: as many ints -/
def spDraws : Sp := fun vs H Q _ => ∃ (c k m : Int), vs = [.int c, .int k, .int m] ∧ 0 ≤ m ∧ m ≤ 100 ∧
  ∀ (l : Addr) (xs : List Int) (H' : Hp), Same H H' → H l = none → H' l = some (.lst (xs.map V.int)) → xs.length = m.toNat → Q (.ref l) H'
theorem scDraws : FnScope ["_law_cell", "_law_k", "_law_many", "_law_found", "_law_rest", "_law_j", "_law_number_here"] ["_law_cell", "_law_k", "_law_many"] (defScope sDraws) := ⟨rfl, rfl, rfl, by decide +kernel, rfl, by decide +kernel, by decide +kernel⟩
theorem snoc_int (xs : List Int) (y : Int) : xs.map V.int ++ [V.int y] = (xs ++ [y]).map V.int := by simp
theorem same_put {H H1 : Hp} {l : Addr} {o : HO} (e : Same H H1) (h : H l = none) : Same H (upd H1 l o) := fun b u z => by
  rw [upd_ne (ne_of_none z h)]
  exact e b u z
theorem ok_draws {f : Addr} {fd : FuncData} (F : Fun K "_law_draws" "_law_draws" sDraws f fd) (T : Txt K mg) : FnOk P w K mg base CX0 1 f fd ["_law_cell", "_law_k", "_law_many"] spDraws := by
  refine F.ok scDraws (fun vs H Q E h => ?_) (fun cdv A outer s H vs Q E hr h => ?_)
  · obtain ⟨c, k, m, rfl, _⟩ := h
    rfl
  · obtain ⟨c, k, m, rfl, hm0, hm1, q⟩ := h
    refine ⟨_, pss_cons (ps_set (i := 3) scDraws.nd rfl (Or.inl rfl) (pe_lst pa_nil))
      (pss_cons (ps_if (pt_cmpR op_ge (pv 0) (pe_op op_pow pe_int pe_int) (nomark _))
        (pss_cons (ps_set (i := 4) scDraws.nd rfl (Or.inl rfl) (pv 0))
        (pss_cons (ps_for PassesOwn.never rfl (pi_range1 rfl T.range (pa_cons (pv 2) pa_nil)) (pg_name (i := 5) scDraws.nd rfl (Or.inl rfl))
          (pss_cons (ps_expr (pe_bm PySem.F.plainAttrs_list PySem.F.slot_list_append PySem.F.type_list_append mt_append (pv 3) (pa_cons (pe_op op_mod (pv 4) (pe_op op_pow pe_int pe_int)) pa_nil)))
          (pss_one (ps_set (i := 4) scDraws.nd rfl (Or.inl rfl) (pe_op op_fdiv (pv 4) (pe_op op_pow pe_int pe_int))))))
        (pss_one (ps_ret (pv 3))))) pss_nil)
      (pss_cons (ps_set (i := 6) scDraws.nd rfl (Or.inl rfl) (pe_op op_mod (pe_op op_mul (pe_op op_add (pe_op op_add (pe_op op_mod (pv 0) pe_int) (pe_op op_mul pe_int (pv 1))) pe_int) pe_int) pe_int))
      (pss_cons (ps_for PassesOwn.never rfl (pi_range1 rfl T.range (pa_cons (pv 2) pa_nil)) (pg_name (i := 5) scDraws.nd rfl (Or.inl rfl))
        (pss_cons (ps_set (i := 6) scDraws.nd rfl (Or.inl rfl) (pe_op op_mod (pe_op op_mul (pe_op op_add (pv 6) (pv 5)) (pe_op op_add (pe_op op_fdiv (pe_op op_add (pv 6) (pv 5)) pe_int) pe_int)) pe_int))
        (pss_one (ps_expr (pe_bm PySem.F.plainAttrs_list PySem.F.slot_list_append PySem.F.type_list_append mt_append (pv 3) (pa_cons (pe_op op_mod (pe_op op_mul (pv 6) (pe_op op_add (pe_op op_fdiv (pv 6) pe_int) pe_int)) pe_int) pa_nil))))))
      (pss_one (ps_ret (pv 3)))))), ?_⟩
    refine ⟨(by show 0 ≤ sizeLine; decide), fun l nl => ?_⟩
    refine ⟨_, rfl, _, _, rfl, rfl, ⟨by decide, by decide, by decide⟩, _, _, rfl, rfl, _, rfl, ?_⟩
    refine ite2 (fun h1 => ?_) (fun h1 => ?_)
    · refine ⟨_, rfl, _, rfl, m, rfl, by omega, by omega, for_range (n := m.toNat) (fun i σ H2 => ∃ (xs : List Int) (rest : Int) (v : Option V),
          σ = [some (.int c), some (.int k), some (.int m), some (.ref l), some (.int rest), v, none] ∧ Same H H2 ∧ H2 l = some (.lst (xs.map V.int)) ∧ xs.length = i) ?_ ?_ ?_⟩
      · exact ⟨[], c, none, rfl, same_new nl, upd_same, rfl⟩
      · rintro i σ H2 hi ⟨xs, rest, v, rfl, s2, h2, hx⟩
        refine ⟨_, rfl, .inl ⟨rfl, _, SqL.of h2⟩, _, rfl, _, _, rfl, rfl, ⟨by decide, by decide, by decide⟩, _, _, rfl, rfl, (by show (0 : Int) < 10 ^ Int.toNat 6; decide), l, _, _, rfl, rfl, h2, ?_, ?_⟩
        · rw [List.length_map]
          exact small1000 (by omega)
        · refine ⟨_, rfl, _, _, rfl, rfl, ⟨by decide, by decide, by decide⟩, _, _, rfl, rfl, ⟨by decide, by decide⟩, ?_⟩
          rw [snoc_int]
          exact ⟨xs ++ [_], _, _, rfl, same_put s2 nl, upd_same, by simp [hx]⟩
      · rintro σ H2 ⟨xs, rest, v, rfl, s2, h2, hx⟩
        exact ⟨_, rfl, q l xs H2 s2 nl h2 hx⟩
    · refine ⟨_, rfl, _, _, rfl, rfl, (by show (0 : Int) < 2147483647; decide), _, rfl, _, _, rfl, rfl, .inl ⟨by decide, by decide⟩, _, _, rfl, rfl, _, _, rfl, rfl, _, _, rfl, rfl, .inr ⟨by decide, by decide⟩, _, _, rfl, rfl, (by show (0 : Int) < 2147483647; decide), ?_⟩
      refine ⟨_, rfl, m, rfl, by omega, by omega, for_range (n := m.toNat) (fun i σ H2 => ∃ (xs : List Int) (num : Int) (v : Option V),
          σ = [some (.int c), some (.int k), some (.int m), some (.ref l), none, v, some (.int num)] ∧ Same H H2 ∧ H2 l = some (.lst (xs.map V.int)) ∧ xs.length = i ∧ 0 ≤ num ∧ num < 2147483647) ?_ ?_ ?_⟩
      · exact ⟨[], _, none, rfl, same_new nl, upd_same, rfl, Int.emod_nonneg _ (by decide), Int.emod_lt_of_pos _ (by decide)⟩
      · rintro i σ H2 hi ⟨xs, num, v, rfl, s2, h2, hx, n0, n1⟩
        have hi' : (i : Int) < 100 := by omega
        refine ⟨_, rfl, _, rfl, _, _, rfl, rfl, _, rfl, _, rfl, _, _, rfl, rfl, _, _, rfl, rfl, ⟨by decide, by decide⟩, _, _, rfl, rfl, _, _, rfl, rfl, .inl ⟨by omega, by omega⟩, _, _, rfl, rfl, (by show (0 : Int) < 2147483647; decide), ?_⟩
        dsimp only
        have b0 := Int.emod_nonneg ((num + (0 + (i : Int))) * ((num + (0 + (i : Int))) / 1009 + 69621)) (show (2147483647 : Int) ≠ 0 by decide)
        have b1 := Int.emod_lt_of_pos ((num + (0 + (i : Int))) * ((num + (0 + (i : Int))) / 1009 + 69621)) (show (0 : Int) < 2147483647 by decide)
        generalize ((num + (0 + (i : Int))) * ((num + (0 + (i : Int))) / 1009 + 69621)) % 2147483647 = nn at b0 b1 ⊢
        refine ⟨_, rfl, .inl ⟨rfl, _, SqL.of h2⟩, _, rfl, _, rfl, _, _, rfl, rfl, ⟨by decide, by decide⟩, _, _, rfl, rfl, _, _, rfl, rfl, .inl ⟨by omega, by omega⟩, _, _, rfl, rfl, (by show (0 : Int) < 2147483629; decide), l, _, _, rfl, rfl, h2, ?_, ?_⟩
        · rw [List.length_map]
          exact small1000 (by omega)
        · rw [snoc_int]
          exact ⟨xs ++ [_], nn, _, rfl, same_put s2 nl, upd_same, by simp [hx], b0, b1⟩
      · rintro σ H2 ⟨xs, num, v, rfl, s2, h2, hx, _, _⟩
        exact ⟨_, rfl, q l xs H2 s2 nl h2 hx⟩
end
end My


set_option Elab.async false
set_option linter.all false
set_option maxRecDepth 100000
set_option maxHeartbeats 8000000
namespace My
open PySem L2
theorem at_mod {α : Type} (l : List α) (c : Int) (h : (0 : Int) < l.length) : ∃ a ∈ l, atI l (c % (l.length : Int)) = some a := by
  have h0 := Int.emod_nonneg c (Int.ne_of_gt h)
  have h1 := Int.emod_lt_of_pos c h
  obtain ⟨j, hj⟩ := Int.eq_ofNat_of_zero_le h0
  rw [hj]
  have hlt : j < l.length := by omega
  exact ⟨l[j], List.getElem_mem hlt, atI_nat (List.getElem?_eq_getElem hlt)⟩
theorem at_two (a b : Int) (c : Int) : ∃ v, (v = a ∨ v = b) ∧ atI [V.int a, V.int b] (c % 2) = some (V.int v) := by
  obtain ⟨v, m, h⟩ := at_mod [V.int a, V.int b] c (by show (0 : Int) < 2; decide)
  rcases List.mem_cons.mp m with rfl | m
  · exact ⟨a, .inl rfl, h⟩
  · rw [List.mem_singleton.mp m] at h
    exact ⟨b, .inr rfl, h⟩
def Bx (b : Int) : Prop := 0 ≤ b ∧ b < 8
theorem bx_two {x b : Int} (h : b = x % 2 ∨ b = x % 8) : Bx b := by
  have h1 := Int.emod_nonneg x (show (2 : Int) ≠ 0 by decide)
  have h2 := Int.emod_lt_of_pos x (show (0 : Int) < 2 by decide)
  have h3 := Int.emod_nonneg x (show (8 : Int) ≠ 0 by decide)
  have h4 := Int.emod_lt_of_pos x (show (0 : Int) < 8 by decide)
  unfold Bx
  omega
/-- what stands behind a row's word -/
def Shape (u : Str) (items : List V) : Prop :=
  (u ∈ (["stop", "back"] : List Str) ∧ items = []) ∨ (u = "halt" ∧ ∃ v : Int, items = [.int v]) ∨ (u ∈ (["set", "more"] : List Str) ∧ ∃ b v : Int, Bx b ∧ items = [.int b, .int v]) ∨
  (u ∈ (["copy", "add", "less", "load", "keep"] : List Str) ∧ ∃ b c : Int, Bx b ∧ Bx c ∧ items = [.int b, .int c]) ∨ (u = "tell" ∧ ∃ b : Int, Bx b ∧ items = [.int b]) ∨
  (u ∈ (["see", "put", "take"] : List Str) ∧ ∃ b v : Int, Bx b ∧ items = [.int b, .int v]) ∨ (u ∈ jcm ∧ ∃ t f : Int, items = [.int t, .int f]) ∨
  (u ∈ zb ∧ ∃ b t f : Int, Bx b ∧ items = [.int b, .int t, .int f]) ∨ (u = "table" ∧ ∃ (b : Int) (q : Addr), Bx b ∧ items = [.int b, .ref q])
def ShapeAt (H : Hp) (q : Addr) (u : Str) : Prop := ∃ items, H q = some (.tup (.str u :: items)) ∧ Shape u items
def all20 : List Str := ["stop", "back", "halt", "set", "more", "copy", "add", "less", "load", "keep", "tell", "see", "put", "take", "jump", "zero", "below", "call", "mark", "table"]
theorem parts_plain {H : Hp} {w : Str} {items : List V} (h : ¬ w = "table" ∧ ¬ w ∈ jcm ∧ ¬ w ∈ zb) : Parts H w items [] := by
  unfold Parts
  rw [if_neg h.1, if_neg h.2.1, if_neg h.2.2]
theorem parts_zb {H : Hp} {w : Str} {b : V} {t f : Int} (h : ¬ w = "table" ∧ ¬ w ∈ jcm ∧ w ∈ zb) : Parts H w [b, .int t, .int f] [t] := by
  unfold Parts
  rw [if_neg h.1, if_neg h.2.1, if_pos h.2.2]
  exact ⟨b, t, f, rfl, rfl⟩
theorem parts_jcm {H : Hp} {w : Str} {t f : Int} (h : ¬ w = "table" ∧ w ∈ jcm) : Parts H w [.int t, .int f] [t] := by
  unfold Parts
  rw [if_neg h.1, if_pos h.2]
  exact ⟨t, f, rfl, rfl⟩
theorem parts_table {H : Hp} {w : Str} {b : V} {q : Addr} {ts : List Int} (h : w = "table") (hq : H q = some (.tup (ts.map V.int))) : Parts H w [b, .ref q] ts := by
  unfold Parts
  rw [if_pos h]
  exact ⟨b, q, rfl, hq⟩
section
variable {P : Program} {w : World} {K : PySem.W.Frag} {mg : Str → Option Value} {base : Heap}
/-! ### a row of draws -/
def spRow : Sp := fun vs H Q _ => ∃ (x : Addr) (xs : List Int) (n : Int) (ws : Addr) (words : List Str), vs = [.ref x, .int n, .ref ws] ∧ H x = some (.lst (xs.map V.int)) ∧ xs.length = 25 ∧ 0 < n ∧ H ws = some (.lst (words.map V.str)) ∧
  0 < words.length ∧ (∀ u ∈ words, u ∈ all20) ∧ ∀ (q : Addr) (u : Str) (ts : List Int) (H' : Hp), Same H H' → H q = none → u ∈ words → RowAt H' q u ts → ShapeAt H' q u → (∀ t ∈ ts, 0 ≤ t ∧ t < n) → ts.length ≤ 16 → Q (.ref q) H'
theorem scRow : FnScope ["_law_xs", "_law_size", "_law_words", "_law_word", "_law_box", "_law_other", "_law_wide", "_law_target"] ["_law_xs", "_law_size", "_law_words"] (defScope sRow) := ⟨rfl, rfl, rfl, by decide +kernel, rfl, by decide +kernel, by decide +kernel⟩
def cScRow : Scope := { kind := .function, names := [(".0", .local), ("_law_j", .local), ("_law_size", .free), ("_law_xs", .free)], isGenerator := false, isCoroutine := false, more := [] }
theorem scRowC : CompSc (defScope sRow) cScRow ["_law_xs", "_law_size", "_law_words", "_law_word", "_law_box", "_law_other", "_law_wide", "_law_target"] ["_law_j", "_law_xs", "_law_size"] [none, some 0, some 1] :=
  ⟨rfl, by decide +kernel, by decide +kernel, by decide +kernel, by decide +kernel, by decide +kernel⟩
theorem ok_row {f : Addr} {fd : FuncData} (F : Fun K "_law_row" "_law_row" sRow f fd) (T : Txt K mg) : FnOk P w K mg base CX0 1 f fd ["_law_xs", "_law_size", "_law_words"] spRow := by
  refine F.ok scRow (fun vs H Q E h => ?_) (fun cdv A outer s H vs Q E hr h => ?_)
  · obtain ⟨x, xs, n, ws, words, rfl, _⟩ := h
    rfl
  · obtain ⟨x, xs, n, ws, words, rfl, hx, hlen, hn, hw, hwl0, hall, k⟩ := h
    have hat : ∀ i : Nat, i < 25 → atI (xs.map V.int) (i : Int) = some (V.int (xs.getD i 0)) := fun i hi => by
      refine atI_nat ?_
      have hi' : i < xs.length := by omega
      rw [List.getElem?_map, List.getElem?_eq_getElem hi', List.getD_eq_getElem?_getD, List.getElem?_eq_getElem hi']
      rfl
    have hwl : (0 : Int) < ((words.map V.str).length : Int) := by rw [List.length_map]; omega
    obtain ⟨v, hv, hwd⟩ := at_mod (words.map V.str) (xs.getD 0 0) hwl
    obtain ⟨wd, hwm, rfl⟩ := List.mem_map.mp hv
    refine ⟨_, (pss_cons (ps_set (i := 3) scRow.nd rfl (Or.inl rfl) (pe_ix ix_list (pv 2) (pe_op op_mod (pe_ix ix_list (pv 0) pe_int (fun _ _ => rfl)) (pe_callB call_len_seq (by rfl) T.len bt_len (pa_cons (pv 2) pa_nil))) (fun _ _ => rfl)))
      (pss_cons (ps_set (i := 4) scRow.nd rfl (Or.inl rfl) (pe_ix ix_list (pe_lst (pa_cons (pe_op op_mod (pe_ix ix_list (pv 0) pe_int (fun _ _ => rfl)) pe_int) (pa_cons (pe_op op_mod (pe_ix ix_list (pv 0) pe_int (fun _ _ => rfl)) pe_int) pa_nil))) (pe_op op_mod (pe_ix ix_list (pv 0) pe_int (fun _ _ => rfl)) pe_int) (fun _ _ => rfl)))
      (pss_cons (ps_set (i := 5) scRow.nd rfl (Or.inl rfl) (pe_ix ix_list (pe_lst (pa_cons (pe_op op_mod (pe_ix ix_list (pv 0) pe_int (fun _ _ => rfl)) pe_int) (pa_cons (pe_op op_mod (pe_ix ix_list (pv 0) pe_int (fun _ _ => rfl)) pe_int) pa_nil))) (pe_op op_mod (pe_op op_fdiv (pe_ix ix_list (pv 0) pe_int (fun _ _ => rfl)) pe_int) pe_int) (fun _ _ => rfl)))
      (pss_cons (ps_set (i := 6) scRow.nd rfl (Or.inl rfl) (pe_op op_add (pe_op op_mul (pe_ix ix_list (pv 0) pe_int (fun _ _ => rfl)) (pe_op op_pow pe_int pe_int)) (pe_ix ix_list (pv 0) pe_int (fun _ _ => rfl))))
      (pss_cons (ps_set (i := 7) scRow.nd rfl (Or.inl rfl) (pe_op op_mod (pe_ix ix_list (pv 0) pe_int (fun _ _ => rfl)) (pv 1)))
      (pss_cons (ps_if (pt_cmpR op_in_seq (pv 3) (pe_tup (pa_cons pe_str (pa_cons pe_str pa_nil))) rfl) (pss_one (ps_ret (pe_tup (pa_cons (pv 3) pa_nil)))) pss_nil)
      (pss_cons (ps_if (pt_cmpR op_in_seq (pv 3) (pe_tup (pa_cons pe_str (pa_cons pe_str pa_nil))) rfl) (pss_one (ps_ret (pe_tup (pa_cons (pv 3) (pa_cons (pv 4) (pa_cons (pe_ix ix_list (pe_lst (pa_cons (pe_op op_sub (pe_op op_mod (pe_ix ix_list (pv 0) pe_int (fun _ _ => rfl)) pe_int) pe_int) (pa_cons (pe_op op_sub (pe_op op_mod (pv 6) (pe_op op_add (pe_op op_mul pe_int (pe_op op_pow pe_int pe_int)) pe_int)) (pe_op op_pow pe_int pe_int)) pa_nil))) (pe_op op_mod (pe_ix ix_list (pv 0) pe_int (fun _ _ => rfl)) pe_int) (fun _ _ => rfl)) pa_nil)))))) pss_nil)
      (pss_cons (ps_if (pt_cmpR op_in_seq (pv 3) (pe_tup (pa_cons pe_str (pa_cons pe_str (pa_cons pe_str (pa_cons pe_str (pa_cons pe_str pa_nil)))))) rfl) (pss_one (ps_ret (pe_tup (pa_cons (pv 3) (pa_cons (pv 4) (pa_cons (pv 5) pa_nil)))))) pss_nil)
      (pss_cons (ps_if (pt_cmpR op_eq (pv 3) pe_str (nomark _)) (pss_one (ps_ret (pe_tup (pa_cons (pv 3) (pa_cons (pv 4) pa_nil))))) pss_nil)
      (pss_cons (ps_if (pt_cmpR op_eq (pv 3) pe_str (nomark _)) (pss_one (ps_ret (pe_tup (pa_cons (pv 3) (pa_cons (pe_op op_mod (pv 6) (pe_op op_add (pe_op op_pow pe_int pe_int) pe_int)) pa_nil))))) pss_nil)
      (pss_cons (ps_if (pt_cmpR op_in_seq (pv 3) (pe_tup (pa_cons pe_str (pa_cons pe_str (pa_cons pe_str pa_nil)))) rfl) (pss_one (ps_ret (pe_tup (pa_cons (pv 3) (pa_cons (pv 4) (pa_cons (pe_ix ix_list (pe_lst (pa_cons (pe_op op_mod (pe_ix ix_list (pv 0) pe_int (fun _ _ => rfl)) pe_int) (pa_cons (pe_op op_mod (pv 6) (pe_op op_add (pe_op op_pow pe_int pe_int) pe_int)) pa_nil))) (pe_op op_mod (pe_ix ix_list (pv 0) pe_int (fun _ _ => rfl)) pe_int) (fun _ _ => rfl)) pa_nil)))))) pss_nil)
      (pss_cons (ps_if (pt_cmpR op_in_seq (pv 3) (pe_tup (pa_cons pe_str (pa_cons pe_str pa_nil))) rfl) (pss_one (ps_ret (pe_tup (pa_cons (pv 3) (pa_cons (pv 4) (pa_cons (pv 7) (pa_cons (pe_op op_mod (pe_ix ix_list (pv 0) pe_int (fun _ _ => rfl)) pe_int) pa_nil))))))) pss_nil)
      (pss_cons (ps_if (pt_cmpR op_eq (pv 3) pe_str (nomark _)) (pss_one (ps_ret (pe_tup (pa_cons (pv 3) (pa_cons (pv 4) (pa_cons (pe_callTy call_tuple_of (by rfl) T.tuple bt_tuple (pa_cons (pe_comp (N' := ["_law_j", "_law_xs", "_law_size"]) (fr := [none, some 0, some 1]) scRowC rfl (pi_range1 rfl T.range (pa_cons (pe_op op_add pe_int (pe_op op_mod (pe_ix ix_list (pv 0) pe_int (fun _ _ => rfl)) pe_int)) pa_nil)) (fun C s0 H0 fp => pg_name (i := 0) scRowC.nd rfl (Or.inl rfl)) (fun C s0 H0 fp => pts_nil) (fun C s0 H0 fp => pe_op op_mod (pe_ix (r := rIxL K) ix_list (pv 1) (pe_op op_add pe_int (pv 0)) (fun _ _ => rfl)) (pv 2))) pa_nil)) pa_nil)))))) pss_nil)
      (pss_one (ps_ret (pe_tup (pa_cons (pv 3) (pa_cons (pv 7) (pa_cons (pe_op op_mod (pe_ix ix_list (pv 0) pe_int (fun _ _ => rfl)) pe_int) pa_nil))))))))))))))))))), ?_⟩
    refine ⟨_, rfl, _, rfl, x, _, _, .int (xs.getD 0 0), rfl, rfl, SqL.of hx, hat 0 (by decide), _, rfl, ws, _, rfl, .inl (SqL.of hw), _, _, rfl, rfl, hwl, ws, _, _, .str wd, rfl, rfl, SqL.of hw, hwd, ?_⟩
    refine ⟨_, rfl, x, _, _, .int (xs.getD 1 0), rfl, rfl, SqL.of hx, hat 1 (by decide), _, _, rfl, rfl, (by show (0 : Int) < 2; decide), _, rfl, x, _, _, .int (xs.getD 1 0), rfl, rfl, SqL.of hx, hat 1 (by decide), _, _, rfl, rfl, (by show (0 : Int) < 8; decide), (by show 2 ≤ sizeLine; decide), fun l1 n1 => ?_⟩
    have s1 := same_new (o := .lst [V.int (xs.getD 1 0 % 2), V.int (xs.getD 1 0 % 8)]) n1
    obtain ⟨bx, hbx0, hbx⟩ := at_two (xs.getD 1 0 % 2) (xs.getD 1 0 % 8) (xs.getD 8 0)
    refine ⟨_, rfl, x, _, _, .int (xs.getD 8 0), rfl, rfl, SqL.of (s1 _ _ hx), hat 8 (by decide), _, _, rfl, rfl, (by show (0 : Int) < 2; decide), l1, _, _, .int bx, rfl, rfl, SqL.of upd_same, hbx, ?_⟩
    refine ⟨_, rfl, x, _, _, .int (xs.getD 2 0), rfl, rfl, SqL.of (s1 _ _ hx), hat 2 (by decide), _, _, rfl, rfl, (by show (0 : Int) < 2; decide), _, rfl, x, _, _, .int (xs.getD 2 0), rfl, rfl, SqL.of (s1 _ _ hx), hat 2 (by decide), _, _, rfl, rfl, (by show (0 : Int) < 8; decide), (by show 2 ≤ sizeLine; decide), fun l2 n2 => ?_⟩
    have s2 := s1.trans (same_new (o := .lst [V.int (xs.getD 2 0 % 2), V.int (xs.getD 2 0 % 8)]) n2)
    obtain ⟨bo, hbo0, hbo⟩ := at_two (xs.getD 2 0 % 2) (xs.getD 2 0 % 8) (xs.getD 8 0 / 2)
    refine ⟨_, rfl, x, _, _, .int (xs.getD 8 0), rfl, rfl, SqL.of (s2 _ _ hx), hat 8 (by decide), _, _, rfl, rfl, ⟨by decide, by decide⟩, _, _, rfl, rfl, (by show (0 : Int) < 2; decide), l2, _, _, .int bo, rfl, rfl, SqL.of upd_same, hbo, ?_⟩
    refine ⟨_, rfl, x, _, _, .int (xs.getD 3 0), rfl, rfl, SqL.of (s2 _ _ hx), hat 3 (by decide), _, _, rfl, rfl, ⟨by decide, by decide, by decide⟩, _, _, rfl, rfl, .inr ⟨by decide, by decide⟩, _, rfl, x, _, _, .int (xs.getD 4 0), rfl, rfl, SqL.of (s2 _ _ hx), hat 4 (by decide), _, _, rfl, rfl, ?_⟩
    refine ⟨_, rfl, x, _, _, .int (xs.getD 6 0), rfl, rfl, SqL.of (s2 _ _ hx), hat 6 (by decide), _, rfl, _, _, rfl, rfl, hn, ?_⟩
    have hb := bx_two hbx0
    have ho := bx_two hbo0
    have tg0 := Int.emod_nonneg (xs.getD 6 0) (Int.ne_of_gt hn)
    have tg1 := Int.emod_lt_of_pos (xs.getD 6 0) hn
    refine ⟨_, rfl, (by show 2 ≤ sizeLine; decide), fun t3 m3 => ⟨t3, (["stop", "back"] : List Str).map V.str, rfl, .inr (SqT.of upd_same), rfl, rfl, _, rfl, ?_⟩⟩
    have s3 := s2.trans (same_new (o := .tup ((["stop", "back"] : List Str).map V.str)) m3)
    rw [show inV (.str wd) ((["stop", "back"] : List Str).map V.str) = decide (wd ∈ (["stop", "back"] : List Str)) from inV_str _ _]
    refine ite2 (fun c3 => ?_) (fun c3 => ?_)
    · have c3 := of_decide_eq_true c3
      refine ⟨_, rfl, (by show 1 ≤ sizeLine; decide), fun q nq => ?_⟩
      exact k q wd [] _ (s3.trans (same_new nq)) (s3.free nq) hwm ⟨_, upd_same, parts_plain ((by decide +kernel : ∀ u ∈ (["stop", "back"] : List Str), ¬ u = "table" ∧ ¬ u ∈ jcm ∧ ¬ u ∈ zb) wd c3)⟩ ⟨_, upd_same, .inl ⟨c3, rfl⟩⟩ (fun t ht => absurd ht (by simp)) (by simp)
    · have c3 : ¬ wd ∈ (["stop", "back"] : List Str) := fun e => c3 (decide_eq_true e)
      refine ⟨_, rfl, (by show 2 ≤ sizeLine; decide), fun t4 m4 => ⟨t4, (["set", "more"] : List Str).map V.str, rfl, .inr (SqT.of upd_same), rfl, rfl, _, rfl, ?_⟩⟩
      have s4 := s3.trans (same_new (o := .tup ((["set", "more"] : List Str).map V.str)) m4)
      rw [show inV (.str wd) ((["set", "more"] : List Str).map V.str) = decide (wd ∈ (["set", "more"] : List Str)) from inV_str _ _]
      refine ite2 (fun c4 => ?_) (fun c4 => ?_)
      · have c4 := of_decide_eq_true c4
        obtain ⟨bv, _, hbv⟩ := at_two (xs.getD 3 0 % 7 - 3) ((xs.getD 3 0 * 10 ^ Int.toNat 6 + xs.getD 4 0) % (2 * 10 ^ Int.toNat 9 + 1) - 10 ^ Int.toNat 9) (xs.getD 5 0)
        refine ⟨_, rfl, _, rfl, _, rfl, x, _, _, .int (xs.getD 3 0), rfl, rfl, SqL.of (s4 _ _ hx), hat 3 (by decide), _, _, rfl, rfl, (by show (0 : Int) < 7; decide), _, _, rfl, rfl, _, rfl, _, _, rfl, rfl, ⟨by decide, by decide, by decide⟩, _, _, rfl, rfl, .inl ⟨by decide, by decide⟩, _, _, rfl, rfl, _, _, rfl, rfl, (by show (0 : Int) < 2 * 10 ^ Int.toNat 9 + 1; decide), _, _, rfl, rfl, ⟨by decide, by decide, by decide⟩, _, _, rfl, rfl, (by show 2 ≤ sizeLine; decide), fun lv nv => ?_⟩
        have sv := s4.trans (same_new (o := .lst [V.int (xs.getD 3 0 % 7 - 3), V.int ((xs.getD 3 0 * 10 ^ Int.toNat 6 + xs.getD 4 0) % (2 * 10 ^ Int.toNat 9 + 1) - 10 ^ Int.toNat 9)]) nv)
        refine ⟨_, rfl, x, _, _, .int (xs.getD 5 0), rfl, rfl, SqL.of (sv _ _ hx), hat 5 (by decide), _, _, rfl, rfl, (by show (0 : Int) < 2; decide), lv, _, _, .int bv, rfl, rfl, SqL.of upd_same, hbv, (by show 3 ≤ sizeLine; decide), fun q nq => ?_⟩
        exact k q wd [] _ (sv.trans (same_new nq)) (sv.free nq) hwm ⟨_, upd_same, parts_plain ((by decide +kernel : ∀ u ∈ (["set", "more"] : List Str), ¬ u = "table" ∧ ¬ u ∈ jcm ∧ ¬ u ∈ zb) wd c4)⟩ ⟨_, upd_same, .inr (.inr (.inl ⟨c4, _, _, hb, rfl⟩))⟩ (fun t ht => absurd ht (by simp)) (by simp)
      · have c4 : ¬ wd ∈ (["set", "more"] : List Str) := fun e => c4 (decide_eq_true e)
        refine ⟨_, rfl, (by show 5 ≤ sizeLine; decide), fun t5 m5 => ⟨t5, (["copy", "add", "less", "load", "keep"] : List Str).map V.str, rfl, .inr (SqT.of upd_same), rfl, rfl, _, rfl, ?_⟩⟩
        have s5 := s4.trans (same_new (o := .tup ((["copy", "add", "less", "load", "keep"] : List Str).map V.str)) m5)
        rw [show inV (.str wd) ((["copy", "add", "less", "load", "keep"] : List Str).map V.str) = decide (wd ∈ (["copy", "add", "less", "load", "keep"] : List Str)) from inV_str _ _]
        refine ite2 (fun c5 => ?_) (fun c5 => ?_)
        · have c5 := of_decide_eq_true c5
          refine ⟨_, rfl, _, rfl, _, rfl, (by show 3 ≤ sizeLine; decide), fun q nq => ?_⟩
          exact k q wd [] _ (s5.trans (same_new nq)) (s5.free nq) hwm ⟨_, upd_same, parts_plain ((by decide +kernel : ∀ u ∈ (["copy", "add", "less", "load", "keep"] : List Str), ¬ u = "table" ∧ ¬ u ∈ jcm ∧ ¬ u ∈ zb) wd c5)⟩ ⟨_, upd_same, .inr (.inr (.inr (.inl ⟨c5, _, _, hb, ho, rfl⟩)))⟩ (fun t ht => absurd ht (by simp)) (by simp)
        · have c5 : ¬ wd ∈ (["copy", "add", "less", "load", "keep"] : List Str) := fun e => c5 (decide_eq_true e)
          refine ⟨_, rfl, rfl, _, rfl, ?_⟩
          refine ite2 (fun c6 => ?_) (fun c6 => ?_)
          · have c6 := strEq c6
            refine ⟨_, rfl, _, rfl, (by show 2 ≤ sizeLine; decide), fun q nq => ?_⟩
            exact k q wd [] _ (s5.trans (same_new nq)) (s5.free nq) hwm ⟨_, upd_same, parts_plain (by rw [c6]; decide +kernel)⟩ ⟨_, upd_same, .inr (.inr (.inr (.inr (.inl ⟨c6, _, hb, rfl⟩))))⟩ (fun t ht => absurd ht (by simp)) (by simp)
          · have c6 := strNe c6
            refine ⟨_, rfl, rfl, _, rfl, ?_⟩
            refine ite2 (fun c7 => ?_) (fun c7 => ?_)
            · have c7 := strEq c7
              refine ⟨_, rfl, _, rfl, _, _, rfl, rfl, ⟨by decide, by decide, by decide⟩, _, _, rfl, rfl, _, _, rfl, rfl, (by show (0 : Int) < 10 ^ Int.toNat 6 + 1; decide), (by show 2 ≤ sizeLine; decide), fun q nq => ?_⟩
              exact k q wd [] _ (s5.trans (same_new nq)) (s5.free nq) hwm ⟨_, upd_same, parts_plain (by rw [c7]; decide +kernel)⟩ ⟨_, upd_same, .inr (.inl ⟨c7, _, rfl⟩)⟩ (fun t ht => absurd ht (by simp)) (by simp)
            · have c7 := strNe c7
              refine ⟨_, rfl, (by show 3 ≤ sizeLine; decide), fun t8 m8 => ⟨t8, (["see", "put", "take"] : List Str).map V.str, rfl, .inr (SqT.of upd_same), rfl, rfl, _, rfl, ?_⟩⟩
              have s8 := s5.trans (same_new (o := .tup ((["see", "put", "take"] : List Str).map V.str)) m8)
              rw [show inV (.str wd) ((["see", "put", "take"] : List Str).map V.str) = decide (wd ∈ (["see", "put", "take"] : List Str)) from inV_str _ _]
              refine ite2 (fun c8 => ?_) (fun c8 => ?_)
              · have c8 := of_decide_eq_true c8
                obtain ⟨bv, _, hbv⟩ := at_two (xs.getD 3 0 % 3) ((xs.getD 3 0 * 10 ^ Int.toNat 6 + xs.getD 4 0) % (10 ^ Int.toNat 6 + 1)) (xs.getD 5 0)
                refine ⟨_, rfl, _, rfl, _, rfl, x, _, _, .int (xs.getD 3 0), rfl, rfl, SqL.of (s8 _ _ hx), hat 3 (by decide), _, _, rfl, rfl, (by show (0 : Int) < 3; decide), _, rfl, _, _, rfl, rfl, ⟨by decide, by decide, by decide⟩, _, _, rfl, rfl, _, _, rfl, rfl, (by show (0 : Int) < 10 ^ Int.toNat 6 + 1; decide), (by show 2 ≤ sizeLine; decide), fun lv nv => ?_⟩
                have sv := s8.trans (same_new (o := .lst [V.int (xs.getD 3 0 % 3), V.int ((xs.getD 3 0 * 10 ^ Int.toNat 6 + xs.getD 4 0) % (10 ^ Int.toNat 6 + 1))]) nv)
                refine ⟨_, rfl, x, _, _, .int (xs.getD 5 0), rfl, rfl, SqL.of (sv _ _ hx), hat 5 (by decide), _, _, rfl, rfl, (by show (0 : Int) < 2; decide), lv, _, _, .int bv, rfl, rfl, SqL.of upd_same, hbv, (by show 3 ≤ sizeLine; decide), fun q nq => ?_⟩
                exact k q wd [] _ (sv.trans (same_new nq)) (sv.free nq) hwm ⟨_, upd_same, parts_plain ((by decide +kernel : ∀ u ∈ (["see", "put", "take"] : List Str), ¬ u = "table" ∧ ¬ u ∈ jcm ∧ ¬ u ∈ zb) wd c8)⟩ ⟨_, upd_same, .inr (.inr (.inr (.inr (.inr (.inl ⟨c8, _, _, hb, rfl⟩)))))⟩ (fun t ht => absurd ht (by simp)) (by simp)
              · have c8 : ¬ wd ∈ (["see", "put", "take"] : List Str) := fun e => c8 (decide_eq_true e)
                refine ⟨_, rfl, (by show 2 ≤ sizeLine; decide), fun t9 m9 => ⟨t9, (["zero", "below"] : List Str).map V.str, rfl, .inr (SqT.of upd_same), rfl, rfl, _, rfl, ?_⟩⟩
                have s9 := s8.trans (same_new (o := .tup ((["zero", "below"] : List Str).map V.str)) m9)
                rw [show inV (.str wd) ((["zero", "below"] : List Str).map V.str) = decide (wd ∈ (["zero", "below"] : List Str)) from inV_str _ _]
                refine ite2 (fun c9 => ?_) (fun c9 => ?_)
                · have c9 := of_decide_eq_true c9
                  refine ⟨_, rfl, _, rfl, _, rfl, _, rfl, x, _, _, .int (xs.getD 7 0), rfl, rfl, SqL.of (s9 _ _ hx), hat 7 (by decide), _, _, rfl, rfl, (by show (0 : Int) < 2; decide), (by show 4 ≤ sizeLine; decide), fun q nq => ?_⟩
                  exact k q wd [xs.getD 6 0 % n] _ (s9.trans (same_new nq)) (s9.free nq) hwm ⟨_, upd_same, parts_zb ((by decide +kernel : ∀ u ∈ (["zero", "below"] : List Str), ¬ u = "table" ∧ ¬ u ∈ jcm ∧ u ∈ zb) wd c9)⟩ ⟨_, upd_same, .inr (.inr (.inr (.inr (.inr (.inr (.inr (.inl ⟨c9, _, _, _, hb, rfl⟩)))))))⟩ (fun t ht => by rw [List.mem_singleton.mp ht]; exact ⟨tg0, tg1⟩) (by simp)
                · have c9 : ¬ wd ∈ (["zero", "below"] : List Str) := fun e => c9 (decide_eq_true e)
                  refine ⟨_, rfl, rfl, _, rfl, ?_⟩
                  refine ite2 (fun c10 => ?_) (fun c10 => ?_)
                  · have c10 := strEq c10
                    have r0 := Int.emod_nonneg (xs.getD 7 0) (show (16 : Int) ≠ 0 by decide)
                    have r1 := Int.emod_lt_of_pos (xs.getD 7 0) (show (0 : Int) < 16 by decide)
                    refine ⟨_, rfl, _, rfl, _, rfl, x, _, _, .int (xs.getD 7 0), rfl, rfl, SqL.of (s9 _ _ hx), hat 7 (by decide), _, _, rfl, rfl, (by show (0 : Int) < 16; decide), _, _, rfl, rfl, 1 + xs.getD 7 0 % 16, rfl, by omega, by omega, fun D nD => comp_range (n := (1 + xs.getD 7 0 % 16).toNat) (fun i σ ys H2 => ∃ (ts : List Int) (v : Option V), σ = [v, some (.ref x), some (.int n)] ∧ ys = ts.map V.int ∧ ts.length = i ∧ (∀ t ∈ ts, 0 ≤ t ∧ t < n) ∧ Same H H2 ∧ H2 D = some (.lst ys)) ?_ ?_ ?_⟩
                    · exact ⟨[], none, rfl, rfl, rfl, fun t ht => absurd ht (by simp), same_put s9 (s9.free nD), upd_same⟩
                    · rintro i σ ys H2 hi ⟨ts, v, rfl, rfl, hl, ht, s2', hD⟩
                      have hi' : 9 + i < 25 := by omega
                      have e9 : (9 : Int) + (0 + (i : Int)) = ((9 + i : Nat) : Int) := by omega
                      refine ⟨_, rfl, _, rfl, _, _, rfl, rfl, x, _, _, .int (xs.getD (9 + i) 0), rfl, rfl, SqL.of (s2' _ _ hx), (by rw [e9]; exact hat (9 + i) hi'), _, rfl, _, _, rfl, rfl, hn, hD, ?_, ?_⟩
                      · rw [List.length_map]; exact small1000 (by omega)
                      · refine ⟨ts ++ [xs.getD (9 + i) 0 % n], _, rfl, snoc_int _ _, by simp [hl], fun t h => ?_, same_put s2' (s9.free nD), upd_same⟩
                        rcases List.mem_append.mp h with h | h
                        · exact ht t h
                        · rw [List.mem_singleton.mp h]; exact ⟨Int.emod_nonneg _ (Int.ne_of_gt hn), Int.emod_lt_of_pos _ hn⟩
                    · rintro σ ys H2 ⟨ts, v, rfl, rfl, hl, ht, s2', hD⟩
                      refine ⟨D, ts.map V.int, rfl, .inl ⟨SqL.of hD, fun tq ntq => ⟨(by show 3 ≤ sizeLine; decide), fun q nq => ?_⟩⟩⟩
                      have st := s2'.trans (same_new (o := .tup (ts.map V.int)) ntq)
                      refine k q wd ts _ (st.trans (same_new nq)) (st.free nq) hwm ⟨_, upd_same, parts_table c10 ?_⟩ ⟨_, upd_same, .inr (.inr (.inr (.inr (.inr (.inr (.inr (.inr (⟨c10, _, _, hb, rfl⟩))))))))⟩ ht (by omega)
                      exact same_new nq _ _ upd_same
                  · have c10 := strNe c10
                    have cj : wd ∈ jcm := by
                      have z := (by decide +kernel : ∀ u ∈ all20, u ∈ (["stop", "back"] : List Str) ∨ u ∈ (["set", "more"] : List Str) ∨ u ∈ (["copy", "add", "less", "load", "keep"] : List Str) ∨ u = "tell" ∨ u = "halt" ∨ u ∈ (["see", "put", "take"] : List Str) ∨ u ∈ (["zero", "below"] : List Str) ∨ u = "table" ∨ u ∈ jcm) wd (hall wd hwm)
                      rcases z with z | z | z | z | z | z | z | z | z
                      · exact absurd z c3
                      · exact absurd z c4
                      · exact absurd z c5
                      · exact absurd z c6
                      · exact absurd z c7
                      · exact absurd z c8
                      · exact absurd z c9
                      · exact absurd z c10
                      · exact z
                    refine ⟨_, rfl, _, rfl, _, rfl, x, _, _, .int (xs.getD 7 0), rfl, rfl, SqL.of (s9 _ _ hx), hat 7 (by decide), _, _, rfl, rfl, (by show (0 : Int) < 2; decide), (by show 3 ≤ sizeLine; decide), fun q nq => ?_⟩
                    exact k q wd [xs.getD 6 0 % n] _ (s9.trans (same_new nq)) (s9.free nq) hwm ⟨_, upd_same, parts_jcm ⟨c10, cj⟩⟩ ⟨_, upd_same, .inr (.inr (.inr (.inr (.inr (.inr (.inl ⟨cj, _, _, rfl⟩))))))⟩ (fun t ht => by rw [List.mem_singleton.mp ht]; exact ⟨tg0, tg1⟩) (by simp)
end
end My


set_option Elab.async false
set_option linter.all false
set_option maxRecDepth 100000
set_option maxHeartbeats 8000000
namespace My
open PySem L2
/-- rows are tuples: what keeps these keeps rows -/
def SameT (H H' : Hp) : Prop := ∀ b xs, H b = some (.tup xs) → H' b = some (.tup xs)
theorem SameT.of {H H' : Hp} (e : Same H H') : SameT H H' := fun b xs h => e b _ h
theorem SameT.trans {H H1 H2 : Hp} (a : SameT H H1) (b : SameT H1 H2) : SameT H H2 := fun c xs h => b c xs (a c xs h)
theorem SameT.lst {H : Hp} {l : Addr} {xs : List V} {o : HO} (h : H l = some (.lst xs)) : SameT H (upd H l o) := fun b ys e => by
  rw [upd_ne (ne_of e h (by intro z; cases z))]
  exact e
theorem RowAt.tups {H H' : Hp} {r : Addr} {u : Str} {ts : List Int} (e : SameT H H') (h : RowAt H r u ts) : RowAt H' r u ts := by
  obtain ⟨items, h1, h2⟩ := h
  refine ⟨items, e _ _ h1, ?_⟩
  unfold Parts at h2 ⊢
  split
  · rename_i h3
    rw [if_pos h3] at h2
    obtain ⟨b, q, h4, h5⟩ := h2
    exact ⟨b, q, h4, e _ _ h5⟩
  · rename_i h3
    rw [if_neg h3] at h2
    exact h2
/-- a row whose targets are rows of n -/
theorem ShapeAt.tups {H H' : Hp} {q : Addr} {u : Str} (e : SameT H H') (h : ShapeAt H q u) : ShapeAt H' q u := by
  obtain ⟨items, h1, h2⟩ := h
  exact ⟨items, e _ _ h1, h2⟩
def RowOk (H : Hp) (q : Addr) (n : Int) (u : Str) : Prop := ∃ ts, RowAt H q u ts ∧ (∀ t ∈ ts, 0 ≤ t ∧ t < n) ∧ ts.length ≤ 16 ∧ ShapeAt H q u
theorem RowOk.tups {H H' : Hp} {q : Addr} {n : Int} {u : Str} (e : SameT H H') (h : RowOk H q n u) : RowOk H' q n u := by
  obtain ⟨ts, h1, h2⟩ := h
  exact ⟨ts, h1.tups e, h2.1, h2.2.1, h2.2.2.tups e⟩
section
variable {P : Program} {w : World} {K : PySem.W.Frag} {mg : Str → Option Value} {base : Heap}
def spProg : Sp := fun vs H Q _ => ∃ (a : Addr) (ns : List Int) (k m : Int) (ws : Addr) (words : List Str), vs = [.ref a, .int k, .int m, .ref ws] ∧ SqL K H a (ns.map V.int) ∧ 0 ≤ k ∧ 0 < m ∧ m ≤ 100 ∧ H ws = some (.lst (words.map V.str)) ∧ 0 < words.length ∧ (∀ u ∈ words, u ∈ all20) ∧
  ∀ (l : Addr) (rows : List Addr) (H' : Hp), Same H H' → H l = none → H' l = some (.lst (rows.map V.ref)) → 0 < rows.length → (rows.length : Int) ≤ m → (∀ (i : Nat) q, rows[i]? = some q → ∃ u, RowOk H' q rows.length u ∧ (i + 1 = rows.length → u ∈ notOn)) → Q (.ref l) H'
theorem scProg : FnScope ["_law_script", "_law_at", "_law_most", "_law_words", "_law_size", "_law_rows", "_law_k", "_law_xs"] ["_law_script", "_law_at", "_law_most", "_law_words"] (defScope sProg) := ⟨rfl, rfl, rfl, by decide +kernel, rfl, by decide +kernel, by decide +kernel⟩
theorem ok_prog {f fC fD fR : Addr} {fd fdC fdD fdR : FuncData} (F : Fun K "_law_program" "_law_program" sProg f fd) (T : Txt K mg) (FC : Fun K "_law_cell_at" "_law_cell_at" sCell fC fdC) (bC : Binds K fdC ["_law_script", "_law_k"] []) (mC : mg "_law_cell_at" = some (.ref fC))
    (FD : Fun K "_law_draws" "_law_draws" sDraws fD fdD) (bD : Binds K fdD ["_law_cell", "_law_k", "_law_many"] []) (mD : mg "_law_draws" = some (.ref fD)) (FR : Fun K "_law_row" "_law_row" sRow fR fdR) (bR : Binds K fdR ["_law_xs", "_law_size", "_law_words"] []) (mR : mg "_law_row" = some (.ref fR)) :
    FnOk P w K mg base CX0 2 f fd ["_law_script", "_law_at", "_law_most", "_law_words"] (spProg (K := K)) := by
  have GC : FnOk P w K mg base CX0 1 fC fdC ["_law_script", "_law_k"] (spCell (K := K)) := ok_cell FC T
  have GD : FnOk P w K mg base CX0 1 fD fdD ["_law_cell", "_law_k", "_law_many"] spDraws := ok_draws FD T
  have GR : FnOk P w K mg base CX0 1 fR fdR ["_law_xs", "_law_size", "_law_words"] spRow := ok_row FR T
  refine F.ok scProg (fun vs H Q E h => ?_) (fun cdv A outer s H vs Q E hr h => ?_)
  · obtain ⟨a, ns, k, m, ws, words, rfl, _⟩ := h
    rfl
  · obtain ⟨a, ns, k, m, ws, words, rfl, hS, hk, hm, hm1, hw, hwl, hall, q⟩ := h
    refine ⟨_, pss_cons (ps_set (i := 4) scProg.nd rfl (Or.inl rfl) (pe_op op_add pe_int (pe_op op_mod (pe_call GC hr rfl mC FC.kp bC .nil pass0 (pa_cons (pv 0) (pa_cons (pv 1) pa_nil))) (pv 2))))
      (pss_cons (ps_set (i := 5) scProg.nd rfl (Or.inl rfl) (pe_lst pa_nil))
      (pss_cons (ps_for PassesOwn.never rfl (pi_range1 rfl T.range (pa_cons (pv 4) pa_nil)) (pg_name (i := 6) scProg.nd rfl (Or.inl rfl))
        (pss_one (ps_expr (pe_bm PySem.F.plainAttrs_list PySem.F.slot_list_append PySem.F.type_list_append mt_append (pv 5) (pa_cons
          (pe_call GR hr rfl mR FR.kp bR .nil pass0 (pa_cons (pe_call GD hr rfl mD FD.kp bD .nil pass0 (pa_cons (pe_call GC hr rfl mC FC.kp bC .nil pass0 (pa_cons (pv 0) (pa_cons (pe_op op_add (pe_op op_add (pv 1) pe_int) (pv 6)) pa_nil))) (pa_cons (pv 6) (pa_cons pe_int pa_nil)))) (pa_cons (pv 4) (pa_cons (pv 3) pa_nil)))) pa_nil)))))
      (pss_cons (ps_if (pt_cmpR op_notIn_seq (pe_ix ix_tup (pe_ix ix_list (pv 5) (pe_un un_neg pe_int) (fun _ _ => rfl)) pe_int (fun _ _ => rfl)) (pe_tup (pa_cons pe_str (pa_cons pe_str (pa_cons pe_str (pa_cons pe_str pa_nil))))) rfl)
        (pss_cons (ps_set (i := 7) scProg.nd rfl (Or.inl rfl) (pe_call GD hr rfl mD FD.kp bD .nil pass0 (pa_cons (pe_call GC hr rfl mC FC.kp bC .nil pass0 (pa_cons (pv 0) (pa_cons (pe_op op_add (pv 1) (pv 4)) pa_nil))) (pa_cons pe_int (pa_cons pe_int pa_nil)))))
        (pss_one (ps_asg (pe_call GR hr rfl mR FR.kp bR .nil pass0 (pa_cons (pv 7) (pa_cons (pv 4) (pa_cons (pe_lst (pa_cons pe_str (pa_cons pe_str (pa_cons pe_str (pa_cons pe_str pa_nil))))) pa_nil)))) (pg_sub (pv 5) (pe_un un_neg pe_int) set_list)))) pss_nil)
      (pss_one (ps_ret (pv 5)))))), ?_⟩
    refine ⟨_, rfl, _, rfl, a, ns, k, rfl, hS, hk, fun c => ?_⟩
    refine ⟨_, rfl, _, _, rfl, rfl, hm, _, _, rfl, rfl, ?_⟩
    have c0 := Int.emod_nonneg c (Int.ne_of_gt hm)
    have c1 := Int.emod_lt_of_pos c hm
    dsimp only
    generalize hn : 1 + c % m = n
    have n0 : 0 < n := by omega
    have n1 : n ≤ 100 := by omega
    have n2 : n ≤ m := by omega
    refine ⟨(by show 0 ≤ sizeLine; decide), fun l nl => ?_⟩
    refine ⟨_, rfl, n, rfl, by omega, by omega, for_range (n := n.toNat) (fun i σ H2 => ∃ (rs : List Addr) (v : Option V),
        σ = [some (.ref a), some (.int k), some (.int m), some (.ref ws), some (.int n), some (.ref l), v, none] ∧ Same H H2 ∧ H2 l = some (.lst (rs.map V.ref)) ∧ rs.length = i ∧ ∀ q ∈ rs, ∃ u, RowOk H2 q n u) ?_ ?_ ?_⟩
    · exact ⟨[], none, rfl, same_new nl, upd_same, rfl, fun q h => absurd h (by simp)⟩
    · rintro i σ H2 hi ⟨rs, v, rfl, s2, h2, hl2, ok2⟩
      refine ⟨_, rfl, .inl ⟨rfl, _, SqL.of h2⟩, _, rfl, _, rfl, _, _, rfl, rfl, _, rfl, _, _, rfl, rfl, a, ns, _, rfl, s2.seq hS, by omega, fun c2 => ?_⟩
      refine ⟨_, rfl, _, _, 25, rfl, by decide, by decide, fun ld xs H3 s3 nld hld hlen => ?_⟩
      have s23 := s2.trans s3
      refine ⟨_, rfl, _, rfl, ld, xs, n, ws, words, rfl, hld, hlen, n0, s23 _ _ hw, hwl, hall, fun q4 u ts H4 s4 nq hu hR hsh ht hlt => ?_⟩
      have s24 := s3.trans s4
      have h4 := s24 _ _ h2
      refine ⟨l, _, _, rfl, rfl, h4, ?_, ?_⟩
      · rw [List.length_map]
        exact small1000 (by omega)
      · have e : rs.map V.ref ++ [V.ref q4] = (rs ++ [q4]).map V.ref := by simp
        rw [e]
        have tt : SameT H4 (upd H4 l (.lst ((rs ++ [q4]).map V.ref))) := SameT.lst h4
        refine ⟨rs ++ [q4], _, rfl, same_put (s2.trans s24) nl, upd_same, by simp [hl2], fun q5 h5 => ?_⟩
        rcases List.mem_append.mp h5 with h5 | h5
        · obtain ⟨u5, o5⟩ := ok2 q5 h5
          exact ⟨u5, o5.tups ((SameT.of s24).trans tt)⟩
        · rw [List.mem_singleton.mp h5]
          exact ⟨u, (show RowOk H4 q4 n u from ⟨ts, hR, ht, hlt, hsh⟩).tups tt⟩
    · rintro σ H2 ⟨rs, v, rfl, s2, h2, hl2, ok2⟩
      obtain ⟨rs', ql, rfl⟩ : ∃ rs' ql, rs = rs' ++ [ql] := by
        rcases List.eq_nil_or_concat rs with e | ⟨rs', ql, e⟩
        · rw [e] at hl2
          simp at hl2
          omega
        · exact ⟨rs', ql, by simpa using e⟩
      have hlen : ((rs' ++ [ql]).length : Int) = n := by omega
      obtain ⟨u, ts, ⟨items, hq, hP⟩, ht, hlt⟩ := ok2 ql (by simp)
      have e2 : (rs' ++ [ql]).map V.ref = rs'.map V.ref ++ [V.ref ql] := by simp
      refine ⟨_, rfl, _, rfl, l, _, _, .ref ql, rfl, rfl, SqL.of h2, (by rw [e2]; exact atI_last _ _), ql, _, _, .str u, rfl, rfl, SqT.of hq, at0 _ _, (by show 4 ≤ sizeLine; decide), fun t1 m1 => ⟨t1, notOn.map V.str, rfl, .inr (SqT.of upd_same), rfl, rfl, _, rfl, ?_⟩⟩
      have s3 := same_new (o := .tup (notOn.map V.str)) m1
      rw [show (if true = true then !inV (.str u) (notOn.map V.str) else inV (.str u) (notOn.map V.str)) = !decide (u ∈ notOn) from by rw [if_pos rfl, inV_str]]
      have nth : ∀ (i : Nat) q5, (rs' ++ [ql])[i]? = some q5 → q5 ∈ rs' ++ [ql] := fun i q5 h => List.mem_of_getElem? h
      refine ite2 (fun h1 => ?_) (fun h1 => ?_)
      · refine ⟨_, rfl, _, rfl, _, rfl, _, _, rfl, rfl, a, ns, _, rfl, (s2.trans s3).seq hS, by omega, fun c2 => ?_⟩
        refine ⟨_, _, 25, rfl, by decide, by decide, fun ld xs H4 s4 nld hld hlen4 => ?_⟩
        refine ⟨_, rfl, _, rfl, (by show 4 ≤ sizeLine; decide), fun lw nlw => ?_⟩
        have s5 := same_new (o := .lst (notOn.map V.str)) nlw
        refine ⟨ld, xs, n, lw, notOn, rfl, s5 _ _ hld, hlen4, n0, upd_same, by decide, (by decide +kernel), fun q6 u6 ts6 H6 s6 nq6 hu6 hR6 hsh6 ht6 hlt6 => ?_⟩
        have s36 := s3.trans (s4.trans (s5.trans s6))
        have h6 := s36 _ _ h2
        refine ⟨_, rfl, _, rfl, l, _, _, rs'.length, rfl, rfl, h6, ?_, ?_⟩
        · rw [e2]
          unfold ixN
          rw [if_neg (by decide), if_pos (by simp; omega)]
          congr 1
          simp
          omega
        · have e3 : ((rs' ++ [ql]).map V.ref).set rs'.length (V.ref q6) = (rs' ++ [q6]).map V.ref := by simp
          rw [e3]
          have tt : SameT H6 (upd H6 l (.lst ((rs' ++ [q6]).map V.ref))) := SameT.lst h6
          have hlen6 : ((rs' ++ [q6]).length : Int) = n := by simp at hlen ⊢; omega
          refine ⟨_, rfl, q l (rs' ++ [q6]) _ (same_put (s2.trans s36) nl) nl upd_same (by simp) (by omega) fun i q7 h7 => ?_⟩
          rw [hlen6]
          rcases Nat.lt_or_ge i rs'.length with z | z
          · rw [List.getElem?_append_left z] at h7
            obtain ⟨u7, o7⟩ := ok2 q7 (List.mem_append_left _ (List.mem_of_getElem? h7))
            exact ⟨u7, o7.tups ((SameT.of s36).trans tt), fun e => by simp at e; omega⟩
          · rw [List.getElem?_append_right z] at h7
            have h8 : q7 = q6 := by
              cases hz : i - rs'.length with
              | zero => rw [hz] at h7; simpa using h7.symm
              | succ d => rw [hz] at h7; simp at h7
            rw [h8]
            exact ⟨u6, (show RowOk H6 q6 n u6 from ⟨ts6, hR6, ht6, hlt6, hsh6⟩).tups tt, fun _ => hu6⟩
      · have h1 : u ∈ notOn := by simpa using h1
        refine ⟨_, rfl, q l (rs' ++ [ql]) _ (s2.trans s3) nl (s3 _ _ h2) (by simp) (by omega) fun i q7 h7 => ?_⟩
        rw [hlen]
        by_cases hi : i + 1 = (rs' ++ [ql]).length
        · have h8 : q7 = ql := by
            have : i = rs'.length := by simp at hi; omega
            rw [this] at h7
            simpa using h7.symm
          rw [h8]
          exact ⟨u, (show RowOk H2 ql n u from ⟨ts, ⟨items, hq, hP⟩, ht, hlt⟩).tups (SameT.of s3), fun _ => h1⟩
        · obtain ⟨u7, o7⟩ := ok2 q7 (List.mem_of_getElem? h7)
          exact ⟨u7, o7.tups (SameT.of s3), fun e => absurd e hi⟩
end
end My


set_option Elab.async false
set_option linter.all false
set_option maxRecDepth 100000
set_option maxHeartbeats 4000000
namespace My
open PySem L2
/-! ### attributes by their places -/
theorem look_zip : ∀ (ns : List Str) (vs : List V) (i : Nat) (x : Str), ns.Nodup → ns[i]? = some x → (ns.zip vs).lookup x = vs[i]?
  | [], _, i, x, _, h => by simp at h
  | n :: ns, [], i, x, _, h => by simp
  | n :: ns, v :: vs, 0, x, _, h => by
    have e : n = x := by simpa using h
    subst e
    rw [List.zip_cons_cons, List.lookup_cons_self]
    rfl
  | n :: ns, v :: vs, i + 1, x, hn, h => by
    have hn' := List.nodup_cons.mp hn
    have hm : x ∈ ns := List.mem_of_getElem? (by simpa using h)
    have ne : ¬ x = n := fun e => hn'.1 (e ▸ hm)
    rw [List.zip_cons_cons, List.lookup_cons, show (x == n) = false from beq_eq_false_iff_ne.mpr ne]
    exact look_zip ns vs i x hn'.2 (by simpa using h)
theorem look_no : ∀ (ns : List Str) (vs : List V) (x : Str), ¬ x ∈ ns → (ns.zip vs).lookup x = none
  | [], _, _, _ => by simp
  | _ :: _, [], _, _ => by simp
  | n :: ns, v :: vs, x, h => by
    have ne : ¬ x = n := fun e => h (by simp [e])
    rw [List.zip_cons_cons, List.lookup_cons, show (x == n) = false from beq_eq_false_iff_ne.mpr ne]
    exact look_no ns vs x fun z => h (by simp [z])
theorem put_zip (y : V) : ∀ (ns : List Str) (vs : List V) (i : Nat) (x : Str), ns.Nodup → ns[i]? = some x → i < vs.length → putF x y (ns.zip vs) = ns.zip (vs.set i y)
  | [], _, i, x, _, h, _ => by simp at h
  | n :: ns, [], i, x, _, h, l => by simp at l
  | n :: ns, v :: vs, 0, x, _, h, _ => by
    have e : n = x := by simpa using h
    subst e
    show (if n = n then _ else _) = _
    rw [if_pos rfl]
    rfl
  | n :: ns, v :: vs, i + 1, x, hn, h, l => by
    have hn' := List.nodup_cons.mp hn
    have hm : x ∈ ns := List.mem_of_getElem? (by simpa using h)
    have ne : ¬ n = x := fun e => hn'.1 (e ▸ hm)
    show (if n = x then _ else (n, v) :: putF x y (ns.zip vs)) = _
    rw [if_neg ne, put_zip y ns vs i x hn'.2 (by simpa using h) (by simpa using l)]
    rfl
theorem put_new (y : V) (x : Str) : ∀ (ns : List Str) (vs : List V), ¬ x ∈ ns → ns.length = vs.length → putF x y (ns.zip vs) = (ns ++ [x]).zip (vs ++ [y])
  | [], [], _, _ => rfl
  | [], _ :: _, _, h => by simp at h
  | _ :: _, [], _, h => by simp at h
  | n :: ns, v :: vs, h, l => by
    have ne : ¬ n = x := fun e => h (by simp [e])
    show (if n = x then _ else (n, v) :: putF x y (ns.zip vs)) = _
    rw [if_neg ne, put_new y x ns vs (fun z => h (by simp [z])) (by simpa using l)]
    rfl
def names : List Str := ["program", "in_boxes", "in_cells", "in_asides", "rung", "told_numbers", "seen_numbers", "pile", "marks_done", "here", "how_ended"]
theorem names_nd : names.Nodup := by decide +kernel
/-- where a machine keeps what -/
structure MA where
  (dx p1 p2 p3 p4 p5 p6 p7 p8 : Addr)
def vals (m : MA) (k : Int) (h w : V) : List V := [.ref m.p1, .ref m.p2, .ref m.p3, .ref m.p4, .ref m.p5, .ref m.p6, .ref m.p7, .ref m.p8, .int k, h, w]
abbrev flds (m : MA) (k : Int) (h w : V) : List (Str × V) := names.zip (vals m k h w)
section
variable {m : MA} {k : Int} {h w v : V}
theorem f_prog : (flds m k h w).lookup ("program" : Str) = some (V.ref m.p1) := look_zip names _ 0 _ names_nd rfl
theorem f_box : (flds m k h w).lookup ("in_boxes" : Str) = some (V.ref m.p2) := look_zip names _ 1 _ names_nd rfl
theorem f_cell : (flds m k h w).lookup ("in_cells" : Str) = some (V.ref m.p3) := look_zip names _ 2 _ names_nd rfl
theorem f_asd : (flds m k h w).lookup ("in_asides" : Str) = some (V.ref m.p4) := look_zip names _ 3 _ names_nd rfl
theorem f_rung : (flds m k h w).lookup ("rung" : Str) = some (V.ref m.p5) := look_zip names _ 4 _ names_nd rfl
theorem f_told : (flds m k h w).lookup ("told_numbers" : Str) = some (V.ref m.p6) := look_zip names _ 5 _ names_nd rfl
theorem f_seen : (flds m k h w).lookup ("seen_numbers" : Str) = some (V.ref m.p7) := look_zip names _ 6 _ names_nd rfl
theorem f_pile : (flds m k h w).lookup ("pile" : Str) = some (V.ref m.p8) := look_zip names _ 7 _ names_nd rfl
theorem f_marks : (flds m k h w).lookup ("marks_done" : Str) = some (V.int k) := look_zip names _ 8 _ names_nd rfl
theorem f_here : (flds m k h w).lookup ("here" : Str) = some h := look_zip names _ 9 _ names_nd rfl
theorem f_no {x : Str} (hx : ¬ x ∈ names) : (flds m k h w).lookup x = none := look_no names _ x hx
theorem s_here : putF "here" v (flds m k h w) = flds m k v w := (put_zip v names (vals m k h w) 9 _ names_nd rfl (by show 9 < 11; decide)).trans rfl
theorem s_how : putF "how_ended" v (flds m k h w) = flds m k h v := (put_zip v names (vals m k h w) 10 _ names_nd rfl (by show 10 < 11; decide)).trans rfl
theorem s_marks {j : Int} : putF "marks_done" (.int j) (flds m k h w) = flds m j h w := (put_zip (.int j) names (vals m k h w) 8 _ names_nd rfl (by show 8 < 11; decide)).trans rfl
theorem f_few : (flds m k h w).length < 1000 := by
  show 11 < 1000
  decide
end
/-- what a machine may change -/
def Own (m : MA) (x c : Addr) : Prop := c = x ∨ c = m.p2 ∨ c = m.p3 ∨ c = m.p4 ∨ c = m.p5 ∨ c = m.p6 ∨ c = m.p7 ∨ c = m.p8
def Fr (m : MA) (x : Addr) (H H' : Hp) : Prop := ∀ c o, ¬ Own m x c → H c = some o → H' c = some o
theorem Fr.refl {m : MA} {x : Addr} {H : Hp} : Fr m x H H := fun _ _ _ e => e
theorem Fr.trans {m : MA} {x : Addr} {H H1 H2 : Hp} (a : Fr m x H H1) (b : Fr m x H1 H2) : Fr m x H H2 := fun c o n e => b c o n (a c o n e)
theorem Fr.same {m : MA} {x : Addr} {H H1 : Hp} (e : Same H H1) : Fr m x H H1 := fun c o _ h => e c o h
theorem Fr.upd {m : MA} {x p : Addr} {H : Hp} {o : HO} (h : Own m x p) : Fr m x H (upd H p o) := fun c u n e => by
  have ne : c ≠ p := fun z => n (by rw [z]; exact h)
  rw [upd_ne ne]
  exact e
/-- a machine's state -/
structure Zt where
  here : V
  how : Option (List V)
  bs : List Int
  cf : Int → Int
  af : Int → Int
  told : List Int
  seen : List (Int × Int)
  pile : List Int
  k : Int
def HowIs (H : Hp) (v : V) : Option (List V) → Prop
  | none => v = .non
  | some xs => ∃ p, v = .ref p ∧ H p = some (.tup xs)
def SeenAt (H : Hp) (ps : List Addr) (sn : List (Int × Int)) : Prop := ps.length = sn.length ∧ ∀ (i : Nat) p c, ps[i]? = some p → sn[i]? = some c → H p = some (.tup [.int c.1, .int c.2])
/-- tuples stay -/
def SameT2 (H H' : Hp) : Prop := ∀ b xs, H b = some (.tup xs) → H' b = some (.tup xs)
theorem SameT2.of {H H' : Hp} (e : Same H H') : SameT2 H H' := fun b xs h => e b _ h
theorem SameT2.upd {H : Hp} {p : Addr} {o o' : HO} (h : H p = some o) (n : ∀ xs, o ≠ .tup xs) : SameT2 H (upd H p o') := fun b xs e => by
  rw [upd_ne (ne_of e h (fun z => n xs z.symm))]
  exact e
theorem HowIs.tups {H H' : Hp} {v : V} {w : Option (List V)} (e : SameT2 H H') (h : HowIs H v w) : HowIs H' v w := by
  cases w with
  | none => exact h
  | some xs =>
    obtain ⟨p, a, b⟩ := h
    exact ⟨p, a, e _ _ b⟩
theorem SeenAt.tups {H H' : Hp} {ps : List Addr} {sn : List (Int × Int)} (e : SameT2 H H') (h : SeenAt H ps sn) : SeenAt H' ps sn := ⟨h.1, fun i p c a b => e _ _ (h.2 i p c a b)⟩
structure Apart (m : MA) : Prop where
  (n12 : m.p1 ≠ m.p2) (n16 : m.p1 ≠ m.p6) (n17 : m.p1 ≠ m.p7) (n18 : m.p1 ≠ m.p8) (n26 : m.p2 ≠ m.p6) (n27 : m.p2 ≠ m.p7) (n28 : m.p2 ≠ m.p8) (n67 : m.p6 ≠ m.p7) (n68 : m.p6 ≠ m.p8) (n78 : m.p7 ≠ m.p8)
  (n34 : m.p3 ≠ m.p4) (n35 : m.p3 ≠ m.p5) (n45 : m.p4 ≠ m.p5)
structure MG (C : Addr) (H : Hp) (x : Addr) (m : MA) (rows : List V) (rung : List (Key × V)) (B : Nat) (z : Zt) : Prop where
  obj : ∃ w, H x = some (.ins C m.dx (flds m z.k z.here w)) ∧ HowIs H w z.how
  prog : H m.p1 = some (.lst rows)
  box : H m.p2 = some (.lst (z.bs.map V.int))
  b8 : z.bs.length = 8
  cell : ∃ d, H m.p3 = some (.dK d) ∧ Rep d z.cf ∧ d.length ≤ B
  asd : ∃ d, H m.p4 = some (.dK d) ∧ Rep d z.af ∧ d.length ≤ B
  rg : H m.p5 = some (.dK rung)
  told : H m.p6 = some (.lst (z.told.map V.int))
  seen : ∃ ps, H m.p7 = some (.lst (ps.map V.ref)) ∧ SeenAt H ps z.seen
  pil : H m.p8 = some (.lst (z.pile.map V.int))
  ap : Apart m
  lens : z.told.length ≤ B ∧ z.seen.length ≤ B ∧ z.pile.length ≤ B
  big : B ≤ 900
section
variable {C x : Addr} {H H' : Hp} {m : MA} {rows : List V} {rung : List (Key × V)} {B : Nat} {z : Zt}
theorem MG.same (M : MG C H x m rows rung B z) (e : Same H H') : MG C H' x m rows rung B z := by
  obtain ⟨w, o1, o2⟩ := M.obj
  obtain ⟨d, c1, c2⟩ := M.cell
  obtain ⟨d', a1, a2⟩ := M.asd
  obtain ⟨ps, s1, s2⟩ := M.seen
  exact ⟨⟨w, e _ _ o1, o2.tups (.of e)⟩, e _ _ M.prog, e _ _ M.box, M.b8, ⟨d, e _ _ c1, c2⟩, ⟨d', e _ _ a1, a2⟩, e _ _ M.rg, e _ _ M.told, ⟨ps, e _ _ s1, s2.tups (.of e)⟩, e _ _ M.pil, M.ap, M.lens, M.big⟩
theorem MG.more (M : MG C H x m rows rung B z) {B' : Nat} (h : B ≤ B') (hb : B' ≤ 900) : MG C H x m rows rung B' z := by
  obtain ⟨d, c1, c2, c3⟩ := M.cell
  obtain ⟨d', a1, a2, a3⟩ := M.asd
  obtain ⟨l1, l2, l3⟩ := M.lens
  exact ⟨M.obj, M.prog, M.box, M.b8, ⟨d, c1, c2, by omega⟩, ⟨d', a1, a2, by omega⟩, M.rg, M.told, M.seen, M.pil, M.ap, ⟨by omega, by omega, by omega⟩, hb⟩
theorem MG.notOwn (M : MG C H x m rows rung B z) {q : Addr} {xs : List V} (h : H q = some (.tup xs)) : ¬ Own m x q := by
  obtain ⟨w, o1, o2⟩ := M.obj
  obtain ⟨d, c1, c2⟩ := M.cell
  obtain ⟨d', a1, a2⟩ := M.asd
  obtain ⟨ps, s1, s2⟩ := M.seen
  rintro (rfl | rfl | rfl | rfl | rfl | rfl | rfl | rfl)
  · rw [o1] at h; cases h
  · rw [M.box] at h; cases h
  · rw [c1] at h; cases h
  · rw [a1] at h; cases h
  · rw [M.rg] at h; cases h
  · rw [M.told] at h; cases h
  · rw [s1] at h; cases h
  · rw [M.pil] at h; cases h
/-- the object is written -/
theorem MG.put (M : MG C H x m rows rung B z) {k' : Int} {here' w' : V} {how' : Option (List V)} (hw : HowIs H w' how') : MG C (upd H x (.ins C m.dx (flds m k' here' w'))) x m rows rung B { z with k := k', here := here', how := how' } := by
  obtain ⟨w, o1, o2⟩ := M.obj
  obtain ⟨d, c1, c2⟩ := M.cell
  obtain ⟨d', a1, a2⟩ := M.asd
  obtain ⟨ps, s1, s2⟩ := M.seen
  have e : ∀ {c o}, H c = some o → (∀ fs, o ≠ .ins C m.dx fs) → upd H x (.ins C m.dx (flds m k' here' w')) c = some o := fun {c o} h n => by
    rw [upd_ne (ne_of h o1 (n _))]
    exact h
  have t : SameT2 H (upd H x (.ins C m.dx (flds m k' here' w'))) := .upd o1 (by intro _ z; cases z)
  exact ⟨⟨w', upd_same, hw.tups t⟩, e M.prog (by intro _ z; cases z), e M.box (by intro _ z; cases z), M.b8, ⟨d, e c1 (by intro _ z; cases z), c2⟩, ⟨d', e a1 (by intro _ z; cases z), a2⟩, e M.rg (by intro _ z; cases z), e M.told (by intro _ z; cases z), ⟨ps, e s1 (by intro _ z; cases z), s2.tups t⟩, e M.pil (by intro _ z; cases z), M.ap, M.lens, M.big⟩
theorem MG.x_ (M : MG C H x m rows rung B z) {p : Addr} {o : HO} (h : H p = some o) (n : ∀ fs, o ≠ .ins C m.dx fs) : x ≠ p := by
  obtain ⟨w, o1, _⟩ := M.obj
  exact ne_of o1 h (fun z => n _ z.symm)
/-- a list of it is written -/
theorem MG.boxes (M : MG C H x m rows rung B z) {bs' : List Int} (h8 : bs'.length = 8) : MG C (upd H m.p2 (.lst (bs'.map V.int))) x m rows rung B { z with bs := bs' } := by
  obtain ⟨w, o1, o2⟩ := M.obj
  obtain ⟨d, c1, c2⟩ := M.cell
  obtain ⟨d', a1, a2⟩ := M.asd
  obtain ⟨ps, s1, s2⟩ := M.seen
  have t : SameT2 H (upd H m.p2 (.lst (bs'.map V.int))) := .upd M.box (by intro _ z; cases z)
  have e : ∀ {c o}, H c = some o → c ≠ m.p2 → upd H m.p2 (.lst (bs'.map V.int)) c = some o := fun {c o} h n => by rw [upd_ne n]; exact h
  exact ⟨⟨w, e o1 (M.x_ M.box (by intro _ z; cases z)), o2.tups t⟩, e M.prog M.ap.n12, upd_same, h8, ⟨d, e c1 (ne_of c1 M.box (by intro z; cases z)), c2⟩, ⟨d', e a1 (ne_of a1 M.box (by intro z; cases z)), a2⟩, e M.rg (ne_of M.rg M.box (by intro z; cases z)), e M.told M.ap.n26.symm, ⟨ps, e s1 M.ap.n27.symm, s2.tups t⟩, e M.pil M.ap.n28.symm, M.ap, M.lens, M.big⟩
theorem MG.tolds (M : MG C H x m rows rung B z) {t' : List Int} (hl : t'.length ≤ B) : MG C (upd H m.p6 (.lst (t'.map V.int))) x m rows rung B { z with told := t' } := by
  obtain ⟨w, o1, o2⟩ := M.obj
  obtain ⟨d, c1, c2⟩ := M.cell
  obtain ⟨d', a1, a2⟩ := M.asd
  obtain ⟨ps, s1, s2⟩ := M.seen
  have t : SameT2 H (upd H m.p6 (.lst (t'.map V.int))) := .upd M.told (by intro _ z; cases z)
  have e : ∀ {c o}, H c = some o → c ≠ m.p6 → upd H m.p6 (.lst (t'.map V.int)) c = some o := fun {c o} h n => by rw [upd_ne n]; exact h
  exact ⟨⟨w, e o1 (M.x_ M.told (by intro _ z; cases z)), o2.tups t⟩, e M.prog M.ap.n16, e M.box M.ap.n26, M.b8, ⟨d, e c1 (ne_of c1 M.told (by intro z; cases z)), c2⟩, ⟨d', e a1 (ne_of a1 M.told (by intro z; cases z)), a2⟩, e M.rg (ne_of M.rg M.told (by intro z; cases z)), upd_same, ⟨ps, e s1 M.ap.n67.symm, s2.tups t⟩, e M.pil M.ap.n68.symm, M.ap, ⟨hl, M.lens.2⟩, M.big⟩
theorem MG.seens (M : MG C H x m rows rung B z) {ps : List Addr} {sn : List (Int × Int)} (hs : SeenAt H ps sn) (hl : sn.length ≤ B) : MG C (upd H m.p7 (.lst (ps.map V.ref))) x m rows rung B { z with seen := sn } := by
  obtain ⟨w, o1, o2⟩ := M.obj
  obtain ⟨d, c1, c2⟩ := M.cell
  obtain ⟨d', a1, a2⟩ := M.asd
  obtain ⟨ps0, s1, s2⟩ := M.seen
  have t : SameT2 H (upd H m.p7 (.lst (ps.map V.ref))) := .upd s1 (by intro _ z; cases z)
  have e : ∀ {c o}, H c = some o → c ≠ m.p7 → upd H m.p7 (.lst (ps.map V.ref)) c = some o := fun {c o} h n => by rw [upd_ne n]; exact h
  exact ⟨⟨w, e o1 (M.x_ s1 (by intro _ z; cases z)), o2.tups t⟩, e M.prog M.ap.n17, e M.box M.ap.n27, M.b8, ⟨d, e c1 (ne_of c1 s1 (by intro z; cases z)), c2⟩, ⟨d', e a1 (ne_of a1 s1 (by intro z; cases z)), a2⟩, e M.rg (ne_of M.rg s1 (by intro z; cases z)), e M.told M.ap.n67, ⟨ps, upd_same, hs.tups t⟩, e M.pil M.ap.n78.symm, M.ap, ⟨M.lens.1, hl, M.lens.2.2⟩, M.big⟩
theorem MG.piles (M : MG C H x m rows rung B z) {p' : List Int} (hl : p'.length ≤ B) : MG C (upd H m.p8 (.lst (p'.map V.int))) x m rows rung B { z with pile := p' } := by
  obtain ⟨w, o1, o2⟩ := M.obj
  obtain ⟨d, c1, c2⟩ := M.cell
  obtain ⟨d', a1, a2⟩ := M.asd
  obtain ⟨ps, s1, s2⟩ := M.seen
  have t : SameT2 H (upd H m.p8 (.lst (p'.map V.int))) := .upd M.pil (by intro _ z; cases z)
  have e : ∀ {c o}, H c = some o → c ≠ m.p8 → upd H m.p8 (.lst (p'.map V.int)) c = some o := fun {c o} h n => by rw [upd_ne n]; exact h
  exact ⟨⟨w, e o1 (M.x_ M.pil (by intro _ z; cases z)), o2.tups t⟩, e M.prog M.ap.n18, e M.box M.ap.n28, M.b8, ⟨d, e c1 (ne_of c1 M.pil (by intro z; cases z)), c2⟩, ⟨d', e a1 (ne_of a1 M.pil (by intro z; cases z)), a2⟩, e M.rg (ne_of M.rg M.pil (by intro z; cases z)), e M.told M.ap.n68, ⟨ps, e s1 M.ap.n78, s2.tups t⟩, upd_same, M.ap, ⟨M.lens.1, M.lens.2.1, hl⟩, M.big⟩
theorem MG.cells (M : MG C H x m rows rung B z) {d0 : List (Key × V)} {f : Int → Int} (r : Rep d0 f) (hl : d0.length ≤ B) : MG C (upd H m.p3 (.dK d0)) x m rows rung B { z with cf := f } := by
  obtain ⟨w, o1, o2⟩ := M.obj
  obtain ⟨d, c1, c2⟩ := M.cell
  obtain ⟨d', a1, a2⟩ := M.asd
  obtain ⟨ps, s1, s2⟩ := M.seen
  have t : SameT2 H (upd H m.p3 (.dK d0)) := .upd c1 (by intro _ z; cases z)
  have e : ∀ {c o}, H c = some o → c ≠ m.p3 → upd H m.p3 (.dK d0) c = some o := fun {c o} h n => by rw [upd_ne n]; exact h
  exact ⟨⟨w, e o1 (M.x_ c1 (by intro _ z; cases z)), o2.tups t⟩, e M.prog (ne_of M.prog c1 (by intro z; cases z)), e M.box (ne_of M.box c1 (by intro z; cases z)), M.b8, ⟨d0, upd_same, r, hl⟩, ⟨d', e a1 M.ap.n34.symm, a2⟩, e M.rg M.ap.n35.symm, e M.told (ne_of M.told c1 (by intro z; cases z)), ⟨ps, e s1 (ne_of s1 c1 (by intro z; cases z)), s2.tups t⟩, e M.pil (ne_of M.pil c1 (by intro z; cases z)), M.ap, M.lens, M.big⟩
theorem MG.asids (M : MG C H x m rows rung B z) {d0 : List (Key × V)} {f : Int → Int} (r : Rep d0 f) (hl : d0.length ≤ B) : MG C (upd H m.p4 (.dK d0)) x m rows rung B { z with af := f } := by
  obtain ⟨w, o1, o2⟩ := M.obj
  obtain ⟨d, c1, c2⟩ := M.cell
  obtain ⟨d', a1, a2⟩ := M.asd
  obtain ⟨ps, s1, s2⟩ := M.seen
  have t : SameT2 H (upd H m.p4 (.dK d0)) := .upd a1 (by intro _ z; cases z)
  have e : ∀ {c o}, H c = some o → c ≠ m.p4 → upd H m.p4 (.dK d0) c = some o := fun {c o} h n => by rw [upd_ne n]; exact h
  exact ⟨⟨w, e o1 (M.x_ a1 (by intro _ z; cases z)), o2.tups t⟩, e M.prog (ne_of M.prog a1 (by intro z; cases z)), e M.box (ne_of M.box a1 (by intro z; cases z)), M.b8, ⟨d, e c1 M.ap.n34, c2⟩, ⟨d0, upd_same, r, hl⟩, e M.rg M.ap.n45.symm, e M.told (ne_of M.told a1 (by intro z; cases z)), ⟨ps, e s1 (ne_of s1 a1 (by intro z; cases z)), s2.tups t⟩, e M.pil (ne_of M.pil a1 (by intro z; cases z)), M.ap, M.lens, M.big⟩
theorem MG.at (M : MG C H x m rows rung B z) {b : Int} (hb : Bx b) : atI (z.bs.map V.int) b = some (.int (z.bs.getD b.toNat 0)) := by
  obtain ⟨j, rfl⟩ := Int.eq_ofNat_of_zero_le hb.1
  have hj : j < z.bs.length := by have := hb.2; have := M.b8; omega
  refine atI_nat (j := j) ?_
  rw [List.getElem?_map, List.getElem?_eq_getElem hj, Int.toNat_natCast, List.getD_eq_getElem?_getD, List.getElem?_eq_getElem hj]
  rfl
theorem MG.ix (M : MG C H x m rows rung B z) {b : Int} (hb : Bx b) : ixN (z.bs.map V.int).length b = some b.toNat := by
  obtain ⟨j, rfl⟩ := Int.eq_ofNat_of_zero_le hb.1
  rw [List.length_map, M.b8]
  have := hb.2
  unfold ixN
  rw [if_pos (by omega), if_pos (by omega)]
end
/-- what the walk asks of the class -/
structure MTx (K : PySem.W.Frag) (mg : Str → Option Value) (C : Addr) : Prop where
  cl : Cls K C
  nP : NoAttr K C "program"
  nB : NoAttr K C "in_boxes"
  nC : NoAttr K C "in_cells"
  nA : NoAttr K C "in_asides"
  nR : NoAttr K C "rung"
  nT : NoAttr K C "told_numbers"
  nS : NoAttr K C "seen_numbers"
  nL : NoAttr K C "pile"
  nM : NoAttr K C "marks_done"
  nH : NoAttr K C "here"
  nE : NoAttr K C "how_ended"
end My


set_option Elab.async false
set_option linter.all false
set_option maxRecDepth 100000
set_option maxHeartbeats 4000000
namespace My
open PySem L2
abbrev d_stop : Stmt := top 10
abbrev d_halt : Stmt := top 11
abbrev d_back : Stmt := top 12
abbrev d_set : Stmt := top 13
abbrev d_more : Stmt := top 14
abbrev d_copy : Stmt := top 15
abbrev d_add : Stmt := top 16
abbrev d_less : Stmt := top 17
abbrev d_load : Stmt := top 18
abbrev d_keep : Stmt := top 19
abbrev d_tell : Stmt := top 20
abbrev d_see : Stmt := top 21
abbrev d_put : Stmt := top 22
abbrev d_take : Stmt := top 23
abbrev d_jump : Stmt := top 24
abbrev d_zero : Stmt := top 25
abbrev d_below : Stmt := top 26
abbrev d_call : Stmt := top 27
abbrev d_mark : Stmt := top 28
abbrev d_table : Stmt := top 29
section
variable {P : Program} {w : World} {K : PySem.W.Frag} {mg : Str → Option Value} {base : Heap}
abbrev Zt.bx (z : Zt) (b : Int) : Int := z.bs.getD b.toNat 0
def g_set (C : Addr) : Sp := fun vs H Q _ => ∃ (x q : Addr) (m : MA) (rows : List V) (rung : List (Key × V)) (B : Nat) (z : Zt) (h : Int) (u : Str) (b v : Int), vs = [.ref x, .ref q] ∧ MG C H x m rows rung B z ∧ B < 900 ∧ z.here = .int h ∧ H q = some (.tup [.str u, .int b, .int v]) ∧ Bx b ∧ ∀ H', Fr m x H H' → MG C H' x m rows rung (B + 1) { z with bs := z.bs.set b.toNat (v) } → Q .non H'
def g_more (C : Addr) : Sp := fun vs H Q _ => ∃ (x q : Addr) (m : MA) (rows : List V) (rung : List (Key × V)) (B : Nat) (z : Zt) (h : Int) (u : Str) (b v : Int), vs = [.ref x, .ref q] ∧ MG C H x m rows rung B z ∧ B < 900 ∧ z.here = .int h ∧ H q = some (.tup [.str u, .int b, .int v]) ∧ Bx b ∧ ∀ H', Fr m x H H' → MG C H' x m rows rung (B + 1) { z with bs := z.bs.set b.toNat (z.bx b + v) } → Q .non H'
def g_copy (C : Addr) : Sp := fun vs H Q _ => ∃ (x q : Addr) (m : MA) (rows : List V) (rung : List (Key × V)) (B : Nat) (z : Zt) (h : Int) (u : Str) (b v : Int), vs = [.ref x, .ref q] ∧ MG C H x m rows rung B z ∧ B < 900 ∧ z.here = .int h ∧ H q = some (.tup [.str u, .int b, .int v]) ∧ Bx b ∧ Bx v ∧ ∀ H', Fr m x H H' → MG C H' x m rows rung (B + 1) { z with bs := z.bs.set b.toNat (z.bx v) } → Q .non H'
def g_add (C : Addr) : Sp := fun vs H Q _ => ∃ (x q : Addr) (m : MA) (rows : List V) (rung : List (Key × V)) (B : Nat) (z : Zt) (h : Int) (u : Str) (b v : Int), vs = [.ref x, .ref q] ∧ MG C H x m rows rung B z ∧ B < 900 ∧ z.here = .int h ∧ H q = some (.tup [.str u, .int b, .int v]) ∧ Bx b ∧ Bx v ∧ ∀ H', Fr m x H H' → MG C H' x m rows rung (B + 1) { z with bs := z.bs.set b.toNat (z.bx b + z.bx v) } → Q .non H'
def g_less (C : Addr) : Sp := fun vs H Q _ => ∃ (x q : Addr) (m : MA) (rows : List V) (rung : List (Key × V)) (B : Nat) (z : Zt) (h : Int) (u : Str) (b v : Int), vs = [.ref x, .ref q] ∧ MG C H x m rows rung B z ∧ B < 900 ∧ z.here = .int h ∧ H q = some (.tup [.str u, .int b, .int v]) ∧ Bx b ∧ Bx v ∧ ∀ H', Fr m x H H' → MG C H' x m rows rung (B + 1) { z with bs := z.bs.set b.toNat (z.bx b - z.bx v) } → Q .non H'
def g_load (C : Addr) : Sp := fun vs H Q _ => ∃ (x q : Addr) (m : MA) (rows : List V) (rung : List (Key × V)) (B : Nat) (z : Zt) (h : Int) (u : Str) (b v : Int), vs = [.ref x, .ref q] ∧ MG C H x m rows rung B z ∧ B < 900 ∧ z.here = .int h ∧ H q = some (.tup [.str u, .int b, .int v]) ∧ Bx b ∧ Bx v ∧ ∀ H', Fr m x H H' → MG C H' x m rows rung (B + 1) { z with bs := z.bs.set b.toNat (z.cf (z.bx v)) } → Q .non H'
def g_take (C : Addr) : Sp := fun vs H Q _ => ∃ (x q : Addr) (m : MA) (rows : List V) (rung : List (Key × V)) (B : Nat) (z : Zt) (h : Int) (u : Str) (b v : Int), vs = [.ref x, .ref q] ∧ MG C H x m rows rung B z ∧ B < 900 ∧ z.here = .int h ∧ H q = some (.tup [.str u, .int b, .int v]) ∧ Bx b ∧ ∀ H', Fr m x H H' → MG C H' x m rows rung (B + 1) { z with bs := z.bs.set b.toNat (z.af v) } → Q .non H'
def g_keep (C : Addr) : Sp := fun vs H Q _ => ∃ (x q : Addr) (m : MA) (rows : List V) (rung : List (Key × V)) (B : Nat) (z : Zt) (h : Int) (u : Str) (b v : Int), vs = [.ref x, .ref q] ∧ MG C H x m rows rung B z ∧ B < 900 ∧ z.here = .int h ∧ H q = some (.tup [.str u, .int b, .int v]) ∧ Bx b ∧ Bx v ∧ ∀ H', Fr m x H H' → MG C H' x m rows rung (B + 1) { z with cf := fput z.cf (z.bx b) (z.bx v) } → Q .non H'
def g_put (C : Addr) : Sp := fun vs H Q _ => ∃ (x q : Addr) (m : MA) (rows : List V) (rung : List (Key × V)) (B : Nat) (z : Zt) (h : Int) (u : Str) (b v : Int), vs = [.ref x, .ref q] ∧ MG C H x m rows rung B z ∧ B < 900 ∧ z.here = .int h ∧ H q = some (.tup [.str u, .int b, .int v]) ∧ Bx b ∧ ∀ H', Fr m x H H' → MG C H' x m rows rung (B + 1) { z with af := fput z.af v (z.bx b) } → Q .non H'
def g_tell (C : Addr) : Sp := fun vs H Q _ => ∃ (x q : Addr) (m : MA) (rows : List V) (rung : List (Key × V)) (B : Nat) (z : Zt) (h : Int) (u : Str) (b : Int), vs = [.ref x, .ref q] ∧ MG C H x m rows rung B z ∧ B < 900 ∧ z.here = .int h ∧ H q = some (.tup [.str u, .int b]) ∧ Bx b ∧ ∀ H', Fr m x H H' → MG C H' x m rows rung (B + 1) { z with told := z.told ++ [z.bx b] } → Q .non H'
def g_see (C : Addr) : Sp := fun vs H Q _ => ∃ (x q : Addr) (m : MA) (rows : List V) (rung : List (Key × V)) (B : Nat) (z : Zt) (h : Int) (u : Str) (b v : Int), vs = [.ref x, .ref q] ∧ MG C H x m rows rung B z ∧ B < 900 ∧ z.here = .int h ∧ H q = some (.tup [.str u, .int b, .int v]) ∧ Bx b ∧ ∀ H', Fr m x H H' → MG C H' x m rows rung (B + 1) { z with seen := z.seen ++ [(v, z.bx b)] } → Q .non H'
def g_jump (C : Addr) : Sp := fun vs H Q _ => ∃ (x q : Addr) (m : MA) (rows : List V) (rung : List (Key × V)) (B : Nat) (z : Zt) (h : Int) (u : Str) (t f : Int), vs = [.ref x, .ref q] ∧ MG C H x m rows rung B z ∧ B < 900 ∧ z.here = .int h ∧ H q = some (.tup [.str u, .int t, .int f]) ∧ ∀ H', Fr m x H H' → MG C H' x m rows rung (B + 1) { z with here := .int t } → Q .non H'
def g_zero (C : Addr) : Sp := fun vs H Q _ => ∃ (x q : Addr) (m : MA) (rows : List V) (rung : List (Key × V)) (B : Nat) (z : Zt) (h : Int) (u : Str) (b t f : Int), vs = [.ref x, .ref q] ∧ MG C H x m rows rung B z ∧ B < 900 ∧ z.here = .int h ∧ H q = some (.tup [.str u, .int b, .int t, .int f]) ∧ Bx b ∧ ∀ H', Fr m x H H' → MG C H' x m rows rung (B + 1) { z with here := .int (if z.bx b = 0 then t else h) } → Q .non H'
def g_below (C : Addr) : Sp := fun vs H Q _ => ∃ (x q : Addr) (m : MA) (rows : List V) (rung : List (Key × V)) (B : Nat) (z : Zt) (h : Int) (u : Str) (b t f : Int), vs = [.ref x, .ref q] ∧ MG C H x m rows rung B z ∧ B < 900 ∧ z.here = .int h ∧ H q = some (.tup [.str u, .int b, .int t, .int f]) ∧ Bx b ∧ ∀ H', Fr m x H H' → MG C H' x m rows rung (B + 1) { z with here := .int (if z.bx b < 0 then t else h) } → Q .non H'
def g_table (C : Addr) : Sp := fun vs H Q _ => ∃ (x q : Addr) (m : MA) (rows : List V) (rung : List (Key × V)) (B : Nat) (z : Zt) (h : Int) (u : Str) (b : Int) (p : Addr) (ts : List Int), vs = [.ref x, .ref q] ∧ MG C H x m rows rung B z ∧ B < 900 ∧ z.here = .int h ∧ H q = some (.tup [.str u, .int b, .ref p]) ∧ Bx b ∧ H p = some (.tup (ts.map V.int)) ∧ ∀ H', Fr m x H H' → MG C H' x m rows rung (B + 1) { z with here := .int (if 0 ≤ z.bx b ∧ z.bx b < ts.length then ts.getD (z.bx b).toNat 0 else h) } → Q .non H'
def g_call (C : Addr) : Sp := fun vs H Q _ => ∃ (x q : Addr) (m : MA) (rows : List V) (rung : List (Key × V)) (B : Nat) (z : Zt) (h : Int) (u : Str) (t f : Int), vs = [.ref x, .ref q] ∧ MG C H x m rows rung B z ∧ B < 900 ∧ z.here = .int h ∧ H q = some (.tup [.str u, .int t, .int f]) ∧ ∀ H', Fr m x H H' → MG C H' x m rows rung (B + 1) { z with pile := z.pile ++ [h], here := .int t } → Q .non H'
def g_stop (C : Addr) : Sp := fun vs H Q _ => ∃ (x q : Addr) (m : MA) (rows : List V) (rung : List (Key × V)) (B : Nat) (z : Zt) (h : Int) (u : Str) (items : List V), vs = [.ref x, .ref q] ∧ MG C H x m rows rung B z ∧ B < 900 ∧ z.here = .int h ∧ H q = some (.tup (.str u :: items)) ∧ ∀ H', Fr m x H H' → MG C H' x m rows rung (B + 1) { z with here := .non, how := some [.str "stop"] } → Q .non H'
def g_halt (C : Addr) : Sp := fun vs H Q _ => ∃ (x q : Addr) (m : MA) (rows : List V) (rung : List (Key × V)) (B : Nat) (z : Zt) (h : Int) (u : Str) (v : Int), vs = [.ref x, .ref q] ∧ MG C H x m rows rung B z ∧ B < 900 ∧ z.here = .int h ∧ H q = some (.tup [.str u, .int v]) ∧ ∀ H', Fr m x H H' → MG C H' x m rows rung (B + 1) { z with here := .non, how := some [.str "halt", .int v] } → Q .non H'
def g_mark (C : Addr) : Sp := fun vs H Q _ => ∃ (x q : Addr) (m : MA) (rows : List V) (rung : List (Key × V)) (B : Nat) (z : Zt) (h : Int) (u : Str) (t f : Int) (o : Option V), vs = [.ref x, .ref q] ∧ MG C H x m rows rung B z ∧ B < 900 ∧ z.here = .int h ∧ H q = some (.tup [.str u, .int t, .int f]) ∧ valV rung (Sum.inl z.k) = o ∧ (o.isSome = true → ∀ H', Fr m x H H' → MG C H' x m rows rung (B + 1) { z with k := z.k + 1, pile := z.pile ++ [h], here := .int t } → Q .non H') ∧ (o.isSome = false → ∀ H', Fr m x H H' → MG C H' x m rows rung (B + 1) { z with k := z.k + 1 } → Q .non H')
def g_back (C : Addr) : Sp := fun vs H Q _ => ∃ (x q : Addr) (m : MA) (rows : List V) (rung : List (Key × V)) (B : Nat) (z : Zt) (h : Int) (u : Str) (items : List V), vs = [.ref x, .ref q] ∧ MG C H x m rows rung B z ∧ B < 900 ∧ z.here = .int h ∧ H q = some (.tup (.str u :: items)) ∧ (z.pile = [] → ∀ H', Fr m x H H' → MG C H' x m rows rung (B + 1) { z with here := .non, how := some [.str "home"] } → Q .non H') ∧ (∀ (r : List Int) (p : Int), z.pile = r ++ [p] → ∀ H', Fr m x H H' → MG C H' x m rows rung (B + 1) { z with pile := r, here := .int p } → Q .non H')
def spEnd (C : Addr) : Sp := fun vs H Q _ => ∃ (x p : Addr) (xs : List V) (m : MA) (rows : List V) (rung : List (Key × V)) (B : Nat) (z : Zt), vs = [.ref x, .ref p] ∧ H p = some (.tup xs) ∧ MG C H x m rows rung B z ∧ ∀ H', Fr m x H H' → MG C H' x m rows rung B { z with here := .non, how := some xs } → Q .non H'
theorem scEnd : FnScope ["machine", "how"] ["machine", "how"] (defScope sEnd) := ⟨rfl, rfl, rfl, by decide +kernel, rfl, by decide +kernel, by decide +kernel⟩
theorem ok_end {f C : Addr} {fd : FuncData} (F : Fun K "end" "end" sEnd f fd) (T : MTx K mg C) : FnOk P w K mg base CX0 1 f fd ["machine", "how"] (spEnd C) := by
  refine F.ok scEnd (fun vs H Q E h => ?_) (fun cdv A outer s H vs Q E hr h => ?_)
  · obtain ⟨x, p, xs, m, rows, rung, B, z, rfl, _⟩ := h
    rfl
  · obtain ⟨x, p, xs, m, rows, rung, B, z, rfl, hp, M, k⟩ := h
    obtain ⟨w0, ho, hw⟩ := M.obj
    refine ⟨_, pss_cons (ps_fld (pv 0) pe_non rfl) (pss_one (ps_fld (pv 0) (pv 1) rfl)), ?_⟩
    refine ⟨_, rfl, x, C, m.dx, _, rfl, ho, T.cl, T.nH, f_few, ?_⟩
    rw [s_here]
    have M2 := M.put (k' := z.k) (here' := .non) hw
    refine ⟨_, rfl, _, rfl, x, C, m.dx, _, rfl, upd_same, T.cl, T.nE, f_few, ?_⟩
    rw [s_how]
    have hp2 : upd H x (.ins C m.dx (flds m z.k .non w0)) p = some (.tup xs) := by
      rw [upd_ne (ne_of hp ho (by intro z; cases z))]
      exact hp
    exact k _ ((Fr.upd (.inl rfl)).trans (Fr.upd (.inl rfl))) (M2.put (k' := z.k) (here' := .non) (w' := .ref p) (how' := some xs) ⟨p, rfl, hp2⟩)

theorem sc_set : FnScope ["machine", "row"] ["machine", "row"] (defScope d_set) := ⟨rfl, rfl, rfl, by decide +kernel, rfl, by decide +kernel, by decide +kernel⟩
theorem ok_set {f C : Addr} {fd : FuncData} (F : Fun K "do_set" "do_set" d_set f fd) (T : MTx K mg C) : FnOk P w K mg base CX0 1 f fd ["machine", "row"] (g_set C) := by
  refine F.ok sc_set (fun vs H Q E h => ?_) (fun cdv A outer s H vs Q E hr h => ?_)
  · obtain ⟨x, q, m, rows, rung, B, z, h, u, b, v, rfl, _⟩ := h
    rfl
  · obtain ⟨x, q, m, rows, rung, B, z, h, u, b, v, rfl, M, hB, hh, hq, hb, k⟩ := h
    have hu := hu_of hr
    obtain ⟨w0, ho, hw⟩ := M.obj
    have M1 := M.more (Nat.le_succ B) (by omega)
    refine ⟨_, pss_one (ps_asg (pe_ix ix_tup (pv 1) pe_int (fun _ _ => rfl)) (pg_sub (pe_fld (pv 0) rfl) (pe_ix ix_tup (pv 1) pe_int (fun _ _ => rfl)) set_list)), ?_⟩
    refine ⟨_, rfl, q, _, _, .int v, rfl, rfl, SqT.of hq, at2 _ _ _ _, _, rfl, x, C, m.dx, _, _, rfl, ho, T.cl, T.nB, f_box, _, rfl, q, _, _, .int b, rfl, rfl, SqT.of hq, at1 _ _ _, m.p2, _, _, _, rfl, rfl, M.box, M.ix hb, ?_⟩
    rw [← List.map_set]
    exact k _ (Fr.upd (.inr (.inl rfl))) (M1.boxes (by rw [List.length_set]; exact M.b8))
theorem sc_more : FnScope ["machine", "row"] ["machine", "row"] (defScope d_more) := ⟨rfl, rfl, rfl, by decide +kernel, rfl, by decide +kernel, by decide +kernel⟩
theorem ok_more {f C : Addr} {fd : FuncData} (F : Fun K "do_more" "do_more" d_more f fd) (T : MTx K mg C) : FnOk P w K mg base CX0 1 f fd ["machine", "row"] (g_more C) := by
  refine F.ok sc_more (fun vs H Q E h => ?_) (fun cdv A outer s H vs Q E hr h => ?_)
  · obtain ⟨x, q, m, rows, rung, B, z, h, u, b, v, rfl, _⟩ := h
    rfl
  · obtain ⟨x, q, m, rows, rung, B, z, h, u, b, v, rfl, M, hB, hh, hq, hb, k⟩ := h
    have hu := hu_of hr
    obtain ⟨w0, ho, hw⟩ := M.obj
    have M1 := M.more (Nat.le_succ B) (by omega)
    refine ⟨_, pss_one (ps_asg (pe_op op_add (pe_ix ix_list (pe_fld (pv 0) rfl) (pe_ix ix_tup (pv 1) pe_int (fun _ _ => rfl)) (fun _ _ => rfl)) (pe_ix ix_tup (pv 1) pe_int (fun _ _ => rfl))) (pg_sub (pe_fld (pv 0) rfl) (pe_ix ix_tup (pv 1) pe_int (fun _ _ => rfl)) set_list)), ?_⟩
    refine ⟨_, rfl, x, C, m.dx, _, _, rfl, ho, T.cl, T.nB, f_box, _, rfl, q, _, _, .int b, rfl, rfl, SqT.of hq, at1 _ _ _, m.p2, _, _, _, rfl, rfl, SqL.of M.box, M.at hb, _, rfl, q, _, _, .int v, rfl, rfl, SqT.of hq, at2 _ _ _ _, _, _, rfl, rfl, _, rfl, x, C, m.dx, _, _, rfl, ho, T.cl, T.nB, f_box, _, rfl, q, _, _, .int b, rfl, rfl, SqT.of hq, at1 _ _ _, m.p2, _, _, _, rfl, rfl, M.box, M.ix hb, ?_⟩
    rw [← List.map_set]
    exact k _ (Fr.upd (.inr (.inl rfl))) (M1.boxes (by rw [List.length_set]; exact M.b8))
theorem sc_copy : FnScope ["machine", "row"] ["machine", "row"] (defScope d_copy) := ⟨rfl, rfl, rfl, by decide +kernel, rfl, by decide +kernel, by decide +kernel⟩
theorem ok_copy {f C : Addr} {fd : FuncData} (F : Fun K "do_copy" "do_copy" d_copy f fd) (T : MTx K mg C) : FnOk P w K mg base CX0 1 f fd ["machine", "row"] (g_copy C) := by
  refine F.ok sc_copy (fun vs H Q E h => ?_) (fun cdv A outer s H vs Q E hr h => ?_)
  · obtain ⟨x, q, m, rows, rung, B, z, h, u, b, v, rfl, _⟩ := h
    rfl
  · obtain ⟨x, q, m, rows, rung, B, z, h, u, b, v, rfl, M, hB, hh, hq, hb, hv, k⟩ := h
    have hu := hu_of hr
    obtain ⟨w0, ho, hw⟩ := M.obj
    have M1 := M.more (Nat.le_succ B) (by omega)
    refine ⟨_, pss_one (ps_asg (pe_ix ix_list (pe_fld (pv 0) rfl) (pe_ix ix_tup (pv 1) pe_int (fun _ _ => rfl)) (fun _ _ => rfl)) (pg_sub (pe_fld (pv 0) rfl) (pe_ix ix_tup (pv 1) pe_int (fun _ _ => rfl)) set_list)), ?_⟩
    refine ⟨_, rfl, x, C, m.dx, _, _, rfl, ho, T.cl, T.nB, f_box, _, rfl, q, _, _, .int v, rfl, rfl, SqT.of hq, at2 _ _ _ _, m.p2, _, _, _, rfl, rfl, SqL.of M.box, M.at hv, _, rfl, x, C, m.dx, _, _, rfl, ho, T.cl, T.nB, f_box, _, rfl, q, _, _, .int b, rfl, rfl, SqT.of hq, at1 _ _ _, m.p2, _, _, _, rfl, rfl, M.box, M.ix hb, ?_⟩
    rw [← List.map_set]
    exact k _ (Fr.upd (.inr (.inl rfl))) (M1.boxes (by rw [List.length_set]; exact M.b8))
theorem sc_add : FnScope ["machine", "row"] ["machine", "row"] (defScope d_add) := ⟨rfl, rfl, rfl, by decide +kernel, rfl, by decide +kernel, by decide +kernel⟩
theorem ok_add {f C : Addr} {fd : FuncData} (F : Fun K "do_add" "do_add" d_add f fd) (T : MTx K mg C) : FnOk P w K mg base CX0 1 f fd ["machine", "row"] (g_add C) := by
  refine F.ok sc_add (fun vs H Q E h => ?_) (fun cdv A outer s H vs Q E hr h => ?_)
  · obtain ⟨x, q, m, rows, rung, B, z, h, u, b, v, rfl, _⟩ := h
    rfl
  · obtain ⟨x, q, m, rows, rung, B, z, h, u, b, v, rfl, M, hB, hh, hq, hb, hv, k⟩ := h
    have hu := hu_of hr
    obtain ⟨w0, ho, hw⟩ := M.obj
    have M1 := M.more (Nat.le_succ B) (by omega)
    refine ⟨_, pss_one (ps_asg (pe_op op_add (pe_ix ix_list (pe_fld (pv 0) rfl) (pe_ix ix_tup (pv 1) pe_int (fun _ _ => rfl)) (fun _ _ => rfl)) (pe_ix ix_list (pe_fld (pv 0) rfl) (pe_ix ix_tup (pv 1) pe_int (fun _ _ => rfl)) (fun _ _ => rfl))) (pg_sub (pe_fld (pv 0) rfl) (pe_ix ix_tup (pv 1) pe_int (fun _ _ => rfl)) set_list)), ?_⟩
    refine ⟨_, rfl, x, C, m.dx, _, _, rfl, ho, T.cl, T.nB, f_box, _, rfl, q, _, _, .int b, rfl, rfl, SqT.of hq, at1 _ _ _, m.p2, _, _, _, rfl, rfl, SqL.of M.box, M.at hb, _, rfl, x, C, m.dx, _, _, rfl, ho, T.cl, T.nB, f_box, _, rfl, q, _, _, .int v, rfl, rfl, SqT.of hq, at2 _ _ _ _, m.p2, _, _, _, rfl, rfl, SqL.of M.box, M.at hv, _, _, rfl, rfl, _, rfl, x, C, m.dx, _, _, rfl, ho, T.cl, T.nB, f_box, _, rfl, q, _, _, .int b, rfl, rfl, SqT.of hq, at1 _ _ _, m.p2, _, _, _, rfl, rfl, M.box, M.ix hb, ?_⟩
    rw [← List.map_set]
    exact k _ (Fr.upd (.inr (.inl rfl))) (M1.boxes (by rw [List.length_set]; exact M.b8))
theorem sc_less : FnScope ["machine", "row"] ["machine", "row"] (defScope d_less) := ⟨rfl, rfl, rfl, by decide +kernel, rfl, by decide +kernel, by decide +kernel⟩
theorem ok_less {f C : Addr} {fd : FuncData} (F : Fun K "do_less" "do_less" d_less f fd) (T : MTx K mg C) : FnOk P w K mg base CX0 1 f fd ["machine", "row"] (g_less C) := by
  refine F.ok sc_less (fun vs H Q E h => ?_) (fun cdv A outer s H vs Q E hr h => ?_)
  · obtain ⟨x, q, m, rows, rung, B, z, h, u, b, v, rfl, _⟩ := h
    rfl
  · obtain ⟨x, q, m, rows, rung, B, z, h, u, b, v, rfl, M, hB, hh, hq, hb, hv, k⟩ := h
    have hu := hu_of hr
    obtain ⟨w0, ho, hw⟩ := M.obj
    have M1 := M.more (Nat.le_succ B) (by omega)
    refine ⟨_, pss_one (ps_asg (pe_op op_sub (pe_ix ix_list (pe_fld (pv 0) rfl) (pe_ix ix_tup (pv 1) pe_int (fun _ _ => rfl)) (fun _ _ => rfl)) (pe_ix ix_list (pe_fld (pv 0) rfl) (pe_ix ix_tup (pv 1) pe_int (fun _ _ => rfl)) (fun _ _ => rfl))) (pg_sub (pe_fld (pv 0) rfl) (pe_ix ix_tup (pv 1) pe_int (fun _ _ => rfl)) set_list)), ?_⟩
    refine ⟨_, rfl, x, C, m.dx, _, _, rfl, ho, T.cl, T.nB, f_box, _, rfl, q, _, _, .int b, rfl, rfl, SqT.of hq, at1 _ _ _, m.p2, _, _, _, rfl, rfl, SqL.of M.box, M.at hb, _, rfl, x, C, m.dx, _, _, rfl, ho, T.cl, T.nB, f_box, _, rfl, q, _, _, .int v, rfl, rfl, SqT.of hq, at2 _ _ _ _, m.p2, _, _, _, rfl, rfl, SqL.of M.box, M.at hv, _, _, rfl, rfl, _, rfl, x, C, m.dx, _, _, rfl, ho, T.cl, T.nB, f_box, _, rfl, q, _, _, .int b, rfl, rfl, SqT.of hq, at1 _ _ _, m.p2, _, _, _, rfl, rfl, M.box, M.ix hb, ?_⟩
    rw [← List.map_set]
    exact k _ (Fr.upd (.inr (.inl rfl))) (M1.boxes (by rw [List.length_set]; exact M.b8))
theorem sc_load : FnScope ["machine", "row"] ["machine", "row"] (defScope d_load) := ⟨rfl, rfl, rfl, by decide +kernel, rfl, by decide +kernel, by decide +kernel⟩
theorem ok_load {f C : Addr} {fd : FuncData} (F : Fun K "do_load" "do_load" d_load f fd) (T : MTx K mg C) : FnOk P w K mg base CX0 1 f fd ["machine", "row"] (g_load C) := by
  refine F.ok sc_load (fun vs H Q E h => ?_) (fun cdv A outer s H vs Q E hr h => ?_)
  · obtain ⟨x, q, m, rows, rung, B, z, h, u, b, v, rfl, _⟩ := h
    rfl
  · obtain ⟨x, q, m, rows, rung, B, z, h, u, b, v, rfl, M, hB, hh, hq, hb, hv, k⟩ := h
    have hu := hu_of hr
    obtain ⟨w0, ho, hw⟩ := M.obj
    have M1 := M.more (Nat.le_succ B) (by omega)
    refine ⟨_, pss_one (ps_asg (pe_dget2 hu (pe_fld (pv 0) rfl) (pe_ix ix_list (pe_fld (pv 0) rfl) (pe_ix ix_tup (pv 1) pe_int (fun _ _ => rfl)) (fun _ _ => rfl)) pe_int ⟨rfl, rfl, rfl, rfl⟩) (pg_sub (pe_fld (pv 0) rfl) (pe_ix ix_tup (pv 1) pe_int (fun _ _ => rfl)) set_list)), ?_⟩
    obtain ⟨d, c1, c2, c3⟩ := M.cell
    refine ⟨_, rfl, x, C, m.dx, _, _, rfl, ho, T.cl, T.nC, f_cell, m.p3, rfl, .inl ⟨_, .of c1⟩, _, rfl, x, C, m.dx, _, _, rfl, ho, T.cl, T.nB, f_box, _, rfl, q, _, _, .int v, rfl, rfl, SqT.of hq, at2 _ _ _ _, m.p2, _, _, _, rfl, rfl, SqL.of M.box, M.at hv, _, DGet.k (k := Sum.inl (z.bx v)) c1, ?_⟩
    rw [c2.val]
    refine ⟨_, rfl, x, C, m.dx, _, _, rfl, ho, T.cl, T.nB, f_box, _, rfl, q, _, _, .int b, rfl, rfl, SqT.of hq, at1 _ _ _, m.p2, _, _, _, rfl, rfl, M.box, M.ix hb, ?_⟩
    rw [← List.map_set]
    exact k _ (Fr.upd (.inr (.inl rfl))) (M1.boxes (by rw [List.length_set]; exact M.b8))
theorem sc_take : FnScope ["machine", "row"] ["machine", "row"] (defScope d_take) := ⟨rfl, rfl, rfl, by decide +kernel, rfl, by decide +kernel, by decide +kernel⟩
theorem ok_take {f C : Addr} {fd : FuncData} (F : Fun K "do_take" "do_take" d_take f fd) (T : MTx K mg C) : FnOk P w K mg base CX0 1 f fd ["machine", "row"] (g_take C) := by
  refine F.ok sc_take (fun vs H Q E h => ?_) (fun cdv A outer s H vs Q E hr h => ?_)
  · obtain ⟨x, q, m, rows, rung, B, z, h, u, b, v, rfl, _⟩ := h
    rfl
  · obtain ⟨x, q, m, rows, rung, B, z, h, u, b, v, rfl, M, hB, hh, hq, hb, k⟩ := h
    have hu := hu_of hr
    obtain ⟨w0, ho, hw⟩ := M.obj
    have M1 := M.more (Nat.le_succ B) (by omega)
    refine ⟨_, pss_one (ps_asg (pe_dget2 hu (pe_fld (pv 0) rfl) (pe_ix ix_tup (pv 1) pe_int (fun _ _ => rfl)) pe_int ⟨rfl, rfl, rfl, rfl⟩) (pg_sub (pe_fld (pv 0) rfl) (pe_ix ix_tup (pv 1) pe_int (fun _ _ => rfl)) set_list)), ?_⟩
    obtain ⟨d, c1, c2, c3⟩ := M.asd
    refine ⟨_, rfl, x, C, m.dx, _, _, rfl, ho, T.cl, T.nA, f_asd, m.p4, rfl, .inl ⟨_, .of c1⟩, _, rfl, q, _, _, .int v, rfl, rfl, SqT.of hq, at2 _ _ _ _, _, DGet.k (k := Sum.inl (v)) c1, ?_⟩
    rw [c2.val]
    refine ⟨_, rfl, x, C, m.dx, _, _, rfl, ho, T.cl, T.nB, f_box, _, rfl, q, _, _, .int b, rfl, rfl, SqT.of hq, at1 _ _ _, m.p2, _, _, _, rfl, rfl, M.box, M.ix hb, ?_⟩
    rw [← List.map_set]
    exact k _ (Fr.upd (.inr (.inl rfl))) (M1.boxes (by rw [List.length_set]; exact M.b8))
theorem sc_keep : FnScope ["machine", "row"] ["machine", "row"] (defScope d_keep) := ⟨rfl, rfl, rfl, by decide +kernel, rfl, by decide +kernel, by decide +kernel⟩
theorem ok_keep {f C : Addr} {fd : FuncData} (F : Fun K "do_keep" "do_keep" d_keep f fd) (T : MTx K mg C) : FnOk P w K mg base CX0 1 f fd ["machine", "row"] (g_keep C) := by
  refine F.ok sc_keep (fun vs H Q E h => ?_) (fun cdv A outer s H vs Q E hr h => ?_)
  · obtain ⟨x, q, m, rows, rung, B, z, h, u, b, v, rfl, _⟩ := h
    rfl
  · obtain ⟨x, q, m, rows, rung, B, z, h, u, b, v, rfl, M, hB, hh, hq, hb, hv, k⟩ := h
    have hu := hu_of hr
    obtain ⟨w0, ho, hw⟩ := M.obj
    have M1 := M.more (Nat.le_succ B) (by omega)
    refine ⟨_, pss_one (ps_dput hu (pe_fld (pv 0) rfl) (pe_ix ix_list (pe_fld (pv 0) rfl) (pe_ix ix_tup (pv 1) pe_int (fun _ _ => rfl)) (fun _ _ => rfl)) (pe_ix ix_list (pe_fld (pv 0) rfl) (pe_ix ix_tup (pv 1) pe_int (fun _ _ => rfl)) (fun _ _ => rfl)) rfl), ?_⟩
    obtain ⟨d, c1, c2, c3⟩ := M.cell
    have hb9 := M.big
    refine ⟨_, rfl, x, C, m.dx, _, _, rfl, ho, T.cl, T.nB, f_box, _, rfl, q, _, _, .int v, rfl, rfl, SqT.of hq, at2 _ _ _ _, m.p2, _, _, _, rfl, rfl, SqL.of M.box, M.at hv, _, rfl, x, C, m.dx, _, _, rfl, ho, T.cl, T.nC, f_cell, _, rfl, x, C, m.dx, _, _, rfl, ho, T.cl, T.nB, f_box, _, rfl, q, _, _, .int b, rfl, rfl, SqT.of hq, at1 _ _ _, m.p2, _, _, _, rfl, rfl, SqL.of M.box, M.at hb, m.p3, _, rfl, DPut.k (k := Sum.inl (z.bx b)) c1 (small1000 (by omega)), ?_⟩
    exact k _ (Fr.upd (.inr (.inr (.inl rfl)))) (M1.cells (c2.put _ _) (Nat.le_trans (length_putK d _ _) (by omega)))
theorem sc_put : FnScope ["machine", "row"] ["machine", "row"] (defScope d_put) := ⟨rfl, rfl, rfl, by decide +kernel, rfl, by decide +kernel, by decide +kernel⟩
theorem ok_put {f C : Addr} {fd : FuncData} (F : Fun K "do_put" "do_put" d_put f fd) (T : MTx K mg C) : FnOk P w K mg base CX0 1 f fd ["machine", "row"] (g_put C) := by
  refine F.ok sc_put (fun vs H Q E h => ?_) (fun cdv A outer s H vs Q E hr h => ?_)
  · obtain ⟨x, q, m, rows, rung, B, z, h, u, b, v, rfl, _⟩ := h
    rfl
  · obtain ⟨x, q, m, rows, rung, B, z, h, u, b, v, rfl, M, hB, hh, hq, hb, k⟩ := h
    have hu := hu_of hr
    obtain ⟨w0, ho, hw⟩ := M.obj
    have M1 := M.more (Nat.le_succ B) (by omega)
    refine ⟨_, pss_one (ps_dput hu (pe_fld (pv 0) rfl) (pe_ix ix_tup (pv 1) pe_int (fun _ _ => rfl)) (pe_ix ix_list (pe_fld (pv 0) rfl) (pe_ix ix_tup (pv 1) pe_int (fun _ _ => rfl)) (fun _ _ => rfl)) rfl), ?_⟩
    obtain ⟨d, c1, c2, c3⟩ := M.asd
    have hb9 := M.big
    refine ⟨_, rfl, x, C, m.dx, _, _, rfl, ho, T.cl, T.nB, f_box, _, rfl, q, _, _, .int b, rfl, rfl, SqT.of hq, at1 _ _ _, m.p2, _, _, _, rfl, rfl, SqL.of M.box, M.at hb, _, rfl, x, C, m.dx, _, _, rfl, ho, T.cl, T.nA, f_asd, _, rfl, q, _, _, .int v, rfl, rfl, SqT.of hq, at2 _ _ _ _, m.p4, _, rfl, DPut.k (k := Sum.inl v) c1 (small1000 (by omega)), ?_⟩
    exact k _ (Fr.upd (.inr (.inr (.inr (.inl rfl))))) (M1.asids (c2.put _ _) (Nat.le_trans (length_putK d _ _) (by omega)))
theorem sc_tell : FnScope ["machine", "row"] ["machine", "row"] (defScope d_tell) := ⟨rfl, rfl, rfl, by decide +kernel, rfl, by decide +kernel, by decide +kernel⟩
theorem ok_tell {f C : Addr} {fd : FuncData} (F : Fun K "do_tell" "do_tell" d_tell f fd) (T : MTx K mg C) : FnOk P w K mg base CX0 1 f fd ["machine", "row"] (g_tell C) := by
  refine F.ok sc_tell (fun vs H Q E h => ?_) (fun cdv A outer s H vs Q E hr h => ?_)
  · obtain ⟨x, q, m, rows, rung, B, z, h, u, b, rfl, _⟩ := h
    rfl
  · obtain ⟨x, q, m, rows, rung, B, z, h, u, b, rfl, M, hB, hh, hq, hb, k⟩ := h
    have hu := hu_of hr
    obtain ⟨w0, ho, hw⟩ := M.obj
    have M1 := M.more (Nat.le_succ B) (by omega)
    refine ⟨_, pss_one (ps_expr (pe_bm PySem.F.plainAttrs_list PySem.F.slot_list_append PySem.F.type_list_append mt_append (pe_fld (pv 0) rfl) (pa_cons (pe_ix ix_list (pe_fld (pv 0) rfl) (pe_ix ix_tup (pv 1) pe_int (fun _ _ => rfl)) (fun _ _ => rfl)) pa_nil))), ?_⟩
    have hb9 := M.big
    have hl := M.lens
    refine ⟨_, rfl, x, C, m.dx, _, _, rfl, ho, T.cl, T.nT, f_told, .inl ⟨rfl, _, SqL.of M.told⟩, _, rfl, x, C, m.dx, _, _, rfl, ho, T.cl, T.nB, f_box, _, rfl, q, _, _, .int b, rfl, rfl, SqT.of hq, at1 _ _ _, m.p2, _, _, _, rfl, rfl, SqL.of M.box, M.at hb, m.p6, _, _, rfl, rfl, M.told, (by rw [List.length_map]; exact small1000 (by omega)), ?_⟩
    rw [show z.told.map V.int ++ [V.int (z.bx b)] = (z.told ++ [z.bx b]).map V.int by simp]
    exact k _ (Fr.upd (.inr (.inr (.inr (.inr (.inr (.inl rfl))))))) (M1.tolds (by rw [List.length_append]; show z.told.length + 1 ≤ B + 1; omega))
theorem sc_see : FnScope ["machine", "row"] ["machine", "row"] (defScope d_see) := ⟨rfl, rfl, rfl, by decide +kernel, rfl, by decide +kernel, by decide +kernel⟩
theorem ok_see {f C : Addr} {fd : FuncData} (F : Fun K "do_see" "do_see" d_see f fd) (T : MTx K mg C) : FnOk P w K mg base CX0 1 f fd ["machine", "row"] (g_see C) := by
  refine F.ok sc_see (fun vs H Q E h => ?_) (fun cdv A outer s H vs Q E hr h => ?_)
  · obtain ⟨x, q, m, rows, rung, B, z, h, u, b, v, rfl, _⟩ := h
    rfl
  · obtain ⟨x, q, m, rows, rung, B, z, h, u, b, v, rfl, M, hB, hh, hq, hb, k⟩ := h
    have hu := hu_of hr
    obtain ⟨w0, ho, hw⟩ := M.obj
    have M1 := M.more (Nat.le_succ B) (by omega)
    refine ⟨_, pss_one (ps_expr (pe_bm PySem.F.plainAttrs_list PySem.F.slot_list_append PySem.F.type_list_append mt_append (pe_fld (pv 0) rfl) (pa_cons (pe_tup (pa_cons (pe_ix ix_tup (pv 1) pe_int (fun _ _ => rfl)) (pa_cons (pe_ix ix_list (pe_fld (pv 0) rfl) (pe_ix ix_tup (pv 1) pe_int (fun _ _ => rfl)) (fun _ _ => rfl)) pa_nil))) pa_nil))), ?_⟩
    have hb9 := M.big
    have hl := M.lens
    obtain ⟨ps, s1, s2⟩ := M.seen
    have hpl := s2.1
    refine ⟨_, rfl, x, C, m.dx, _, _, rfl, ho, T.cl, T.nS, f_seen, .inl ⟨rfl, _, SqL.of s1⟩, _, rfl, q, _, _, .int v, rfl, rfl, SqT.of hq, at2 _ _ _ _, _, rfl, x, C, m.dx, _, _, rfl, ho, T.cl, T.nB, f_box, _, rfl, q, _, _, .int b, rfl, rfl, SqT.of hq, at1 _ _ _, m.p2, _, _, _, rfl, rfl, SqL.of M.box, M.at hb, (by show 2 ≤ sizeLine; decide), fun t nt => ?_⟩
    have e1 := same_new (o := .tup [.int v, .int (z.bx b)]) nt
    refine ⟨m.p7, _, _, rfl, rfl, e1 _ _ s1, (by rw [List.length_map]; exact small1000 (by omega)), ?_⟩
    rw [show ps.map V.ref ++ [V.ref t] = (ps ++ [t]).map V.ref by simp]
    refine k _ ((Fr.same e1).trans (Fr.upd (.inr (.inr (.inr (.inr (.inr (.inr (.inl rfl))))))))) ((M1.same e1).seens ⟨by rw [List.length_append, List.length_append, hpl]; rfl, fun i p c hp hc => ?_⟩ (by rw [List.length_append]; show z.seen.length + 1 ≤ B + 1; omega))
    rcases Nat.lt_or_ge i ps.length with hi | hi
    · rw [List.getElem?_append_left hi] at hp
      rw [List.getElem?_append_left (by omega)] at hc
      exact e1 _ _ (s2.2 i p c hp hc)
    · rw [List.getElem?_append_right hi] at hp
      rw [List.getElem?_append_right (by omega)] at hc
      have h0 : i - ps.length = 0 := by
        have := (List.getElem?_eq_some_iff.mp hp).1
        simp at this
        omega
      have h1 : i - z.seen.length = 0 := by omega
      rw [h0] at hp
      rw [h1] at hc
      have hp := Option.some.inj hp
      have hc := Option.some.inj hc
      subst hp hc
      exact upd_same
theorem sc_jump : FnScope ["machine", "row"] ["machine", "row"] (defScope d_jump) := ⟨rfl, rfl, rfl, by decide +kernel, rfl, by decide +kernel, by decide +kernel⟩
theorem ok_jump {f C : Addr} {fd : FuncData} (F : Fun K "do_jump" "do_jump" d_jump f fd) (T : MTx K mg C) : FnOk P w K mg base CX0 1 f fd ["machine", "row"] (g_jump C) := by
  refine F.ok sc_jump (fun vs H Q E h => ?_) (fun cdv A outer s H vs Q E hr h => ?_)
  · obtain ⟨x, q, m, rows, rung, B, z, h, u, t, f, rfl, _⟩ := h
    rfl
  · obtain ⟨x, q, m, rows, rung, B, z, h, u, t, f, rfl, M, hB, hh, hq, k⟩ := h
    have hu := hu_of hr
    obtain ⟨w0, ho, hw⟩ := M.obj
    have M1 := M.more (Nat.le_succ B) (by omega)
    refine ⟨_, pss_one (ps_fld (pv 0) (pe_ix ix_tup (pv 1) pe_int (fun _ _ => rfl)) rfl), ?_⟩
    refine ⟨_, rfl, q, _, _, .int t, rfl, rfl, SqT.of hq, at1 _ _ _, _, rfl, x, C, m.dx, _, rfl, ho, T.cl, T.nH, f_few, ?_⟩
    rw [s_here]
    exact k _ (Fr.upd (.inl rfl)) (M1.put (k' := z.k) (here' := .int t) hw)
theorem sc_zero : FnScope ["machine", "row"] ["machine", "row"] (defScope d_zero) := ⟨rfl, rfl, rfl, by decide +kernel, rfl, by decide +kernel, by decide +kernel⟩
theorem ok_zero {f C : Addr} {fd : FuncData} (F : Fun K "do_zero" "do_zero" d_zero f fd) (T : MTx K mg C) : FnOk P w K mg base CX0 1 f fd ["machine", "row"] (g_zero C) := by
  refine F.ok sc_zero (fun vs H Q E h => ?_) (fun cdv A outer s H vs Q E hr h => ?_)
  · obtain ⟨x, q, m, rows, rung, B, z, h, u, b, t, f, rfl, _⟩ := h
    rfl
  · obtain ⟨x, q, m, rows, rung, B, z, h, u, b, t, f, rfl, M, hB, hh, hq, hb, k⟩ := h
    have hu := hu_of hr
    obtain ⟨w0, ho, hw⟩ := M.obj
    have M1 := M.more (Nat.le_succ B) (by omega)
    refine ⟨_, pss_one (ps_if (pt_cmpR op_eq (pe_ix ix_list (pe_fld (pv 0) rfl) (pe_ix ix_tup (pv 1) pe_int (fun _ _ => rfl)) (fun _ _ => rfl)) pe_int (nomark _)) (pss_one (ps_fld (pv 0) (pe_ix ix_tup (pv 1) pe_int (fun _ _ => rfl)) rfl)) pss_nil), ?_⟩
    refine ⟨_, rfl, x, C, m.dx, _, _, rfl, ho, T.cl, T.nB, f_box, _, rfl, q, _, _, .int b, rfl, rfl, SqT.of hq, at1 _ _ _, m.p2, _, _, _, rfl, rfl, SqL.of M.box, M.at hb, rfl, _, rfl, ?_⟩
    refine ite2 (fun e => ?_) (fun e => ?_)
    · have e := V.int.inj (of_decide_eq_true e)
      refine ⟨_, rfl, q, _, _, .int t, rfl, rfl, SqT.of hq, at2 _ _ _ _, _, rfl, x, C, m.dx, _, rfl, ho, T.cl, T.nH, f_few, ?_⟩
      rw [s_here]
      rw [if_pos e] at k
      exact k _ (Fr.upd (.inl rfl)) (M1.put (k' := z.k) (here' := .int t) hw)
    · rw [if_neg (fun c => e (decide_eq_true (congrArg V.int c))), ← hh] at k
      exact k _ Fr.refl M1
theorem sc_below : FnScope ["machine", "row"] ["machine", "row"] (defScope d_below) := ⟨rfl, rfl, rfl, by decide +kernel, rfl, by decide +kernel, by decide +kernel⟩
theorem ok_below {f C : Addr} {fd : FuncData} (F : Fun K "do_below" "do_below" d_below f fd) (T : MTx K mg C) : FnOk P w K mg base CX0 1 f fd ["machine", "row"] (g_below C) := by
  refine F.ok sc_below (fun vs H Q E h => ?_) (fun cdv A outer s H vs Q E hr h => ?_)
  · obtain ⟨x, q, m, rows, rung, B, z, h, u, b, t, f, rfl, _⟩ := h
    rfl
  · obtain ⟨x, q, m, rows, rung, B, z, h, u, b, t, f, rfl, M, hB, hh, hq, hb, k⟩ := h
    have hu := hu_of hr
    obtain ⟨w0, ho, hw⟩ := M.obj
    have M1 := M.more (Nat.le_succ B) (by omega)
    refine ⟨_, pss_one (ps_if (pt_cmpR op_lt (pe_ix ix_list (pe_fld (pv 0) rfl) (pe_ix ix_tup (pv 1) pe_int (fun _ _ => rfl)) (fun _ _ => rfl)) pe_int (nomark _)) (pss_one (ps_fld (pv 0) (pe_ix ix_tup (pv 1) pe_int (fun _ _ => rfl)) rfl)) pss_nil), ?_⟩
    refine ⟨_, rfl, x, C, m.dx, _, _, rfl, ho, T.cl, T.nB, f_box, _, rfl, q, _, _, .int b, rfl, rfl, SqT.of hq, at1 _ _ _, m.p2, _, _, _, rfl, rfl, SqL.of M.box, M.at hb, _, _, rfl, rfl, _, rfl, ?_⟩
    refine ite2 (fun e => ?_) (fun e => ?_)
    · have e := of_decide_eq_true e
      refine ⟨_, rfl, q, _, _, .int t, rfl, rfl, SqT.of hq, at2 _ _ _ _, _, rfl, x, C, m.dx, _, rfl, ho, T.cl, T.nH, f_few, ?_⟩
      rw [s_here]
      rw [if_pos e] at k
      exact k _ (Fr.upd (.inl rfl)) (M1.put (k' := z.k) (here' := .int t) hw)
    · rw [if_neg (fun c => e (decide_eq_true c)), ← hh] at k
      exact k _ Fr.refl M1
theorem sc_stop : FnScope ["machine", "row"] ["machine", "row"] (defScope d_stop) := ⟨rfl, rfl, rfl, by decide +kernel, rfl, by decide +kernel, by decide +kernel⟩
theorem ok_stop {f C : Addr} {fd : FuncData} (F : Fun K "do_stop" "do_stop" d_stop f fd) (T : MTx K mg C)
    {fE : Addr} {fdE : FuncData} (GE : FnOk P w K mg base CX0 1 fE fdE ["machine", "how"] (spEnd C)) (kE : PySem.W.keepIn K (.ref fE) = true) (bE : Binds K fdE ["machine", "how"] []) (mE : mg "end" = some (.ref fE)) : FnOk P w K mg base CX0 2 f fd ["machine", "row"] (g_stop C) := by
  refine F.ok sc_stop (fun vs H Q E h => ?_) (fun cdv A outer s H vs Q E hr h => ?_)
  · obtain ⟨x, q, m, rows, rung, B, z, h, u, items, rfl, _⟩ := h
    rfl
  · obtain ⟨x, q, m, rows, rung, B, z, h, u, items, rfl, M, hB, hh, hq, k⟩ := h
    have hu := hu_of hr
    obtain ⟨w0, ho, hw⟩ := M.obj
    have M1 := M.more (Nat.le_succ B) (by omega)
    refine ⟨_, pss_one (ps_expr (pe_call GE hr rfl mE kE bE .nil pass0 (pa_cons (pv 0) (pa_cons (pe_tup (pa_cons pe_str pa_nil)) pa_nil)))), ?_⟩
    refine ⟨_, rfl, (by show 1 ≤ sizeLine; decide), fun t nt => ?_⟩
    have s1 := same_new (o := .tup [.str "stop"]) nt
    exact ⟨x, t, _, m, rows, rung, B + 1, z, rfl, upd_same, M1.same s1, fun H' e => k H' ((Fr.same s1).trans e)⟩
theorem sc_halt : FnScope ["machine", "row"] ["machine", "row"] (defScope d_halt) := ⟨rfl, rfl, rfl, by decide +kernel, rfl, by decide +kernel, by decide +kernel⟩
theorem ok_halt {f C : Addr} {fd : FuncData} (F : Fun K "do_halt" "do_halt" d_halt f fd) (T : MTx K mg C)
    {fE : Addr} {fdE : FuncData} (GE : FnOk P w K mg base CX0 1 fE fdE ["machine", "how"] (spEnd C)) (kE : PySem.W.keepIn K (.ref fE) = true) (bE : Binds K fdE ["machine", "how"] []) (mE : mg "end" = some (.ref fE)) : FnOk P w K mg base CX0 2 f fd ["machine", "row"] (g_halt C) := by
  refine F.ok sc_halt (fun vs H Q E h => ?_) (fun cdv A outer s H vs Q E hr h => ?_)
  · obtain ⟨x, q, m, rows, rung, B, z, h, u, v, rfl, _⟩ := h
    rfl
  · obtain ⟨x, q, m, rows, rung, B, z, h, u, v, rfl, M, hB, hh, hq, k⟩ := h
    have hu := hu_of hr
    obtain ⟨w0, ho, hw⟩ := M.obj
    have M1 := M.more (Nat.le_succ B) (by omega)
    refine ⟨_, pss_one (ps_expr (pe_call GE hr rfl mE kE bE .nil pass0 (pa_cons (pv 0) (pa_cons (pe_tup (pa_cons pe_str (pa_cons (pe_ix ix_tup (pv 1) pe_int (fun _ _ => rfl)) pa_nil))) pa_nil)))), ?_⟩
    refine ⟨_, rfl, _, rfl, q, _, _, .int v, rfl, rfl, SqT.of hq, at1 _ _ _, (by show 2 ≤ sizeLine; decide), fun t nt => ?_⟩
    have s1 := same_new (o := .tup [.str "halt", .int v]) nt
    exact ⟨x, t, _, m, rows, rung, B + 1, z, rfl, upd_same, M1.same s1, fun H' e => k H' ((Fr.same s1).trans e)⟩
theorem sc_back : FnScope ["machine", "row"] ["machine", "row"] (defScope d_back) := ⟨rfl, rfl, rfl, by decide +kernel, rfl, by decide +kernel, by decide +kernel⟩
theorem ok_back {f C : Addr} {fd : FuncData} (F : Fun K "do_back" "do_back" d_back f fd) (T : MTx K mg C)
    {fE : Addr} {fdE : FuncData} (GE : FnOk P w K mg base CX0 1 fE fdE ["machine", "how"] (spEnd C)) (kE : PySem.W.keepIn K (.ref fE) = true) (bE : Binds K fdE ["machine", "how"] []) (mE : mg "end" = some (.ref fE)) (ln : mg "len" = none) : FnOk P w K mg base CX0 2 f fd ["machine", "row"] (g_back C) := by
  refine F.ok sc_back (fun vs H Q E h => ?_) (fun cdv A outer s H vs Q E hr h => ?_)
  · obtain ⟨x, q, m, rows, rung, B, z, h, u, items, rfl, _⟩ := h
    rfl
  · obtain ⟨x, q, m, rows, rung, B, z, h, u, items, rfl, M, hB, hh, hq, k⟩ := h
    have hu := hu_of hr
    obtain ⟨w0, ho, hw⟩ := M.obj
    have M1 := M.more (Nat.le_succ B) (by omega)
    refine ⟨_, pss_one (ps_if (pt_cmpR op_eq (pe_callB call_len_seq (by rfl) ln bt_len (pa_cons (pe_fld (pv 0) rfl) pa_nil)) pe_int (nomark _)) (pss_one (ps_expr (pe_call GE hr (by rfl) mE kE bE .nil pass0 (pa_cons (pv 0) (pa_cons (pe_tup (pa_cons pe_str pa_nil)) pa_nil))))) (pss_one (ps_fld (pv 0) (pe_bm0 PySem.F.plainAttrs_list PySem.F.slot_list_pop PySem.F.type_list_pop mt_pop (pe_fld (pv 0) rfl)) rfl))), ?_⟩
    refine ⟨_, rfl, x, C, m.dx, _, _, rfl, ho, T.cl, T.nL, f_pile, m.p8, _, rfl, .inl (SqL.of M.pil), rfl, _, rfl, ?_⟩
    refine ite2 (fun e => ?_) (fun e => ?_)
    · have e := V.int.inj (of_decide_eq_true e)
      rw [List.length_map] at e
      have e2 : z.pile = [] := List.eq_nil_of_length_eq_zero (by omega)
      refine ⟨_, rfl, (by show 1 ≤ sizeLine; decide), fun t nt => ?_⟩
      have s1 := same_new (o := .tup [.str "home"]) nt
      exact ⟨x, t, _, m, rows, rung, B + 1, z, rfl, upd_same, M1.same s1, fun H' e => k.1 e2 H' ((Fr.same s1).trans e)⟩
    · have e2 : z.pile ≠ [] := fun c => e (by rw [c]; exact decide_eq_true rfl)
      obtain ⟨r, p, e3⟩ : ∃ r p, z.pile = r ++ [p] := ⟨z.pile.dropLast, z.pile.getLast e2, (List.dropLast_concat_getLast e2).symm⟩
      have hl : (z.pile.map V.int)[(z.pile.map V.int).length - 1]? = some (V.int p) := by
        rw [e3]
        simp
      have hd : (z.pile.map V.int).dropLast = r.map V.int := by
        rw [e3]
        simp
      refine ⟨_, rfl, x, C, m.dx, _, _, rfl, ho, T.cl, T.nL, f_pile, .inl ⟨rfl, _, SqL.of M.pil⟩, m.p8, _, V.int p, rfl, rfl, M.pil, hl, ?_⟩
      rw [hd]
      have M2 := M1.piles (p' := r) (by have := M.lens.2.2; have : z.pile.length = r.length + 1 := (by rw [e3]; simp); omega)
      obtain ⟨w2, ho2, hw2⟩ := M2.obj
      refine ⟨_, rfl, x, C, m.dx, _, rfl, ho2, T.cl, T.nH, f_few, ?_⟩
      rw [s_here]
      exact k.2 r p e3 _ ((Fr.upd (.inr (.inr (.inr (.inr (.inr (.inr (.inr rfl)))))))).trans (Fr.upd (.inl rfl))) (M2.put (k' := z.k) (here' := .int p) hw2)
theorem sc_call : FnScope ["machine", "row"] ["machine", "row"] (defScope d_call) := ⟨rfl, rfl, rfl, by decide +kernel, rfl, by decide +kernel, by decide +kernel⟩
theorem ok_call {f C : Addr} {fd : FuncData} (F : Fun K "do_call" "do_call" d_call f fd) (T : MTx K mg C) : FnOk P w K mg base CX0 1 f fd ["machine", "row"] (g_call C) := by
  refine F.ok sc_call (fun vs H Q E h => ?_) (fun cdv A outer s H vs Q E hr h => ?_)
  · obtain ⟨x, q, m, rows, rung, B, z, h, u, t, f, rfl, _⟩ := h
    rfl
  · obtain ⟨x, q, m, rows, rung, B, z, h, u, t, f, rfl, M, hB, hh, hq, k⟩ := h
    have hu := hu_of hr
    obtain ⟨w0, ho, hw⟩ := M.obj
    have M1 := M.more (Nat.le_succ B) (by omega)
    refine ⟨_, pss_cons (ps_expr (pe_bm PySem.F.plainAttrs_list PySem.F.slot_list_append PySem.F.type_list_append mt_append (pe_fld (pv 0) rfl) (pa_cons (pe_fld (pv 0) rfl) pa_nil))) (pss_one (ps_fld (pv 0) (pe_ix ix_tup (pv 1) pe_int (fun _ _ => rfl)) rfl)), ?_⟩
    have hb9 := M.big
    have hl := M.lens
    have hf : (flds m z.k z.here w0).lookup ("here" : Str) = some (V.int h) := by rw [f_here, hh]
    refine ⟨_, rfl, x, C, m.dx, _, _, rfl, ho, T.cl, T.nL, f_pile, .inl ⟨rfl, _, SqL.of M.pil⟩, _, rfl, x, C, m.dx, _, _, rfl, ho, T.cl, T.nH, hf, m.p8, _, _, rfl, rfl, M.pil, (by rw [List.length_map]; exact small1000 (by omega)), ?_⟩
    rw [show z.pile.map V.int ++ [V.int h] = (z.pile ++ [h]).map V.int by simp]
    have M2 := M1.piles (p' := z.pile ++ [h]) (by rw [List.length_append]; show z.pile.length + 1 ≤ B + 1; omega)
    obtain ⟨w2, ho2, hw2⟩ := M2.obj
    have hq2 : upd H m.p8 (.lst ((z.pile ++ [h]).map V.int)) q = some (.tup [.str u, .int t, .int f]) := by
      rw [upd_ne (ne_of hq M.pil (by intro z; cases z))]
      exact hq
    refine ⟨_, rfl, q, _, _, .int t, rfl, rfl, SqT.of hq2, at1 _ _ _, _, rfl, x, C, m.dx, _, rfl, ho2, T.cl, T.nH, f_few, ?_⟩
    rw [s_here]
    exact k _ ((Fr.upd (.inr (.inr (.inr (.inr (.inr (.inr (.inr rfl)))))))).trans (Fr.upd (.inl rfl))) (M2.put (k' := z.k) (here' := .int t) hw2)
theorem sc_mark : FnScope ["machine", "row", "number"] ["machine", "row"] (defScope d_mark) := ⟨rfl, rfl, rfl, by decide +kernel, rfl, by decide +kernel, by decide +kernel⟩
theorem ok_mark {f C : Addr} {fd : FuncData} (F : Fun K "do_mark" "do_mark" d_mark f fd) (T : MTx K mg C)
    {fC : Addr} {fdC : FuncData} (GC : FnOk P w K mg base CX0 1 fC fdC ["machine", "row"] (g_call C)) (kC : PySem.W.keepIn K (.ref fC) = true) (bC : Binds K fdC ["machine", "row"] []) (mC : mg "do_call" = some (.ref fC)) : FnOk P w K mg base CX0 2 f fd ["machine", "row"] (g_mark C) := by
  refine F.ok sc_mark (fun vs H Q E h => ?_) (fun cdv A outer s H vs Q E hr h => ?_)
  · obtain ⟨x, q, m, rows, rung, B, z, h, u, t, f, o, rfl, _⟩ := h
    rfl
  · obtain ⟨x, q, m, rows, rung, B, z, h, u, t, f, o, rfl, M, hB, hh, hq, hv, k⟩ := h
    have hu := hu_of hr
    obtain ⟨w0, ho, hw⟩ := M.obj
    have M1 := M.more (Nat.le_succ B) (by omega)
    refine ⟨_, pss_cons (ps_set (i := 2) sc_mark.nd rfl (Or.inl rfl) (pe_fld (pv 0) rfl)) (pss_cons (ps_fld (pv 0) (pe_op op_add (pv 2) pe_int) rfl) (pss_one (ps_if (pt_cmp (pc_din hu (pv 2) (pe_fld (pv 0) rfl))) (pss_one (ps_expr (pe_call GC hr (by rfl) mC kC bC .nil pass0 (pa_cons (pv 0) (pa_cons (pv 1) pa_nil))))) pss_nil))), ?_⟩
    refine ⟨_, rfl, x, C, m.dx, _, _, rfl, ho, T.cl, T.nM, f_marks, ?_⟩
    refine ⟨_, rfl, _, _, rfl, rfl, _, rfl, x, C, m.dx, _, rfl, ho, T.cl, T.nM, f_few, ?_⟩
    rw [s_marks]
    have M2 := M.put (k' := z.k + 1) (here' := z.here) hw
    refine ⟨_, rfl, _, rfl, x, C, m.dx, _, _, rfl, upd_same, T.cl, T.nR, f_rung, m.p5, _, rfl, DGet.k (k := Sum.inl z.k) M2.rg, _, rfl, ?_⟩
    rw [hv]
    refine ite2 (fun e => ?_) (fun e => ?_)
    · have hq2 : upd H x (.ins C m.dx (flds m (z.k + 1) z.here w0)) q = some (.tup [.str u, .int t, .int f]) := by
        rw [upd_ne (ne_of hq ho (by intro z; cases z))]
        exact hq
      exact ⟨_, rfl, _, rfl, x, q, m, rows, rung, B, _, h, u, t, f, rfl, M2, hB, hh, hq2, fun H' e1 e2 => k.1 e H' ((Fr.upd (.inl rfl)).trans e1) e2⟩
    · exact k.2 (by simpa using e) _ (Fr.upd (.inl rfl)) (M2.more (Nat.le_succ B) (by omega))
theorem sc_table : FnScope ["machine", "row", "k"] ["machine", "row"] (defScope d_table) := ⟨rfl, rfl, rfl, by decide +kernel, rfl, by decide +kernel, by decide +kernel⟩
theorem ok_table {f C : Addr} {fd : FuncData} (F : Fun K "do_table" "do_table" d_table f fd) (T : MTx K mg C) (ln : mg "len" = none) : FnOk P w K mg base CX0 1 f fd ["machine", "row"] (g_table C) := by
  refine F.ok sc_table (fun vs H Q E h => ?_) (fun cdv A outer s H vs Q E hr h => ?_)
  · obtain ⟨x, q, m, rows, rung, B, z, h, u, b, p, ts, rfl, _⟩ := h
    rfl
  · obtain ⟨x, q, m, rows, rung, B, z, h, u, b, p, ts, rfl, M, hB, hh, hq, hb, hp, k⟩ := h
    have hu := hu_of hr
    obtain ⟨w0, ho, hw⟩ := M.obj
    have M1 := M.more (Nat.le_succ B) (by omega)
    refine ⟨_, pss_cons (ps_set (i := 2) sc_table.nd rfl (Or.inl rfl) (pe_ix ix_list (pe_fld (pv 0) rfl) (pe_ix ix_tup (pv 1) pe_int (fun _ _ => rfl)) (fun _ _ => rfl))) (pss_one (ps_if (pt_chain op_le op_lt pe_int (pv 2) (pe_callB call_len_seq (by rfl) ln bt_len (pa_cons (pe_ix ix_tup (pv 1) pe_int (fun _ _ => rfl)) pa_nil))) (pss_one (ps_fld (pv 0) (pe_ix ix_tup (pe_ix ix_tup (pv 1) pe_int (fun _ _ => rfl)) (pv 2) (fun _ _ => rfl)) rfl)) pss_nil)), ?_⟩
    refine ⟨_, rfl, x, C, m.dx, _, _, rfl, ho, T.cl, T.nB, f_box, _, rfl, q, _, _, .int b, rfl, rfl, SqT.of hq, at1 _ _ _, m.p2, _, _, _, rfl, rfl, SqL.of M.box, M.at hb, ?_⟩
    unfold Zt.bx at k
    generalize z.bs.getD b.toNat 0 = c at k
    refine ⟨_, rfl, _, _, rfl, rfl, _, rfl, ?_⟩
    refine ite2 (fun e1 => ?_) (fun e1 => ?_)
    · have e1 := of_decide_eq_true e1
      refine ⟨_, rfl, q, _, _, .ref p, rfl, rfl, SqT.of hq, at2 _ _ _ _, p, _, rfl, .inr (SqT.of hp), _, _, rfl, rfl, _, rfl, ?_⟩
      refine ite2 (fun e2 => ?_) (fun e2 => ?_)
      · have e2 := of_decide_eq_true e2
        rw [List.length_map] at e2
        obtain ⟨j, rfl⟩ := Int.eq_ofNat_of_zero_le e1
        have hj : j < ts.length := by omega
        have hat : atI (ts.map V.int) (j : Int) = some (.int (ts.getD j 0)) := by
          refine atI_nat (j := j) ?_
          rw [List.getElem?_map, List.getElem?_eq_getElem hj, List.getD_eq_getElem?_getD, List.getElem?_eq_getElem hj]
          rfl
        refine ⟨_, rfl, q, _, _, .ref p, rfl, rfl, SqT.of hq, at2 _ _ _ _, _, rfl, p, _, _, _, rfl, rfl, SqT.of hp, hat, _, rfl, x, C, m.dx, _, rfl, ho, T.cl, T.nH, f_few, ?_⟩
        rw [s_here]
        rw [if_pos ⟨e1, e2⟩, Int.toNat_natCast] at k
        exact k _ (Fr.upd (.inl rfl)) (M1.put (k' := z.k) (here' := .int (ts.getD j 0)) hw)
      · rw [if_neg (fun c => e2 (decide_eq_true (by rw [List.length_map]; exact c.2))), ← hh] at k
        exact k _ Fr.refl M1
    · rw [if_neg (fun c => e1 (decide_eq_true c.1)), ← hh] at k
      exact ⟨_, rfl, iteF (k _ Fr.refl M1)⟩
end
end My


set_option Elab.async false
set_option linter.all false
set_option maxRecDepth 100000
set_option maxHeartbeats 4000000
namespace L2
open PySem
theorem call_dict_of {X : Cx} : CallR X (.type "dict") (fun xs H Q => ∃ (p : Addr) (kvs : List (Key × V)), xs = [.ref p] ∧ H p = some (.dK kvs) ∧ ∀ l, H l = none → Q (.ref l) (upd H l (.dK kvs))) := by
  intro pins s σ H xs us0 Q I r h
  obtain ⟨p, kvs, rfl, hp, q⟩ := h
  obtain ⟨u, rfl, ru⟩ := vals1 r
  cases ru
  exact d_copyOf I (.of hp) fun l s' hl I' => ⟨.ref l, _, I', rfl, q l hl⟩
end L2
namespace My
open PySem L2
abbrev sInit : Stmt := inClass (top 32) 0
abbrev sRowM : Stmt := inClass (top 32) 1
abbrev sStep : Stmt := inClass (top 32) 10
theorem bt_dict : bootBuiltins "dict" = some (.type "dict") := by decide +kernel
def SameX (a : Addr) (H H' : Hp) : Prop := ∀ c o, c ≠ a → H c = some o → H' c = some o
theorem SameX.refl {a : Addr} {H : Hp} : SameX a H H := fun _ _ _ e => e
theorem SameX.trans {a : Addr} {H H' H'' : Hp} (e : SameX a H H') (e' : SameX a H' H'') : SameX a H H'' := fun c o n h => e' c o n (e c o n h)
theorem SameX.put {a : Addr} {H : Hp} {o : HO} : SameX a H (upd H a o) := fun c u n h => by rw [upd_ne n]; exact h
theorem SameX.same {a : Addr} {H H' : Hp} (e : Same H H') : SameX a H H' := fun c o _ h => e c o h
theorem SameX.free {l : Addr} {H H1 : Hp} {q : Addr} (x : SameX l H H1) (h : q ≠ l) (n : H1 q = none) : H q = none := by
  cases e : H q with
  | none => rfl
  | some o => rw [x q o h e] at n; exact absurd n (by simp)
section
variable {P : Program} {w : World} {K : PySem.W.Frag} {mg : Str → Option Value} {base : Heap}
/-! ### row() -/
/-! ### a machine is made -/
def z0 (bs : List Int) (cf : Int → Int) : Zt := ⟨.int 0, none, bs, cf, fun _ => 0, [], [], [], 0⟩
def spInit (C : Addr) : Sp := fun vs H Q _ => ∃ (x dx a1 a2 a3 a4 : Addr) (rows : List V) (bs bells : List Int) (d0 : List (Key × V)) (cf : Int → Int), vs = [.ref x, .ref a1, .ref a2, .ref a3, .ref a4] ∧ H x = some (.ins C dx []) ∧ H a1 = some (.lst rows) ∧ H a2 = some (.lst (bs.map V.int)) ∧ bs.length = 8 ∧
  H a3 = some (.dK d0) ∧ Rep d0 cf ∧ d0.length ≤ 50 ∧ H a4 = some (.lst (bells.map V.int)) ∧ bells.length ≤ 100 ∧ ∀ (m : MA) (rung : List (Key × V)) (H' : Hp), (∀ j : Int, (valV rung (Sum.inl j)).isSome = decide (j ∈ bells)) → MG C H' x m rows rung 50 (z0 bs cf) → SameX x H H' → (∀ c, Own m x c → c ≠ x → H c = none) → Q .non H'
theorem scInit : FnScope ["self", "rows", "boxes", "cells", "bells", "bell"] ["self", "rows", "boxes", "cells", "bells"] (defScope sInit) := ⟨rfl, rfl, rfl, by decide +kernel, rfl, by decide +kernel, by decide +kernel⟩
theorem ok_init {f C : Addr} {fd : FuncData} (F : Fun K "__init__" "Machine.__init__" sInit f fd) (TT : Txt K mg) (T : MTx K mg C) : FnOk P w K mg base CX0 1 f fd ["self", "rows", "boxes", "cells", "bells"] (spInit C) := by
  refine F.ok scInit (fun vs H Q E h => ?_) (fun cdv A outer s H vs Q E hr h => ?_)
  · obtain ⟨x, dx, a1, a2, a3, a4, rows, bs, bells, d0, cf, rfl, _⟩ := h
    rfl
  · obtain ⟨x, dx, a1, a2, a3, a4, rows, bs, bells, d0, cf, rfl, hx, h1, h2, b8, h3, hrep, hdl, h4, bl, z⟩ := h
    have hu := hu_of hr
    refine ⟨_, pss_cons (ps_fld (pv 0) (pe_callTy call_list_of (by rfl) TT.list bt_list (pa_cons (pv 1) pa_nil)) rfl)
      (pss_cons (ps_fld (pv 0) (pe_callTy call_list_of (by rfl) TT.list bt_list (pa_cons (pv 2) pa_nil)) rfl)
      (pss_cons (ps_fld (pv 0) (pe_callTy call_dict_of (by rfl) TT.dict bt_dict (pa_cons (pv 3) pa_nil)) rfl)
      (pss_cons (ps_fld (pv 0) pe_dnewK rfl) (pss_cons (ps_fld (pv 0) pe_dnewK rfl)
      (pss_cons (ps_for PassesOwn.never rfl (pi_list (pv 4)) (pg_name (i := 5) scInit.nd rfl (Or.inl rfl)) (pss_one (ps_dput hu (pe_fld (pv 0) rfl) (pv 5) pe_bl rfl)))
      (pss_cons (ps_fld (pv 0) (pe_lst pa_nil) rfl) (pss_cons (ps_fld (pv 0) (pe_lst pa_nil) rfl) (pss_cons (ps_fld (pv 0) (pe_lst pa_nil) rfl)
      (pss_cons (ps_fld (pv 0) pe_int rfl) (pss_cons (ps_fld (pv 0) pe_int rfl) (pss_one (ps_fld (pv 0) pe_non rfl)))))))))))), ?_⟩
    have xa : ∀ {a o}, H a = some o → (∀ fs, o ≠ .ins C dx fs) → a ≠ x := fun {a o} e n => ne_of e hx (n _)
    have x1 := xa h1 (by intro _ z; cases z)
    have x2 := xa h2 (by intro _ z; cases z)
    have x3 := xa h3 (by intro _ z; cases z)
    have x4 := xa h4 (by intro _ z; cases z)
    have S0 : SameX x H H := SameX.refl
    have O0 := hx
    refine ⟨_, rfl, a1, _, rfl, .inl (SqL.of h1), fun p1 n1 => ?_⟩
    have y1 : p1 ≠ x := (ne_of_none O0 n1).symm
    have f1 : H p1 = none := S0.free y1 n1
    refine ⟨_, rfl, x, C, dx, ([] : List (Str × V)), rfl, same_new n1 _ _ O0, T.cl, T.nP, (by show 0 < 1000; decide), ?_⟩
    rw [show putF ("program" : Str) (V.ref p1) ([] : List (Str × V)) = (List.zip ["program"] [V.ref p1] : List (Str × V)) from rfl]
    obtain ⟨G1, E1⟩ : ∃ G, G = upd (upd H p1 (.lst rows)) x (.ins C dx (List.zip ["program"] [V.ref p1] : List (Str × V))) := ⟨_, rfl⟩
    have R1 : SameX x H G1 := by rw [E1]; exact (SameX.same (same_new n1)).trans SameX.put
    have K1 : G1 p1 = some (.lst rows) := by rw [E1, upd_ne y1]; exact upd_same
    have O1 : G1 x = some (.ins C dx (List.zip ["program"] [V.ref p1] : List (Str × V))) := by rw [E1]; exact upd_same
    have S1 : SameX x H G1 := S0.trans R1
    rw [← E1]
    clear E1
    refine ⟨_, rfl, a2, _, rfl, .inl (SqL.of (S1 _ _ x2 h2)), fun p2 n2 => ?_⟩
    have y2 : p2 ≠ x := (ne_of_none O1 n2).symm
    have f2 : H p2 = none := S1.free y2 n2
    refine ⟨_, rfl, x, C, dx, (List.zip ["program"] [V.ref p1] : List (Str × V)), rfl, same_new n2 _ _ O1, T.cl, T.nB, (by show 1 < 1000; decide), ?_⟩
    rw [show putF ("in_boxes" : Str) (V.ref p2) (List.zip ["program"] [V.ref p1] : List (Str × V)) = (List.zip ["program", "in_boxes"] [V.ref p1, V.ref p2] : List (Str × V)) from put_new _ _ _ _ (by decide +kernel) rfl]
    obtain ⟨G2, E2⟩ : ∃ G, G = upd (upd G1 p2 (.lst (bs.map V.int))) x (.ins C dx (List.zip ["program", "in_boxes"] [V.ref p1, V.ref p2] : List (Str × V))) := ⟨_, rfl⟩
    have R2 : SameX x G1 G2 := by rw [E2]; exact (SameX.same (same_new n2)).trans SameX.put
    have K2 : G2 p2 = some (.lst (bs.map V.int)) := by rw [E2, upd_ne y2]; exact upd_same
    have O2 : G2 x = some (.ins C dx (List.zip ["program", "in_boxes"] [V.ref p1, V.ref p2] : List (Str × V))) := by rw [E2]; exact upd_same
    have S2 : SameX x H G2 := S1.trans R2
    rw [← E2]
    clear E2
    refine ⟨_, rfl, a3, _, rfl, S2 _ _ x3 h3, fun p3 n3 => ?_⟩
    have y3 : p3 ≠ x := (ne_of_none O2 n3).symm
    have f3 : H p3 = none := S2.free y3 n3
    refine ⟨_, rfl, x, C, dx, (List.zip ["program", "in_boxes"] [V.ref p1, V.ref p2] : List (Str × V)), rfl, same_new n3 _ _ O2, T.cl, T.nC, (by show 2 < 1000; decide), ?_⟩
    rw [show putF ("in_cells" : Str) (V.ref p3) (List.zip ["program", "in_boxes"] [V.ref p1, V.ref p2] : List (Str × V)) = (List.zip ["program", "in_boxes", "in_cells"] [V.ref p1, V.ref p2, V.ref p3] : List (Str × V)) from put_new _ _ _ _ (by decide +kernel) rfl]
    obtain ⟨G3, E3⟩ : ∃ G, G = upd (upd G2 p3 (.dK d0)) x (.ins C dx (List.zip ["program", "in_boxes", "in_cells"] [V.ref p1, V.ref p2, V.ref p3] : List (Str × V))) := ⟨_, rfl⟩
    have R3 : SameX x G2 G3 := by rw [E3]; exact (SameX.same (same_new n3)).trans SameX.put
    have K3 : G3 p3 = some (.dK d0) := by rw [E3, upd_ne y3]; exact upd_same
    have O3 : G3 x = some (.ins C dx (List.zip ["program", "in_boxes", "in_cells"] [V.ref p1, V.ref p2, V.ref p3] : List (Str × V))) := by rw [E3]; exact upd_same
    have S3 : SameX x H G3 := S2.trans R3
    rw [← E3]
    clear E3
    intro p4 n4
    have y4 : p4 ≠ x := (ne_of_none O3 n4).symm
    have f4 : H p4 = none := S3.free y4 n4
    refine ⟨_, rfl, x, C, dx, (List.zip ["program", "in_boxes", "in_cells"] [V.ref p1, V.ref p2, V.ref p3] : List (Str × V)), rfl, same_new n4 _ _ O3, T.cl, T.nA, (by show 3 < 1000; decide), ?_⟩
    rw [show putF ("in_asides" : Str) (V.ref p4) (List.zip ["program", "in_boxes", "in_cells"] [V.ref p1, V.ref p2, V.ref p3] : List (Str × V)) = (List.zip ["program", "in_boxes", "in_cells", "in_asides"] [V.ref p1, V.ref p2, V.ref p3, V.ref p4] : List (Str × V)) from put_new _ _ _ _ (by decide +kernel) rfl]
    obtain ⟨G4, E4⟩ : ∃ G, G = upd (upd G3 p4 (.dK [])) x (.ins C dx (List.zip ["program", "in_boxes", "in_cells", "in_asides"] [V.ref p1, V.ref p2, V.ref p3, V.ref p4] : List (Str × V))) := ⟨_, rfl⟩
    have R4 : SameX x G3 G4 := by rw [E4]; exact (SameX.same (same_new n4)).trans SameX.put
    have K4 : G4 p4 = some (.dK []) := by rw [E4, upd_ne y4]; exact upd_same
    have O4 : G4 x = some (.ins C dx (List.zip ["program", "in_boxes", "in_cells", "in_asides"] [V.ref p1, V.ref p2, V.ref p3, V.ref p4] : List (Str × V))) := by rw [E4]; exact upd_same
    have S4 : SameX x H G4 := S3.trans R4
    rw [← E4]
    clear E4
    intro p5 n5
    have y5 : p5 ≠ x := (ne_of_none O4 n5).symm
    have f5 : H p5 = none := S4.free y5 n5
    refine ⟨_, rfl, x, C, dx, (List.zip ["program", "in_boxes", "in_cells", "in_asides"] [V.ref p1, V.ref p2, V.ref p3, V.ref p4] : List (Str × V)), rfl, same_new n5 _ _ O4, T.cl, T.nR, (by show 4 < 1000; decide), ?_⟩
    rw [show putF ("rung" : Str) (V.ref p5) (List.zip ["program", "in_boxes", "in_cells", "in_asides"] [V.ref p1, V.ref p2, V.ref p3, V.ref p4] : List (Str × V)) = (List.zip ["program", "in_boxes", "in_cells", "in_asides", "rung"] [V.ref p1, V.ref p2, V.ref p3, V.ref p4, V.ref p5] : List (Str × V)) from put_new _ _ _ _ (by decide +kernel) rfl]
    obtain ⟨G5, E5⟩ : ∃ G, G = upd (upd G4 p5 (.dK [])) x (.ins C dx (List.zip ["program", "in_boxes", "in_cells", "in_asides", "rung"] [V.ref p1, V.ref p2, V.ref p3, V.ref p4, V.ref p5] : List (Str × V))) := ⟨_, rfl⟩
    have R5 : SameX x G4 G5 := by rw [E5]; exact (SameX.same (same_new n5)).trans SameX.put
    have K5 : G5 p5 = some (.dK []) := by rw [E5, upd_ne y5]; exact upd_same
    have O5 : G5 x = some (.ins C dx (List.zip ["program", "in_boxes", "in_cells", "in_asides", "rung"] [V.ref p1, V.ref p2, V.ref p3, V.ref p4, V.ref p5] : List (Str × V))) := by rw [E5]; exact upd_same
    have S5 : SameX x H G5 := S4.trans R5
    rw [← E5]
    clear E5
    refine ⟨_, rfl, a4, rfl, ⟨_, SqL.of (S5 _ _ x4 h4)⟩, for_list (xs := bells.map V.int) (fun i σ Hc => ∃ (v : Option V) (rung : List (Key × V)), σ = [some (.ref x), some (.ref a1), some (.ref a2), some (.ref a3), some (.ref a4), v] ∧ (∀ c o, c ≠ p5 → G5 c = some o → Hc c = some o) ∧ Hc p5 = some (.dK rung) ∧ rung.length ≤ i ∧ ∀ j : Int, (valV rung (Sum.inl j)).isSome = decide (j ∈ bells.take i)) ?_ ?_ ?_ ?_⟩
    · exact ⟨none, [], rfl, fun _ _ _ e => e, K5, Nat.le_refl _, fun j => by simp [valV]⟩
    · rintro i σ Hc _ ⟨v, rung, rfl, e5, _⟩
      have q5 : a4 ≠ p5 := ne_of_none h4 f5
      exact SqL.of (e5 _ _ q5 (S5 _ _ x4 h4))
    · rintro i y σ Hc hy ⟨v, rung, rfl, e5, k5, rl, rv⟩
      rw [List.getElem?_map] at hy
      obtain ⟨b, hb, rfl⟩ := Option.map_eq_some_iff.mp hy
      have hil := (List.getElem?_eq_some_iff.mp hb).1
      refine ⟨_, rfl, x, C, dx, _, _, rfl, e5 _ _ y5.symm O5, T.cl, T.nR, (look_zip ["program", "in_boxes", "in_cells", "in_asides", "rung"] _ 4 _ (by decide +kernel) rfl), _, rfl, p5, _, rfl, DPut.k (k := Sum.inl b) k5 (small1000 (by omega)), ?_⟩
      refine ⟨_, _, rfl, fun c o n e => ?_, upd_same, ?_, fun j => ?_⟩
      · rw [upd_ne n]
        exact e5 c o n e
      · have := length_putK rung (Sum.inl b : Key) (V.bl true)
        omega
      · rw [valV_put, List.take_succ, hb]
        by_cases hj : j = b
        · subst hj
          rw [if_pos rfl]
          simp
        · rw [if_neg (by intro e; exact hj (Sum.inl.inj e)), rv j]
          simp [hj]
    · rintro σ G6' ⟨v, rung, rfl, e5, k5, rl, rv⟩
      rw [List.length_map, List.take_length] at rv
      have O5' := e5 _ _ y5.symm O5
      have S5' : SameX x H G6' := fun c o n e => by
        have hc : c ≠ p5 := ne_of_none e f5
        exact e5 c o hc (S5 c o n e)
      refine ⟨(by show 0 ≤ sizeLine; decide), fun p6 n6 => ?_⟩
      have y6 : p6 ≠ x := (ne_of_none O5' n6).symm
      have f6 : H p6 = none := S5'.free y6 n6
      refine ⟨_, rfl, x, C, dx, (List.zip ["program", "in_boxes", "in_cells", "in_asides", "rung"] [V.ref p1, V.ref p2, V.ref p3, V.ref p4, V.ref p5] : List (Str × V)), rfl, same_new n6 _ _ O5', T.cl, T.nT, (by show 5 < 1000; decide), ?_⟩
      rw [show putF ("told_numbers" : Str) (V.ref p6) (List.zip ["program", "in_boxes", "in_cells", "in_asides", "rung"] [V.ref p1, V.ref p2, V.ref p3, V.ref p4, V.ref p5] : List (Str × V)) = (List.zip ["program", "in_boxes", "in_cells", "in_asides", "rung", "told_numbers"] [V.ref p1, V.ref p2, V.ref p3, V.ref p4, V.ref p5, V.ref p6] : List (Str × V)) from put_new _ _ _ _ (by decide +kernel) rfl]
      obtain ⟨G6, E6⟩ : ∃ G, G = upd (upd G6' p6 (.lst [])) x (.ins C dx (List.zip ["program", "in_boxes", "in_cells", "in_asides", "rung", "told_numbers"] [V.ref p1, V.ref p2, V.ref p3, V.ref p4, V.ref p5, V.ref p6] : List (Str × V))) := ⟨_, rfl⟩
      have R6 : SameX x G6' G6 := by rw [E6]; exact (SameX.same (same_new n6)).trans SameX.put
      have K6 : G6 p6 = some (.lst []) := by rw [E6, upd_ne y6]; exact upd_same
      have O6 : G6 x = some (.ins C dx (List.zip ["program", "in_boxes", "in_cells", "in_asides", "rung", "told_numbers"] [V.ref p1, V.ref p2, V.ref p3, V.ref p4, V.ref p5, V.ref p6] : List (Str × V))) := by rw [E6]; exact upd_same
      have S6 : SameX x H G6 := S5'.trans R6
      rw [← E6]
      clear E6
      refine ⟨(by show 0 ≤ sizeLine; decide), fun p7 n7 => ?_⟩
      have y7 : p7 ≠ x := (ne_of_none O6 n7).symm
      have f7 : H p7 = none := S6.free y7 n7
      refine ⟨_, rfl, x, C, dx, (List.zip ["program", "in_boxes", "in_cells", "in_asides", "rung", "told_numbers"] [V.ref p1, V.ref p2, V.ref p3, V.ref p4, V.ref p5, V.ref p6] : List (Str × V)), rfl, same_new n7 _ _ O6, T.cl, T.nS, (by show 6 < 1000; decide), ?_⟩
      rw [show putF ("seen_numbers" : Str) (V.ref p7) (List.zip ["program", "in_boxes", "in_cells", "in_asides", "rung", "told_numbers"] [V.ref p1, V.ref p2, V.ref p3, V.ref p4, V.ref p5, V.ref p6] : List (Str × V)) = (List.zip ["program", "in_boxes", "in_cells", "in_asides", "rung", "told_numbers", "seen_numbers"] [V.ref p1, V.ref p2, V.ref p3, V.ref p4, V.ref p5, V.ref p6, V.ref p7] : List (Str × V)) from put_new _ _ _ _ (by decide +kernel) rfl]
      obtain ⟨G7, E7⟩ : ∃ G, G = upd (upd G6 p7 (.lst [])) x (.ins C dx (List.zip ["program", "in_boxes", "in_cells", "in_asides", "rung", "told_numbers", "seen_numbers"] [V.ref p1, V.ref p2, V.ref p3, V.ref p4, V.ref p5, V.ref p6, V.ref p7] : List (Str × V))) := ⟨_, rfl⟩
      have R7 : SameX x G6 G7 := by rw [E7]; exact (SameX.same (same_new n7)).trans SameX.put
      have K7 : G7 p7 = some (.lst []) := by rw [E7, upd_ne y7]; exact upd_same
      have O7 : G7 x = some (.ins C dx (List.zip ["program", "in_boxes", "in_cells", "in_asides", "rung", "told_numbers", "seen_numbers"] [V.ref p1, V.ref p2, V.ref p3, V.ref p4, V.ref p5, V.ref p6, V.ref p7] : List (Str × V))) := by rw [E7]; exact upd_same
      have S7 : SameX x H G7 := S6.trans R7
      rw [← E7]
      clear E7
      refine ⟨(by show 0 ≤ sizeLine; decide), fun p8 n8 => ?_⟩
      have y8 : p8 ≠ x := (ne_of_none O7 n8).symm
      have f8 : H p8 = none := S7.free y8 n8
      refine ⟨_, rfl, x, C, dx, (List.zip ["program", "in_boxes", "in_cells", "in_asides", "rung", "told_numbers", "seen_numbers"] [V.ref p1, V.ref p2, V.ref p3, V.ref p4, V.ref p5, V.ref p6, V.ref p7] : List (Str × V)), rfl, same_new n8 _ _ O7, T.cl, T.nL, (by show 7 < 1000; decide), ?_⟩
      rw [show putF ("pile" : Str) (V.ref p8) (List.zip ["program", "in_boxes", "in_cells", "in_asides", "rung", "told_numbers", "seen_numbers"] [V.ref p1, V.ref p2, V.ref p3, V.ref p4, V.ref p5, V.ref p6, V.ref p7] : List (Str × V)) = (List.zip ["program", "in_boxes", "in_cells", "in_asides", "rung", "told_numbers", "seen_numbers", "pile"] [V.ref p1, V.ref p2, V.ref p3, V.ref p4, V.ref p5, V.ref p6, V.ref p7, V.ref p8] : List (Str × V)) from put_new _ _ _ _ (by decide +kernel) rfl]
      obtain ⟨G8, E8⟩ : ∃ G, G = upd (upd G7 p8 (.lst [])) x (.ins C dx (List.zip ["program", "in_boxes", "in_cells", "in_asides", "rung", "told_numbers", "seen_numbers", "pile"] [V.ref p1, V.ref p2, V.ref p3, V.ref p4, V.ref p5, V.ref p6, V.ref p7, V.ref p8] : List (Str × V))) := ⟨_, rfl⟩
      have R8 : SameX x G7 G8 := by rw [E8]; exact (SameX.same (same_new n8)).trans SameX.put
      have K8 : G8 p8 = some (.lst []) := by rw [E8, upd_ne y8]; exact upd_same
      have O8 : G8 x = some (.ins C dx (List.zip ["program", "in_boxes", "in_cells", "in_asides", "rung", "told_numbers", "seen_numbers", "pile"] [V.ref p1, V.ref p2, V.ref p3, V.ref p4, V.ref p5, V.ref p6, V.ref p7, V.ref p8] : List (Str × V))) := by rw [E8]; exact upd_same
      have S8 : SameX x H G8 := S7.trans R8
      rw [← E8]
      clear E8
      refine ⟨_, rfl, x, C, dx, (List.zip ["program", "in_boxes", "in_cells", "in_asides", "rung", "told_numbers", "seen_numbers", "pile"] [V.ref p1, V.ref p2, V.ref p3, V.ref p4, V.ref p5, V.ref p6, V.ref p7, V.ref p8] : List (Str × V)), rfl, O8, T.cl, T.nM, (by show 8 < 1000; decide), ?_⟩
      rw [show putF ("marks_done" : Str) (V.int 0) (List.zip ["program", "in_boxes", "in_cells", "in_asides", "rung", "told_numbers", "seen_numbers", "pile"] [V.ref p1, V.ref p2, V.ref p3, V.ref p4, V.ref p5, V.ref p6, V.ref p7, V.ref p8] : List (Str × V)) = (List.zip ["program", "in_boxes", "in_cells", "in_asides", "rung", "told_numbers", "seen_numbers", "pile", "marks_done"] [V.ref p1, V.ref p2, V.ref p3, V.ref p4, V.ref p5, V.ref p6, V.ref p7, V.ref p8, V.int 0] : List (Str × V)) from put_new _ _ _ _ (by decide +kernel) rfl]
      obtain ⟨G9, E9⟩ : ∃ G, G = upd G8 x (.ins C dx (List.zip ["program", "in_boxes", "in_cells", "in_asides", "rung", "told_numbers", "seen_numbers", "pile", "marks_done"] [V.ref p1, V.ref p2, V.ref p3, V.ref p4, V.ref p5, V.ref p6, V.ref p7, V.ref p8, V.int 0] : List (Str × V))) := ⟨_, rfl⟩
      have R9 : SameX x G8 G9 := by rw [E9]; exact SameX.put
      have O9 : G9 x = some (.ins C dx (List.zip ["program", "in_boxes", "in_cells", "in_asides", "rung", "told_numbers", "seen_numbers", "pile", "marks_done"] [V.ref p1, V.ref p2, V.ref p3, V.ref p4, V.ref p5, V.ref p6, V.ref p7, V.ref p8, V.int 0] : List (Str × V))) := by rw [E9]; exact upd_same
      have S9 : SameX x H G9 := S8.trans R9
      rw [← E9]
      clear E9
      refine ⟨_, rfl, x, C, dx, (List.zip ["program", "in_boxes", "in_cells", "in_asides", "rung", "told_numbers", "seen_numbers", "pile", "marks_done"] [V.ref p1, V.ref p2, V.ref p3, V.ref p4, V.ref p5, V.ref p6, V.ref p7, V.ref p8, V.int 0] : List (Str × V)), rfl, O9, T.cl, T.nH, (by show 9 < 1000; decide), ?_⟩
      rw [show putF ("here" : Str) (V.int 0) (List.zip ["program", "in_boxes", "in_cells", "in_asides", "rung", "told_numbers", "seen_numbers", "pile", "marks_done"] [V.ref p1, V.ref p2, V.ref p3, V.ref p4, V.ref p5, V.ref p6, V.ref p7, V.ref p8, V.int 0] : List (Str × V)) = (List.zip ["program", "in_boxes", "in_cells", "in_asides", "rung", "told_numbers", "seen_numbers", "pile", "marks_done", "here"] [V.ref p1, V.ref p2, V.ref p3, V.ref p4, V.ref p5, V.ref p6, V.ref p7, V.ref p8, V.int 0, V.int 0] : List (Str × V)) from put_new _ _ _ _ (by decide +kernel) rfl]
      obtain ⟨G10, E10⟩ : ∃ G, G = upd G9 x (.ins C dx (List.zip ["program", "in_boxes", "in_cells", "in_asides", "rung", "told_numbers", "seen_numbers", "pile", "marks_done", "here"] [V.ref p1, V.ref p2, V.ref p3, V.ref p4, V.ref p5, V.ref p6, V.ref p7, V.ref p8, V.int 0, V.int 0] : List (Str × V))) := ⟨_, rfl⟩
      have R10 : SameX x G9 G10 := by rw [E10]; exact SameX.put
      have O10 : G10 x = some (.ins C dx (List.zip ["program", "in_boxes", "in_cells", "in_asides", "rung", "told_numbers", "seen_numbers", "pile", "marks_done", "here"] [V.ref p1, V.ref p2, V.ref p3, V.ref p4, V.ref p5, V.ref p6, V.ref p7, V.ref p8, V.int 0, V.int 0] : List (Str × V))) := by rw [E10]; exact upd_same
      have S10 : SameX x H G10 := S9.trans R10
      rw [← E10]
      clear E10
      refine ⟨_, rfl, x, C, dx, (List.zip ["program", "in_boxes", "in_cells", "in_asides", "rung", "told_numbers", "seen_numbers", "pile", "marks_done", "here"] [V.ref p1, V.ref p2, V.ref p3, V.ref p4, V.ref p5, V.ref p6, V.ref p7, V.ref p8, V.int 0, V.int 0] : List (Str × V)), rfl, O10, T.cl, T.nE, (by show 10 < 1000; decide), ?_⟩
      rw [show putF ("how_ended" : Str) (V.non) (List.zip ["program", "in_boxes", "in_cells", "in_asides", "rung", "told_numbers", "seen_numbers", "pile", "marks_done", "here"] [V.ref p1, V.ref p2, V.ref p3, V.ref p4, V.ref p5, V.ref p6, V.ref p7, V.ref p8, V.int 0, V.int 0] : List (Str × V)) = (List.zip ["program", "in_boxes", "in_cells", "in_asides", "rung", "told_numbers", "seen_numbers", "pile", "marks_done", "here", "how_ended"] [V.ref p1, V.ref p2, V.ref p3, V.ref p4, V.ref p5, V.ref p6, V.ref p7, V.ref p8, V.int 0, V.int 0, V.non] : List (Str × V)) from put_new _ _ _ _ (by decide +kernel) rfl]
      obtain ⟨G11, E11⟩ : ∃ G, G = upd G10 x (.ins C dx (List.zip ["program", "in_boxes", "in_cells", "in_asides", "rung", "told_numbers", "seen_numbers", "pile", "marks_done", "here", "how_ended"] [V.ref p1, V.ref p2, V.ref p3, V.ref p4, V.ref p5, V.ref p6, V.ref p7, V.ref p8, V.int 0, V.int 0, V.non] : List (Str × V))) := ⟨_, rfl⟩
      have R11 : SameX x G10 G11 := by rw [E11]; exact SameX.put
      have O11 : G11 x = some (.ins C dx (List.zip ["program", "in_boxes", "in_cells", "in_asides", "rung", "told_numbers", "seen_numbers", "pile", "marks_done", "here", "how_ended"] [V.ref p1, V.ref p2, V.ref p3, V.ref p4, V.ref p5, V.ref p6, V.ref p7, V.ref p8, V.int 0, V.int 0, V.non] : List (Str × V))) := by rw [E11]; exact upd_same
      have S11 : SameX x H G11 := S10.trans R11
      rw [← E11]
      clear E11
      have P58 : SameX x G6' G11 := R6.trans (R7.trans (R8.trans (R9.trans (R10.trans R11))))
      have n15 : p1 ≠ p5 := ne_of_none (R4 _ _ y1 (R3 _ _ y1 (R2 _ _ y1 K1))) n5
      have n25 : p2 ≠ p5 := ne_of_none (R4 _ _ y2 (R3 _ _ y2 K2)) n5
      have n35 : p3 ≠ p5 := ne_of_none (R4 _ _ y3 K3) n5
      have n45 : p4 ≠ p5 := ne_of_none K4 n5
      have g1 := e5 _ _ n15 (R5 _ _ y1 (R4 _ _ y1 (R3 _ _ y1 (R2 _ _ y1 K1))))
      have g2 := e5 _ _ n25 (R5 _ _ y2 (R4 _ _ y2 (R3 _ _ y2 K2)))
      have g3 := e5 _ _ n35 (R5 _ _ y3 (R4 _ _ y3 K3))
      have g4 := e5 _ _ n45 (R5 _ _ y4 K4)
      have R67 := R6.trans R7
      have n12 : p1 ≠ p2 := ne_of_none K1 n2
      have n34 : p3 ≠ p4 := ne_of_none K3 n4
      have n16 : p1 ≠ p6 := ne_of_none g1 n6
      have n26 : p2 ≠ p6 := ne_of_none g2 n6
      have n17 : p1 ≠ p7 := ne_of_none (R6 _ _ y1 g1) n7
      have n27 : p2 ≠ p7 := ne_of_none (R6 _ _ y2 g2) n7
      have n67 : p6 ≠ p7 := ne_of_none K6 n7
      have n18 : p1 ≠ p8 := ne_of_none (R67 _ _ y1 g1) n8
      have n28 : p2 ≠ p8 := ne_of_none (R67 _ _ y2 g2) n8
      have n68 : p6 ≠ p8 := ne_of_none (R7 _ _ y6 K6) n8
      have n78 : p7 ≠ p8 := ne_of_none K7 n8
      refine z ⟨dx, p1, p2, p3, p4, p5, p6, p7, p8⟩ rung G11 rv ⟨⟨_, O11, rfl⟩, P58 _ _ y1 g1, P58 _ _ y2 g2, b8, ⟨d0, P58 _ _ y3 g3, hrep, hdl⟩, ⟨[], P58 _ _ y4 g4, Rep.nil, by simp⟩, P58 _ _ y5 k5, (R7.trans (R8.trans (R9.trans (R10.trans R11)))) _ _ y6 K6, ⟨[], (R8.trans (R9.trans (R10.trans R11))) _ _ y7 K7, rfl, fun i p c e => by simp at e⟩, (R9.trans (R10.trans R11)) _ _ y8 K8, ⟨n12, n16, n17, n18, n26, n27, n28, n67, n68, n78, n34, n35, n45⟩, ⟨by simp [z0], by simp [z0], by simp [z0]⟩, by omega⟩ S11 ?_
      rintro c (rfl | rfl | rfl | rfl | rfl | rfl | rfl | rfl) hc
      · exact absurd rfl hc
      · exact f2
      · exact f3
      · exact f4
      · exact f5
      · exact f6
      · exact f7
      · exact f8
end
end My


set_option Elab.async false
set_option linter.all false
set_option maxRecDepth 100000
set_option maxHeartbeats 4000000
namespace My
open PySem L2
/-! ### rows as data, and what a row does -/
inductive Rw where
  | stop | back | halt (v : Int) | two (u : Str) (b v : Int) | tell (b : Int) | jcm (u : Str) (t f : Int) | zb (u : Str) (b t f : Int) | table (b : Int) (ts : List Int)
def ten : List Str := ["set", "more", "copy", "add", "less", "load", "keep", "see", "put", "take"]
def five : List Str := ["copy", "add", "less", "load", "keep"]
def RowIs (H : Hp) (q : Addr) (n : Int) : Rw → Prop
  | .stop => H q = some (.tup [.str "stop"])
  | .back => H q = some (.tup [.str "back"])
  | .halt v => H q = some (.tup [.str "halt", .int v])
  | .two u b v => H q = some (.tup [.str u, .int b, .int v]) ∧ u ∈ ten ∧ Bx b ∧ (u ∈ five → Bx v)
  | .tell b => H q = some (.tup [.str "tell", .int b]) ∧ Bx b
  | .jcm u t f => H q = some (.tup [.str u, .int t, .int f]) ∧ u ∈ My.jcm ∧ 0 ≤ t ∧ t < n
  | .zb u b t f => H q = some (.tup [.str u, .int b, .int t, .int f]) ∧ u ∈ My.zb ∧ Bx b ∧ 0 ≤ t ∧ t < n
  | .table b ts => ∃ p, H q = some (.tup [.str "table", .int b, .ref p]) ∧ H p = some (.tup (ts.map V.int)) ∧ Bx b ∧ ∀ t ∈ ts, 0 ≤ t ∧ t < n
theorem RowIs.tups {H H' : Hp} {q : Addr} {n : Int} {r : Rw} (e : SameT2 H H') (h : RowIs H q n r) : RowIs H' q n r := by
  cases r with
  | stop => exact e _ _ h
  | back => exact e _ _ h
  | halt v => exact e _ _ h
  | two u b v => exact ⟨e _ _ h.1, h.2⟩
  | tell b => exact ⟨e _ _ h.1, h.2⟩
  | jcm u t f => exact ⟨e _ _ h.1, h.2⟩
  | zb u b t f => exact ⟨e _ _ h.1, h.2⟩
  | table b ts =>
    obtain ⟨p, h1, h2, h3⟩ := h
    exact ⟨p, e _ _ h1, e _ _ h2, h3⟩
/-- the word of a row -/
def Rw.word : Rw → Str
  | .stop => "stop" | .back => "back" | .halt _ => "halt" | .two u _ _ => u | .tell _ => "tell" | .jcm u _ _ => u | .zb u _ _ _ => u | .table _ _ => "table"
def Rw.goes (r : Rw) : Prop := ¬ r.word ∈ notOn
/-- every row that is drawn is one of these -/
theorem row_is {H : Hp} {q : Addr} {n : Int} {u : Str} {ts : List Int} (hR : RowAt H q u ts) (hS : ShapeAt H q u) (ht : ∀ t ∈ ts, 0 ≤ t ∧ t < n) : ∃ r : Rw, RowIs H q n r ∧ r.word = u := by
  obtain ⟨items, hq, hP⟩ := hR
  obtain ⟨items', hq', hS⟩ := hS
  rw [hq] at hq'
  have e : items' = items := by
    have := Option.some.inj hq'
    injection this with this
    injection this with _ this
    exact this.symm
  subst e
  rcases hS with ⟨hu, rfl⟩ | ⟨rfl, v, rfl⟩ | ⟨hu, b, v, hb, rfl⟩ | ⟨hu, b, c, hb, hc, rfl⟩ | ⟨rfl, b, hb, rfl⟩ | ⟨hu, b, v, hb, rfl⟩ | ⟨hu, t, f, rfl⟩ | ⟨hu, b, t, f, hb, rfl⟩ | ⟨rfl, b, p, hb, rfl⟩
  · rcases (show u = "stop" ∨ u = "back" by simpa using hu) with rfl | rfl
    · exact ⟨.stop, hq, rfl⟩
    · exact ⟨.back, hq, rfl⟩
  · exact ⟨.halt v, hq, rfl⟩
  · exact ⟨.two u b v, ⟨hq, (by decide +kernel : ∀ u ∈ (["set", "more"] : List Str), u ∈ ten) u hu, hb, fun z => absurd z ((by decide +kernel : ∀ u ∈ (["set", "more"] : List Str), ¬ u ∈ five) u hu)⟩, rfl⟩
  · exact ⟨.two u b c, ⟨hq, (by decide +kernel : ∀ u ∈ (["copy", "add", "less", "load", "keep"] : List Str), u ∈ ten) u hu, hb, fun _ => hc⟩, rfl⟩
  · exact ⟨.tell b, ⟨hq, hb⟩, rfl⟩
  · exact ⟨.two u b v, ⟨hq, (by decide +kernel : ∀ u ∈ (["see", "put", "take"] : List Str), u ∈ ten) u hu, hb, fun z => absurd z ((by decide +kernel : ∀ u ∈ (["see", "put", "take"] : List Str), ¬ u ∈ five) u hu)⟩, rfl⟩
  · unfold Parts at hP
    rw [if_neg ((by decide +kernel : ∀ u ∈ jcm, ¬ u = "table") u hu), if_pos hu] at hP
    obtain ⟨t', f', e1, rfl⟩ := hP
    cases e1
    exact ⟨.jcm u t f, ⟨hq, hu, (ht t (by simp)).1, (ht t (by simp)).2⟩, rfl⟩
  · unfold Parts at hP
    have n1 := (by decide +kernel : ∀ u ∈ zb, ¬ u = "table" ∧ ¬ u ∈ jcm) u hu
    rw [if_neg n1.1, if_neg n1.2, if_pos hu] at hP
    obtain ⟨b', t', f', e1, rfl⟩ := hP
    cases e1
    exact ⟨.zb u b t f, ⟨hq, hu, hb, (ht t (by simp)).1, (ht t (by simp)).2⟩, rfl⟩
  · unfold Parts at hP
    rw [if_pos rfl] at hP
    obtain ⟨b', p', e1, hp⟩ := hP
    cases e1
    exact ⟨.table b ts, ⟨p, hq, hp, hb, ht⟩, rfl⟩
/-- the number that a row sets -/
def num (u : Str) (b v : Int) (z : Zt) : Int :=
  if u = "set" then v else if u = "more" then z.bx b + v else if u = "copy" then z.bx v else if u = "add" then z.bx b + z.bx v else if u = "less" then z.bx b - z.bx v
  else if u = "load" then z.cf (z.bx v) else z.af v
/-- one step -/
def stepZ (ring : Int → Bool) (r : Rw) (h : Int) (z : Zt) : Zt :=
  match r with
  | .stop => { z with here := .non, how := some [.str "stop"] }
  | .halt v => { z with here := .non, how := some [.str "halt", .int v] }
  | .back => match z.pile.getLast? with
    | none => { z with here := .non, how := some [.str "home"] }
    | some p => { z with here := .int p, pile := z.pile.dropLast }
  | .two u b v =>
    if u = "keep" then { z with here := .int (h + 1), cf := fput z.cf (z.bx b) (z.bx v) }
    else if u = "put" then { z with here := .int (h + 1), af := fput z.af v (z.bx b) }
    else if u = "see" then { z with here := .int (h + 1), seen := z.seen ++ [(v, z.bx b)] }
    else { z with here := .int (h + 1), bs := z.bs.set b.toNat (num u b v z) }
  | .tell b => { z with here := .int (h + 1), told := z.told ++ [z.bx b] }
  | .jcm u t _ =>
    if u = "jump" then { z with here := .int t }
    else if u = "call" then { z with here := .int t, pile := z.pile ++ [h + 1] }
    else if ring z.k = true then { z with here := .int t, pile := z.pile ++ [h + 1], k := z.k + 1 } else { z with here := .int (h + 1), k := z.k + 1 }
  | .zb u b t _ => { z with here := .int (if (u = "zero" ∧ z.bx b = 0) ∨ (u = "below" ∧ z.bx b < 0) then t else h + 1) }
  | .table b ts => { z with here := .int (if 0 ≤ z.bx b ∧ z.bx b < ts.length then ts.getD (z.bx b).toNat 0 else h + 1) }
theorem back_at {z : Zt} {h : Int} {ring : Int → Bool} {r : List Int} {p : Int} (e : z.pile = r ++ [p]) : stepZ ring .back h z = { z with here := .int p, pile := r } := by
  unfold stepZ
  have e1 : z.pile.getLast? = some p := by rw [e]; simp
  have e2 : z.pile.dropLast = r := by rw [e]; simp
  simp only [e1, e2]
theorem back_none {z : Zt} {h : Int} {ring : Int → Bool} (e : z.pile = []) : stepZ ring .back h z = { z with here := .non, how := some [.str "home"] } := by
  unfold stepZ
  have e1 : z.pile.getLast? = none := by rw [e]; rfl
  simp only [e1]
/-- where it stands is a row, or it ended -/
def Stands (n : Nat) (z : Zt) : Prop := (z.here = .non ∨ ∃ r : Nat, z.here = .int r ∧ r < n) ∧ ∀ p ∈ z.pile, 0 ≤ p ∧ p < n
theorem Stands.step {n : Nat} {z : Zt} {ring : Int → Bool} {r : Rw} {h : Nat} {H : Hp} {q : Addr} (S : Stands n z) (hh : h < n) (hr : RowIs H q n r) (hg : h + 1 = n → r.word ∈ notOn) : Stands n (stepZ ring r h z) := by
  have next : r.goes → ∃ r' : Nat, ((h : Int) + 1) = r' ∧ r' < n := fun g => ⟨h + 1, by omega, by
    rcases Nat.lt_or_ge (h + 1) n with l | l
    · exact l
    · exact absurd (hg (by omega)) g⟩
  have tgt : ∀ t : Int, 0 ≤ t → t < n → ∃ r' : Nat, t = r' ∧ r' < n := fun t a b => ⟨t.toNat, by omega, by omega⟩
  cases r with
  | stop => exact ⟨.inl rfl, S.2⟩
  | halt v => exact ⟨.inl rfl, S.2⟩
  | back =>
    rcases List.eq_nil_or_concat z.pile with e | ⟨r, p, e⟩
    · rw [back_none e]
      exact ⟨.inl rfl, S.2⟩
    · have e : z.pile = r ++ [p] := by simpa using e
      rw [back_at e]
      have hp := S.2 p (by rw [e]; simp)
      obtain ⟨r', e1, e2⟩ := tgt p hp.1 hp.2
      exact ⟨.inr ⟨r', by show V.int p = _; rw [e1], e2⟩, fun p' hp' => S.2 p' (by rw [e]; exact List.mem_append_left _ hp')⟩
  | two u b v =>
    obtain ⟨r', e1, e2⟩ := next ((by decide +kernel : ∀ u ∈ ten, ¬ u ∈ notOn) u hr.2.1)
    have e1 : V.int ((h : Int) + 1) = .int r' := by rw [e1]
    simp only [stepZ]
    split
    · exact ⟨.inr ⟨r', e1, e2⟩, S.2⟩
    split
    · exact ⟨.inr ⟨r', e1, e2⟩, S.2⟩
    split
    · exact ⟨.inr ⟨r', e1, e2⟩, S.2⟩
    · exact ⟨.inr ⟨r', e1, e2⟩, S.2⟩
  | tell b =>
    obtain ⟨r', e1, e2⟩ := next (show ¬ ("tell" : Str) ∈ notOn by decide +kernel)
    exact ⟨.inr ⟨r', by show V.int ((h : Int) + 1) = _; rw [e1], e2⟩, S.2⟩
  | jcm u t f =>
    obtain ⟨t', e1, e2⟩ := tgt t hr.2.2.1 hr.2.2.2
    have e1 : V.int t = .int t' := by rw [e1]
    simp only [stepZ]
    by_cases hj : u = "jump"
    · simp only [if_pos hj]
      exact ⟨.inr ⟨t', e1, e2⟩, S.2⟩
    obtain ⟨r', e3, e4⟩ := next (by
      show ¬ u ∈ notOn
      rcases (show u = "jump" ∨ u = "call" ∨ u = "mark" by simpa [My.jcm] using hr.2.1) with rfl | rfl | rfl
      · exact absurd rfl hj
      · decide +kernel
      · decide +kernel)
    have pl : ∀ p ∈ z.pile ++ [(h : Int) + 1], 0 ≤ p ∧ p < n := fun p hp => by
      rcases List.mem_append.mp hp with hp | hp
      · exact S.2 p hp
      · rw [List.mem_singleton.mp hp, e3]
        omega
    have e3 : V.int ((h : Int) + 1) = .int r' := by rw [e3]
    simp only [if_neg hj]
    split
    · exact ⟨.inr ⟨t', e1, e2⟩, pl⟩
    split
    · exact ⟨.inr ⟨t', e1, e2⟩, pl⟩
    · exact ⟨.inr ⟨r', e3, e4⟩, S.2⟩
  | zb u b t f =>
    obtain ⟨t', e1, e2⟩ := tgt t hr.2.2.2.1 hr.2.2.2.2
    obtain ⟨r', e3, e4⟩ := next ((by decide +kernel : ∀ u ∈ My.zb, ¬ u ∈ notOn) u hr.2.1)
    refine ⟨.inr ?_, S.2⟩
    show ∃ r : Nat, V.int (if (u = "zero" ∧ z.bx b = 0) ∨ (u = "below" ∧ z.bx b < 0) then t else (h : Int) + 1) = .int r ∧ r < n
    split
    · exact ⟨t', by rw [e1], e2⟩
    · exact ⟨r', by rw [e3], e4⟩
  | table b ts =>
    obtain ⟨r', e3, e4⟩ := next (show ¬ ("table" : Str) ∈ notOn by decide +kernel)
    refine ⟨.inr ?_, S.2⟩
    show ∃ r : Nat, V.int (if 0 ≤ z.bx b ∧ z.bx b < ts.length then ts.getD (z.bx b).toNat 0 else (h : Int) + 1) = .int r ∧ r < n
    split
    · rename_i c
      have hl : (z.bx b).toNat < ts.length := by omega
      obtain ⟨p, _, _, _, ht⟩ := hr
      have hm := ht (ts.getD (z.bx b).toNat 0) (by rw [List.getD_eq_getElem?_getD, List.getElem?_eq_getElem hl]; exact List.getElem_mem hl)
      obtain ⟨t', e1, e2⟩ := tgt _ hm.1 hm.2
      exact ⟨t', by rw [e1], e2⟩
    · exact ⟨r', by rw [e3], e4⟩
end My


set_option Elab.async false
set_option linter.all false
set_option maxRecDepth 100000
set_option maxHeartbeats 4000000
namespace My
open PySem L2
theorem f_how {m : MA} {k : Int} {h w : V} : (flds m k h w).lookup ("how_ended" : Str) = some w := look_zip names _ 10 _ names_nd rfl
abbrev sEnding : Stmt := inClass (top 32) 2
abbrev sBoxes : Stmt := inClass (top 32) 3
abbrev sCells : Stmt := inClass (top 32) 4
abbrev sAsides : Stmt := inClass (top 32) 5
abbrev sTold : Stmt := inClass (top 32) 6
abbrev sSeen : Stmt := inClass (top 32) 7
abbrev sDeep : Stmt := inClass (top 32) 8
abbrev sPassed : Stmt := inClass (top 32) 9
section
variable {P : Program} {w : World} {K : PySem.W.Frag} {mg : Str → Option Value} {base : Heap}
abbrev MGx (C : Addr) (H : Hp) (x : Addr) (z : Zt) (B : Nat) : Prop := ∃ m rows rung, MG C H x m rows rung B z
def spHere (C : Addr) : Sp := fun vs H Q _ => ∃ (x : Addr) (z : Zt) (B : Nat), vs = [.ref x] ∧ MGx C H x z B ∧ Q z.here H
theorem scHere : FnScope ["self"] ["self"] (defScope sRowM) := ⟨rfl, rfl, rfl, by decide +kernel, rfl, by decide +kernel, by decide +kernel⟩
theorem ok_Here {f C : Addr} {fd : FuncData} (F : Fun K "row" "Machine.row" sRowM f fd) (TT : Txt K mg) (T : MTx K mg C) : FnOk P w K mg base CX0 1 f fd ["self"] (spHere C) := by
  refine F.ok scHere (fun vs H Q E h => ?_) (fun cdv A outer s H vs Q E hr h => ?_)
  · obtain ⟨x, z, B, rfl, _⟩ := h
    rfl
  · obtain ⟨x, z, B, rfl, ⟨m, rows, rung, M⟩, q⟩ := h
    obtain ⟨w0, ho, hw⟩ := M.obj
    refine ⟨_, pss_one (ps_ret (pe_fld (pv 0) rfl)), ?_⟩
    exact ⟨_, rfl, x, C, m.dx, _, _, rfl, ho, T.cl, T.nH, f_here, q⟩
def spEnding (C : Addr) : Sp := fun vs H Q _ => ∃ (x : Addr) (z : Zt) (B : Nat), vs = [.ref x] ∧ MGx C H x z B ∧ ∀ v, HowIs H v z.how → Q v H
theorem scEnding : FnScope ["self"] ["self"] (defScope sEnding) := ⟨rfl, rfl, rfl, by decide +kernel, rfl, by decide +kernel, by decide +kernel⟩
theorem ok_Ending {f C : Addr} {fd : FuncData} (F : Fun K "ending" "Machine.ending" sEnding f fd) (TT : Txt K mg) (T : MTx K mg C) : FnOk P w K mg base CX0 1 f fd ["self"] (spEnding C) := by
  refine F.ok scEnding (fun vs H Q E h => ?_) (fun cdv A outer s H vs Q E hr h => ?_)
  · obtain ⟨x, z, B, rfl, _⟩ := h
    rfl
  · obtain ⟨x, z, B, rfl, ⟨m, rows, rung, M⟩, q⟩ := h
    obtain ⟨w0, ho, hw⟩ := M.obj
    refine ⟨_, pss_one (ps_ret (pe_fld (pv 0) rfl)), ?_⟩
    exact ⟨_, rfl, x, C, m.dx, _, _, rfl, ho, T.cl, T.nE, f_how, q _ hw⟩
def spBoxes (C : Addr) : Sp := fun vs H Q _ => ∃ (x : Addr) (z : Zt) (B : Nat), vs = [.ref x] ∧ MGx C H x z B ∧ ∀ l, H l = none → Q (.ref l) (upd H l (.lst (z.bs.map V.int)))
theorem scBoxes : FnScope ["self"] ["self"] (defScope sBoxes) := ⟨rfl, rfl, rfl, by decide +kernel, rfl, by decide +kernel, by decide +kernel⟩
theorem ok_Boxes {f C : Addr} {fd : FuncData} (F : Fun K "boxes" "Machine.boxes" sBoxes f fd) (TT : Txt K mg) (T : MTx K mg C) : FnOk P w K mg base CX0 1 f fd ["self"] (spBoxes C) := by
  refine F.ok scBoxes (fun vs H Q E h => ?_) (fun cdv A outer s H vs Q E hr h => ?_)
  · obtain ⟨x, z, B, rfl, _⟩ := h
    rfl
  · obtain ⟨x, z, B, rfl, ⟨m, rows, rung, M⟩, q⟩ := h
    obtain ⟨w0, ho, hw⟩ := M.obj
    refine ⟨_, pss_one (ps_ret (pe_callTy call_list_of (by rfl) TT.list bt_list (pa_cons (pe_fld (pv 0) rfl) pa_nil))), ?_⟩
    exact ⟨_, rfl, x, C, m.dx, _, _, rfl, ho, T.cl, T.nB, f_box, m.p2, _, rfl, .inl (SqL.of M.box), q⟩
def spTold (C : Addr) : Sp := fun vs H Q _ => ∃ (x : Addr) (z : Zt) (B : Nat), vs = [.ref x] ∧ MGx C H x z B ∧ ∀ l, H l = none → Q (.ref l) (upd H l (.lst (z.told.map V.int)))
theorem scTold : FnScope ["self"] ["self"] (defScope sTold) := ⟨rfl, rfl, rfl, by decide +kernel, rfl, by decide +kernel, by decide +kernel⟩
theorem ok_Told {f C : Addr} {fd : FuncData} (F : Fun K "told" "Machine.told" sTold f fd) (TT : Txt K mg) (T : MTx K mg C) : FnOk P w K mg base CX0 1 f fd ["self"] (spTold C) := by
  refine F.ok scTold (fun vs H Q E h => ?_) (fun cdv A outer s H vs Q E hr h => ?_)
  · obtain ⟨x, z, B, rfl, _⟩ := h
    rfl
  · obtain ⟨x, z, B, rfl, ⟨m, rows, rung, M⟩, q⟩ := h
    obtain ⟨w0, ho, hw⟩ := M.obj
    refine ⟨_, pss_one (ps_ret (pe_callTy call_list_of (by rfl) TT.list bt_list (pa_cons (pe_fld (pv 0) rfl) pa_nil))), ?_⟩
    exact ⟨_, rfl, x, C, m.dx, _, _, rfl, ho, T.cl, T.nT, f_told, m.p6, _, rfl, .inl (SqL.of M.told), q⟩
def spSeen (C : Addr) : Sp := fun vs H Q _ => ∃ (x : Addr) (z : Zt) (B : Nat), vs = [.ref x] ∧ MGx C H x z B ∧ ∀ l ps, SeenAt H ps z.seen → H l = none → Q (.ref l) (upd H l (.lst (ps.map V.ref)))
theorem scSeen : FnScope ["self"] ["self"] (defScope sSeen) := ⟨rfl, rfl, rfl, by decide +kernel, rfl, by decide +kernel, by decide +kernel⟩
theorem ok_Seen {f C : Addr} {fd : FuncData} (F : Fun K "seen" "Machine.seen" sSeen f fd) (TT : Txt K mg) (T : MTx K mg C) : FnOk P w K mg base CX0 1 f fd ["self"] (spSeen C) := by
  refine F.ok scSeen (fun vs H Q E h => ?_) (fun cdv A outer s H vs Q E hr h => ?_)
  · obtain ⟨x, z, B, rfl, _⟩ := h
    rfl
  · obtain ⟨x, z, B, rfl, ⟨m, rows, rung, M⟩, q⟩ := h
    obtain ⟨w0, ho, hw⟩ := M.obj
    refine ⟨_, pss_one (ps_ret (pe_callTy call_list_of (by rfl) TT.list bt_list (pa_cons (pe_fld (pv 0) rfl) pa_nil))), ?_⟩
    obtain ⟨ps, hs, hps⟩ := M.seen
    exact ⟨_, rfl, x, C, m.dx, _, _, rfl, ho, T.cl, T.nS, f_seen, m.p7, _, rfl, .inl (SqL.of hs), fun l nl => q l ps hps nl⟩
def spDeep (C : Addr) : Sp := fun vs H Q _ => ∃ (x : Addr) (z : Zt) (B : Nat), vs = [.ref x] ∧ MGx C H x z B ∧ Q (.int z.pile.length) H
theorem scDeep : FnScope ["self"] ["self"] (defScope sDeep) := ⟨rfl, rfl, rfl, by decide +kernel, rfl, by decide +kernel, by decide +kernel⟩
theorem ok_Deep {f C : Addr} {fd : FuncData} (F : Fun K "deep" "Machine.deep" sDeep f fd) (TT : Txt K mg) (T : MTx K mg C) : FnOk P w K mg base CX0 1 f fd ["self"] (spDeep C) := by
  refine F.ok scDeep (fun vs H Q E h => ?_) (fun cdv A outer s H vs Q E hr h => ?_)
  · obtain ⟨x, z, B, rfl, _⟩ := h
    rfl
  · obtain ⟨x, z, B, rfl, ⟨m, rows, rung, M⟩, q⟩ := h
    obtain ⟨w0, ho, hw⟩ := M.obj
    refine ⟨_, pss_one (ps_ret (pe_callB call_len_seq (by rfl) TT.len bt_len (pa_cons (pe_fld (pv 0) rfl) pa_nil))), ?_⟩
    refine ⟨_, rfl, x, C, m.dx, _, _, rfl, ho, T.cl, T.nL, f_pile, m.p8, _, rfl, .inl (SqL.of M.pil), ?_⟩
    rw [List.length_map]
    exact q
def spPassed (C : Addr) : Sp := fun vs H Q _ => ∃ (x : Addr) (z : Zt) (B : Nat), vs = [.ref x] ∧ MGx C H x z B ∧ Q (.int z.k) H
theorem scPassed : FnScope ["self"] ["self"] (defScope sPassed) := ⟨rfl, rfl, rfl, by decide +kernel, rfl, by decide +kernel, by decide +kernel⟩
theorem ok_Passed {f C : Addr} {fd : FuncData} (F : Fun K "passed" "Machine.passed" sPassed f fd) (TT : Txt K mg) (T : MTx K mg C) : FnOk P w K mg base CX0 1 f fd ["self"] (spPassed C) := by
  refine F.ok scPassed (fun vs H Q E h => ?_) (fun cdv A outer s H vs Q E hr h => ?_)
  · obtain ⟨x, z, B, rfl, _⟩ := h
    rfl
  · obtain ⟨x, z, B, rfl, ⟨m, rows, rung, M⟩, q⟩ := h
    obtain ⟨w0, ho, hw⟩ := M.obj
    refine ⟨_, pss_one (ps_ret (pe_fld (pv 0) rfl)), ?_⟩
    exact ⟨_, rfl, x, C, m.dx, _, _, rfl, ho, T.cl, T.nM, f_marks, q⟩
/-! ### without noughts -/
def spNought : Sp := fun vs H Q _ => ∃ (a : Addr) (d : List (Key × V)) (f : Int → Int), vs = [.ref a] ∧ H a = some (.dK d) ∧ Rep d f ∧ d.length ≤ 900 ∧ ∀ (l : Addr) (d' : List (Key × V)) (H' : Hp), Same H H' → H l = none → H' l = some (.dK d') → NZ d' f → d'.length ≤ d.length → Q (.ref l) H'
theorem scNought : FnScope ["numbers", "others", "place", "number"] ["numbers"] (defScope sNought) := ⟨rfl, rfl, rfl, by decide +kernel, rfl, by decide +kernel, by decide +kernel⟩
theorem pg_two {X : Cx} {K : PySem.W.Frag} (hK : X.K = K) {i j : Nat} {x y : Str} {px py pt : Pos} {k : Nat} (hc : X.calm = true) (hN : X.N.Nodup) (hi : X.N[i]? = some x) (hx : Loc X.env.scope x) (hj : X.N[j]? = some y) (hy : Loc X.env.scope y)
    (hf : X.fn x = true ∨ X.env.scope.names.lookup x = some .local := by first | exact .inl rfl | exact .inr rfl) (hf2 : X.fn y = true ∨ X.env.scope.names.lookup y = some .local := by first | exact .inl rfl | exact .inr rfl) :
    PG X (.Tuple [.Name x px, .Name y py] k pt) (gTup K 2 (gCons (gName i) (gCons (gName j) gNil))) := hK ▸ pg_tup (n := 2) hc (pgs_cons (pg_name hN hi hx hf) (pgs_cons (pg_name hN hj hy hf2) pgs_nil))
/-- what is kept of the first i -/
structure Kept (kvs : List (Int × Int)) (i : Nat) (d : List (Key × V)) : Prop where
  isI : ∃ ks : List (Int × Int), d = iD ks ∧ (ks.map (·.1)).Nodup ∧ ∀ p, p ∈ ks ↔ p ∈ kvs.take i ∧ p.2 ≠ 0
  len : d.length ≤ i
theorem ok_nought {f : Addr} {fd : FuncData} (F : Fun K "without_noughts" "without_noughts" sNought f fd) (TT : Txt K mg) : FnOk P w K mg base CX0 1 f fd ["numbers"] spNought := by
  refine F.ok scNought (fun vs H Q E h => ?_) (fun cdv A outer s H vs Q E hr h => ?_)
  · obtain ⟨a, d, f, rfl, _⟩ := h
    rfl
  · obtain ⟨a, d, f, rfl, ha, hrep, hl, k⟩ := h
    have hu := hu_of hr
    refine ⟨_, pss_cons (ps_set (i := 1) scNought.nd rfl (Or.inl rfl) pe_dnewK)
      (pss_cons (ps_thaw (ps_for PassesOwn.never rfl (pi_items (pv 0)) (pg_two (K := K) (i := 2) (j := 3) rfl rfl scNought.nd rfl (Or.inl rfl) rfl (Or.inl rfl))
        (pss_one (ps_if (pt_cmpR op_ne (pv 3) pe_int (nomark _)) (pss_one (ps_dput hu (pv 1) (pv 2) (pv 3) rfl)) pss_nil))))
      (pss_one (ps_ret (pv 1)))), ?_⟩
    intro l nl
    obtain ⟨⟨kvs, rfl, hnd⟩, hval⟩ := id hrep
    have la : a ≠ l := ne_of_none ha nl
    refine ⟨_, rfl, a, _, rfl, same_new nl _ _ ha, fun o nf => ?_⟩
    refine for_items (fun i σ H' => ∃ (v1 v2 : Option V) (d : List (Key × V)), σ = [some (.ref a), some (.ref l), v1, v2] ∧ H' a = some (.frz o (.dK (iD kvs))) ∧ H' l = some (.dK d) ∧ Kept kvs i d ∧ ∀ c u, c ≠ a → H c = some u → H' c = some u) ?_ ?_ ?_ ?_
    · refine ⟨none, none, [], rfl, upd_same, by rw [upd_ne la.symm]; exact upd_same, ⟨⟨[], rfl, by simp, fun p => by simp⟩, by simp⟩, fun c u n e => ?_⟩
      rw [upd_ne n]
      exact same_new nl _ _ e
    · rintro i σ H' _ ⟨v1, v2, d, rfl, e, _⟩
      exact e
    · rintro i kk y σ H' t he nt ⟨v1, v2, d, rfl, e1, e2, e3, e4⟩
      have he' : (iD kvs)[i]? = some (kk, y) := he
      unfold iD at he'
      rw [List.getElem?_map] at he'
      obtain ⟨p, hp, hpe⟩ := Option.map_eq_some_iff.mp he'
      have hk : kk = Sum.inl p.1 := (congrArg Prod.fst hpe).symm
      have hy : y = V.int p.2 := (congrArg Prod.snd hpe).symm
      subst hk hy
      have hil := (List.getElem?_eq_some_iff.mp hp).1
      have s0 := same_new (o := .tup [kV (Sum.inl p.1), .int p.2]) nt
      have lt : l ≠ t := ne_of_none e2 nt
      have ta : a ≠ t := ne_of_none e1 nt
      have tk : kvs.take (i + 1) = kvs.take i ++ [p] := by rw [List.take_succ, hp]; rfl
      refine ⟨t, _, rfl, SqT.of upd_same, rfl, _, _, rfl, _, _, rfl, rfl, ?_⟩
      refine ⟨_, rfl, rfl, _, rfl, ?_⟩
      obtain ⟨⟨ks, rfl, k1, k2⟩, k3⟩ := e3
      have dl : (iD kvs).length = kvs.length := by unfold iD; rw [List.length_map]
      refine ite2 (fun c => ?_) (fun c => ?_)
      · have c : p.2 ≠ 0 := fun z => by rw [z] at c; exact absurd c (by decide)
        refine ⟨_, rfl, _, rfl, _, rfl, l, _, rfl, DPut.k (k := Sum.inl p.1) (s0 _ _ e2) (small1000 (by omega)), ?_⟩
        refine ⟨_, _, _, rfl, ?_, upd_same, ⟨?_, ?_⟩, fun c u n e => ?_⟩
        · rw [upd_ne la]
          exact s0 _ _ e1
        · have hnew : valV (iD ks) (Sum.inl p.1 : Key) = none := by
            cases e : valV (iD ks) (Sum.inl p.1 : Key) with
            | none => rfl
            | some x =>
              exfalso
              obtain ⟨v, _, hm⟩ := iD_val e
              have hm2 := ((k2 _).mp hm).1
              have nd2 : ((kvs.take (i + 1)).map (·.1)).Nodup := by
                rw [List.map_take]
                exact hnd.sublist (List.take_sublist _ _)
              rw [tk, List.map_append, List.nodup_append] at nd2
              exact nd2.2.2 p.1 (List.mem_map.mpr ⟨_, hm2, rfl⟩) p.1 (by simp) rfl
          refine ⟨ks ++ [p], ?_, ?_, fun p' => ?_⟩
          · rw [putK_new _ hnew]
            simp [iD]
          · rw [List.map_append, List.nodup_append]
            refine ⟨k1, by simp, fun x hx y hy exy => ?_⟩
            obtain ⟨p', hp', rfl⟩ := List.mem_map.mp hx
            have hy : y = p.1 := by simpa using hy
            rw [hy] at exy
            have := iD_mem (v := p'.2) k1 (show (p.1, p'.2) ∈ ks by rw [← exy]; exact hp')
            rw [hnew] at this
            cases this
          · rw [List.mem_append, List.mem_singleton, k2, tk, List.mem_append, List.mem_singleton]
            constructor
            · rintro (⟨a, b⟩ | rfl)
              · exact ⟨.inl a, b⟩
              · exact ⟨.inr rfl, c⟩
            · rintro ⟨a | rfl, b⟩
              · exact .inl ⟨a, b⟩
              · exact .inr rfl
        · have := length_putK (iD ks) (Sum.inl p.1 : Key) (V.int p.2)
          omega
        · have cl : c ≠ l := ne_of_none e nl
          rw [upd_ne cl]
          exact s0 _ _ (e4 c u n e)
      · have c : p.2 = 0 := by
          rcases Int.decEq p.2 0 with z | z
          · exact absurd (by simp [z]) c
          · exact z
        refine ⟨_, _, _, rfl, s0 _ _ e1, s0 _ _ e2, ⟨⟨ks, rfl, k1, fun p' => ?_⟩, by omega⟩, fun c u n e => s0 _ _ (e4 c u n e)⟩
        rw [k2, tk, List.mem_append, List.mem_singleton]
        constructor
        · rintro ⟨a, b⟩
          exact ⟨.inl a, b⟩
        · rintro ⟨a | rfl, b⟩
          · exact ⟨a, b⟩
          · exact absurd c b
    · rintro σ H' ⟨v1, v2, d, rfl, e1, e2, ⟨⟨ks, rfl, k1, k2⟩, k3⟩, e4⟩
      refine ⟨a, o, iD kvs, e1, nf, _, rfl, ?_⟩
      have dl : (iD kvs).length = kvs.length := by unfold iD; rw [List.length_map]
      rw [dl] at k2 k3
      refine k l (iD ks) _ (fun c u e => ?_) nl (by rw [upd_ne la.symm]; exact e2) ⟨⟨⟨ks, rfl, k1⟩, fun j => ?_⟩, fun kk v hm => ?_⟩ (by omega)
      · by_cases ca : c = a
        · subst ca
          rw [ha] at e
          rw [upd_same]
          exact e
        · rw [upd_ne ca]
          exact e4 c u ca e
      · rw [← hval j]
        cases e : valV (iD ks) (Sum.inl j : Key) with
        | some x =>
          obtain ⟨v, rfl, hm⟩ := iD_val e
          have hm2 := ((k2 _).mp hm).1
          rw [List.take_length] at hm2
          rw [iD_mem hnd hm2]
        | none =>
          cases e2 : valV (iD kvs) (Sum.inl j : Key) with
          | none => rfl
          | some x =>
            obtain ⟨v, rfl, hm⟩ := iD_val e2
            by_cases hv : v = 0
            · subst hv
              rfl
            · have := iD_mem k1 ((k2 (j, v)).mpr ⟨by rw [List.take_length]; exact hm, hv⟩)
              rw [e] at this
              cases this
      · unfold iD at hm
        obtain ⟨p, hp, e⟩ := List.mem_map.mp hm
        have : v = V.int p.2 := (congrArg Prod.snd e).symm
        rw [this]
        intro z
        exact ((k2 p).mp hp).2 (V.int.inj z)
def spCells (C : Addr) : Sp := fun vs H Q _ => ∃ (x : Addr) (z : Zt) (B : Nat), vs = [.ref x] ∧ MGx C H x z B ∧ ∀ (l : Addr) (d' : List (Key × V)) (H' : Hp), Same H H' → H l = none → H' l = some (.dK d') → NZ d' z.cf → d'.length ≤ B → Q (.ref l) H'
theorem scCells : FnScope ["self"] ["self"] (defScope sCells) := ⟨rfl, rfl, rfl, by decide +kernel, rfl, by decide +kernel, by decide +kernel⟩
theorem ok_Cells {f C fN : Addr} {fd fdN : FuncData} (F : Fun K "cells" "Machine.cells" sCells f fd) (TT : Txt K mg) (T : MTx K mg C) (GN : FnOk P w K mg base CX0 1 fN fdN ["numbers"] spNought) (kN : PySem.W.keepIn K (.ref fN) = true) (bN : Binds K fdN ["numbers"] []) (mN : mg "without_noughts" = some (.ref fN)) : FnOk P w K mg base CX0 2 f fd ["self"] (spCells C) := by
  refine F.ok scCells (fun vs H Q E h => ?_) (fun cdv A outer s H vs Q E hr h => ?_)
  · obtain ⟨x, z, B, rfl, _⟩ := h
    rfl
  · obtain ⟨x, z, B, rfl, ⟨m, rows, rung, M⟩, q⟩ := h
    obtain ⟨w0, ho, hw⟩ := M.obj
    obtain ⟨d, hd, hrep, hdl⟩ := M.cell
    have hB := M.big
    refine ⟨_, pss_one (ps_ret (pe_call GN hr (by rfl) mN kN bN .nil pass0 (pa_cons (pe_fld (pv 0) rfl) pa_nil))), ?_⟩
    exact ⟨_, rfl, x, C, m.dx, _, _, rfl, ho, T.cl, T.nC, f_cell, m.p3, d, z.cf, rfl, hd, hrep, by omega, fun l d' H' s' nl hl hz hle => q l d' H' s' nl hl hz (by omega)⟩
def spAsides (C : Addr) : Sp := fun vs H Q _ => ∃ (x : Addr) (z : Zt) (B : Nat), vs = [.ref x] ∧ MGx C H x z B ∧ ∀ (l : Addr) (d' : List (Key × V)) (H' : Hp), Same H H' → H l = none → H' l = some (.dK d') → NZ d' z.af → d'.length ≤ B → Q (.ref l) H'
theorem scAsides : FnScope ["self"] ["self"] (defScope sAsides) := ⟨rfl, rfl, rfl, by decide +kernel, rfl, by decide +kernel, by decide +kernel⟩
theorem ok_Asides {f C fN : Addr} {fd fdN : FuncData} (F : Fun K "asides" "Machine.asides" sAsides f fd) (TT : Txt K mg) (T : MTx K mg C) (GN : FnOk P w K mg base CX0 1 fN fdN ["numbers"] spNought) (kN : PySem.W.keepIn K (.ref fN) = true) (bN : Binds K fdN ["numbers"] []) (mN : mg "without_noughts" = some (.ref fN)) : FnOk P w K mg base CX0 2 f fd ["self"] (spAsides C) := by
  refine F.ok scAsides (fun vs H Q E h => ?_) (fun cdv A outer s H vs Q E hr h => ?_)
  · obtain ⟨x, z, B, rfl, _⟩ := h
    rfl
  · obtain ⟨x, z, B, rfl, ⟨m, rows, rung, M⟩, q⟩ := h
    obtain ⟨w0, ho, hw⟩ := M.obj
    obtain ⟨d, hd, hrep, hdl⟩ := M.asd
    have hB := M.big
    refine ⟨_, pss_one (ps_ret (pe_call GN hr (by rfl) mN kN bN .nil pass0 (pa_cons (pe_fld (pv 0) rfl) pa_nil))), ?_⟩
    exact ⟨_, rfl, x, C, m.dx, _, _, rfl, ho, T.cl, T.nA, f_asd, m.p4, d, z.af, rfl, hd, hrep, by omega, fun l d' H' s' nl hl hz hle => q l d' H' s' nl hl hz (by omega)⟩
end
end My


set_option Elab.async false
set_option linter.all false
set_option maxRecDepth 100000
set_option maxHeartbeats 4000000
namespace My
open PySem L2
section
variable {P : Program} {w : World} {K : PySem.W.Frag} {mg : Str → Option Value} {base : Heap}
theorem st_set {ring : Int → Bool} {b v h : Int} {z : Zt} : stepZ ring (.two "set" b v) h z = { z with here := .int (h + 1), bs := z.bs.set b.toNat (v) } := by
  simp only [stepZ, num, if_neg (show ¬ ("set" : Str) = "keep" by decide +kernel), if_neg (show ¬ ("set" : Str) = "put" by decide +kernel), if_neg (show ¬ ("set" : Str) = "see" by decide +kernel), if_pos rfl, if_true]
theorem st_more {ring : Int → Bool} {b v h : Int} {z : Zt} : stepZ ring (.two "more" b v) h z = { z with here := .int (h + 1), bs := z.bs.set b.toNat (z.bx b + v) } := by
  simp only [stepZ, num, if_neg (show ¬ ("more" : Str) = "keep" by decide +kernel), if_neg (show ¬ ("more" : Str) = "put" by decide +kernel), if_neg (show ¬ ("more" : Str) = "see" by decide +kernel), if_neg (show ¬ ("more" : Str) = "set" by decide +kernel), if_pos rfl, if_true]
theorem st_copy {ring : Int → Bool} {b v h : Int} {z : Zt} : stepZ ring (.two "copy" b v) h z = { z with here := .int (h + 1), bs := z.bs.set b.toNat (z.bx v) } := by
  simp only [stepZ, num, if_neg (show ¬ ("copy" : Str) = "keep" by decide +kernel), if_neg (show ¬ ("copy" : Str) = "put" by decide +kernel), if_neg (show ¬ ("copy" : Str) = "see" by decide +kernel), if_neg (show ¬ ("copy" : Str) = "set" by decide +kernel), if_neg (show ¬ ("copy" : Str) = "more" by decide +kernel), if_pos rfl, if_true]
theorem st_add {ring : Int → Bool} {b v h : Int} {z : Zt} : stepZ ring (.two "add" b v) h z = { z with here := .int (h + 1), bs := z.bs.set b.toNat (z.bx b + z.bx v) } := by
  simp only [stepZ, num, if_neg (show ¬ ("add" : Str) = "keep" by decide +kernel), if_neg (show ¬ ("add" : Str) = "put" by decide +kernel), if_neg (show ¬ ("add" : Str) = "see" by decide +kernel), if_neg (show ¬ ("add" : Str) = "set" by decide +kernel), if_neg (show ¬ ("add" : Str) = "more" by decide +kernel), if_neg (show ¬ ("add" : Str) = "copy" by decide +kernel), if_pos rfl, if_true]
theorem st_less {ring : Int → Bool} {b v h : Int} {z : Zt} : stepZ ring (.two "less" b v) h z = { z with here := .int (h + 1), bs := z.bs.set b.toNat (z.bx b - z.bx v) } := by
  simp only [stepZ, num, if_neg (show ¬ ("less" : Str) = "keep" by decide +kernel), if_neg (show ¬ ("less" : Str) = "put" by decide +kernel), if_neg (show ¬ ("less" : Str) = "see" by decide +kernel), if_neg (show ¬ ("less" : Str) = "set" by decide +kernel), if_neg (show ¬ ("less" : Str) = "more" by decide +kernel), if_neg (show ¬ ("less" : Str) = "copy" by decide +kernel), if_neg (show ¬ ("less" : Str) = "add" by decide +kernel), if_pos rfl, if_true]
theorem st_load {ring : Int → Bool} {b v h : Int} {z : Zt} : stepZ ring (.two "load" b v) h z = { z with here := .int (h + 1), bs := z.bs.set b.toNat (z.cf (z.bx v)) } := by
  simp only [stepZ, num, if_neg (show ¬ ("load" : Str) = "keep" by decide +kernel), if_neg (show ¬ ("load" : Str) = "put" by decide +kernel), if_neg (show ¬ ("load" : Str) = "see" by decide +kernel), if_neg (show ¬ ("load" : Str) = "set" by decide +kernel), if_neg (show ¬ ("load" : Str) = "more" by decide +kernel), if_neg (show ¬ ("load" : Str) = "copy" by decide +kernel), if_neg (show ¬ ("load" : Str) = "add" by decide +kernel), if_neg (show ¬ ("load" : Str) = "less" by decide +kernel), if_pos rfl, if_true]
theorem st_keep {ring : Int → Bool} {b v h : Int} {z : Zt} : stepZ ring (.two "keep" b v) h z = { z with here := .int (h + 1), cf := fput z.cf (z.bx b) (z.bx v) } := by
  simp only [stepZ, num, if_pos rfl, if_true]
theorem st_see {ring : Int → Bool} {b v h : Int} {z : Zt} : stepZ ring (.two "see" b v) h z = { z with here := .int (h + 1), seen := z.seen ++ [(v, z.bx b)] } := by
  simp only [stepZ, num, if_neg (show ¬ ("see" : Str) = "keep" by decide +kernel), if_neg (show ¬ ("see" : Str) = "put" by decide +kernel), if_pos rfl, if_true]
theorem st_put {ring : Int → Bool} {b v h : Int} {z : Zt} : stepZ ring (.two "put" b v) h z = { z with here := .int (h + 1), af := fput z.af v (z.bx b) } := by
  simp only [stepZ, num, if_neg (show ¬ ("put" : Str) = "keep" by decide +kernel), if_pos rfl, if_true]
theorem st_take {ring : Int → Bool} {b v h : Int} {z : Zt} : stepZ ring (.two "take" b v) h z = { z with here := .int (h + 1), bs := z.bs.set b.toNat (z.af v) } := by
  simp only [stepZ, num, if_neg (show ¬ ("take" : Str) = "keep" by decide +kernel), if_neg (show ¬ ("take" : Str) = "put" by decide +kernel), if_neg (show ¬ ("take" : Str) = "see" by decide +kernel), if_neg (show ¬ ("take" : Str) = "set" by decide +kernel), if_neg (show ¬ ("take" : Str) = "more" by decide +kernel), if_neg (show ¬ ("take" : Str) = "copy" by decide +kernel), if_neg (show ¬ ("take" : Str) = "add" by decide +kernel), if_neg (show ¬ ("take" : Str) = "less" by decide +kernel), if_neg (show ¬ ("take" : Str) = "load" by decide +kernel)]
theorem st_jump {ring : Int → Bool} {t f h : Int} {z : Zt} : stepZ ring (.jcm "jump" t f) h z = { z with here := .int t } := by
  simp only [stepZ, if_pos rfl, if_true]
theorem st_call {ring : Int → Bool} {t f h : Int} {z : Zt} : stepZ ring (.jcm "call" t f) h z = { z with here := .int t, pile := z.pile ++ [h + 1] } := by
  simp only [stepZ, if_neg (show ¬ ("call" : Str) = "jump" by decide +kernel), if_pos rfl, if_true]
theorem st_mark1 {ring : Int → Bool} {t f h : Int} {z : Zt} (c : ring z.k = true) : stepZ ring (.jcm "mark" t f) h z = { z with here := .int t, pile := z.pile ++ [h + 1], k := z.k + 1 } := by
  simp only [stepZ, if_neg (show ¬ ("mark" : Str) = "jump" by decide +kernel), if_neg (show ¬ ("mark" : Str) = "call" by decide +kernel), if_pos c]
theorem st_mark0 {ring : Int → Bool} {t f h : Int} {z : Zt} (c : ring z.k = false) : stepZ ring (.jcm "mark" t f) h z = { z with here := .int (h + 1), k := z.k + 1 } := by
  simp only [stepZ, if_neg (show ¬ ("mark" : Str) = "jump" by decide +kernel), if_neg (show ¬ ("mark" : Str) = "call" by decide +kernel), if_neg (show ¬ ring z.k = true by rw [c]; decide)]
theorem st_zero {ring : Int → Bool} {b t f h : Int} {z : Zt} : stepZ ring (.zb "zero" b t f) h z = { z with here := .int (if z.bx b = 0 then t else h + 1) } := by
  show ({ z with here := .int (if (("zero" : Str) = "zero" ∧ z.bx b = 0) ∨ (("zero" : Str) = "below" ∧ z.bx b < 0) then t else h + 1) } : Zt) = _
  by_cases c : z.bx b = 0
  · rw [if_pos (.inl ⟨rfl, c⟩), if_pos c]
  · rw [if_neg (fun y => y.elim (fun y => c y.2) (fun y => absurd y.1 (by decide +kernel))), if_neg c]
theorem st_below {ring : Int → Bool} {b t f h : Int} {z : Zt} : stepZ ring (.zb "below" b t f) h z = { z with here := .int (if z.bx b < 0 then t else h + 1) } := by
  show ({ z with here := .int (if (("below" : Str) = "zero" ∧ z.bx b = 0) ∨ (("below" : Str) = "below" ∧ z.bx b < 0) then t else h + 1) } : Zt) = _
  by_cases c : z.bx b < 0
  · rw [if_pos (.inr ⟨rfl, c⟩), if_pos c]
  · rw [if_neg (fun y => y.elim (fun y => absurd y.1 (by decide +kernel)) (fun y => c y.2)), if_neg c]
/-- a deed that the table of deeds has -/
def DAt (P : Program) (w : World) (K : PySem.W.Frag) (mg : Str → Option Value) (base : Heap) (pD : Addr) (u : Str) (sp : Sp) : Prop := ∃ (f : Addr) (fd : FuncData), KHas K w.params pD u (some (.ref f)) ∧ FnOk P w K mg base CX0 2 f fd ["machine", "row"] sp ∧ Binds K fd ["machine", "row"] [] ∧ PySem.W.keepIn K (.ref f) = true
structure Deeds (P : Program) (w : World) (K : PySem.W.Frag) (mg : Str → Option Value) (base : Heap) (C pD : Addr) : Prop where
  d_stop : DAt P w K mg base pD "stop" (g_stop C)
  d_halt : DAt P w K mg base pD "halt" (g_halt C)
  d_back : DAt P w K mg base pD "back" (g_back C)
  d_set : DAt P w K mg base pD "set" (g_set C)
  d_more : DAt P w K mg base pD "more" (g_more C)
  d_copy : DAt P w K mg base pD "copy" (g_copy C)
  d_add : DAt P w K mg base pD "add" (g_add C)
  d_less : DAt P w K mg base pD "less" (g_less C)
  d_load : DAt P w K mg base pD "load" (g_load C)
  d_keep : DAt P w K mg base pD "keep" (g_keep C)
  d_tell : DAt P w K mg base pD "tell" (g_tell C)
  d_see : DAt P w K mg base pD "see" (g_see C)
  d_put : DAt P w K mg base pD "put" (g_put C)
  d_take : DAt P w K mg base pD "take" (g_take C)
  d_jump : DAt P w K mg base pD "jump" (g_jump C)
  d_zero : DAt P w K mg base pD "zero" (g_zero C)
  d_below : DAt P w K mg base pD "below" (g_below C)
  d_call : DAt P w K mg base pD "call" (g_call C)
  d_mark : DAt P w K mg base pD "mark" (g_mark C)
  d_table : DAt P w K mg base pD "table" (g_table C)
abbrev ringOf (rung : List (Key × V)) : Int → Bool := fun j => (valV rung (Sum.inl j)).isSome
def spStep (C : Addr) : Sp := fun vs H Q _ => ∃ (x q : Addr) (m : MA) (rows : List V) (rung : List (Key × V)) (B : Nat) (z : Zt) (r : Nat) (n : Int) (rw : Rw), vs = [.ref x] ∧ MG C H x m rows rung B z ∧ B < 900 ∧ z.here = .int r ∧ rows[r]? = some (.ref q) ∧ RowIs H q n rw ∧
  ∀ H', Fr m x H H' → MG C H' x m rows rung (B + 1) (stepZ (ringOf rung) rw r z) → Q .non H'
theorem scStep : FnScope ["self", "row"] ["self"] (defScope sStep) := ⟨rfl, rfl, rfl, by decide +kernel, rfl, by decide +kernel, by decide +kernel⟩
theorem RowIs.word {H : Hp} {q : Addr} {n : Int} {rw : Rw} (h : RowIs H q n rw) : ∃ items, H q = some (.tup (.str rw.word :: items)) := by
  cases rw with
  | stop => exact ⟨_, h⟩
  | back => exact ⟨_, h⟩
  | halt v => exact ⟨_, h⟩
  | two u b v => exact ⟨_, h.1⟩
  | tell b => exact ⟨_, h.1⟩
  | jcm u t f => exact ⟨_, h.1⟩
  | zb u b t f => exact ⟨_, h.1⟩
  | table b ts =>
    obtain ⟨p, h, _⟩ := h
    exact ⟨_, h⟩
theorem ok_step {f C pD : Addr} {fd : FuncData} (F : Fun K "step" "Machine.step" sStep f fd) (T : MTx K mg C) (mD : mg "DEEDS" = some (.ref pD)) (D : Deeds P w K mg base C pD) : FnOk P w K mg base CX0 3 f fd ["self"] (spStep C) := by
  refine F.ok scStep (fun vs H Q E h => ?_) (fun cdv A outer s H vs Q E hr h => ?_)
  · obtain ⟨x, q, m, rows, rung, B, z, r, n, rw, rfl, _⟩ := h
    rfl
  · obtain ⟨x, q, m, rows, rung, B, z, r, n, rw, rfl, M, hB, hh, hrow, hR, zz⟩ := h
    obtain ⟨w0, ho, hw⟩ := M.obj
    obtain ⟨items, hq⟩ := hR.word
    refine ⟨_, pss_cons (ps_if (pt_cmpR op_isN (pe_fld (pv 0) rfl) pe_non (nomark _)) pss_never pss_nil)
      (pss_cons (ps_set (i := 1) scStep.nd rfl (Or.inl rfl) (pe_ix ix_list (pe_fld (pv 0) rfl) (pe_fld (pv 0) rfl) (fun _ _ => rfl)))
      (pss_cons (ps_fld (pv 0) (pe_op op_add (pe_fld (pv 0) rfl) pe_int) rfl)
      (pss_one (ps_expr (pe_callE (k := 2) (pe_kget (pe_glob (v := .ref pD) (by rfl) mD rfl) (pe_ix ix_tup (pv 1) pe_int (fun _ _ => rfl)) (fun _ _ => rfl)) hr (pa_cons (pv 0) (pa_cons (pv 1) pa_nil))))))), ?_⟩
    rw [hh] at ho
    refine ⟨_, rfl, x, C, m.dx, _, _, rfl, ho, T.cl, T.nH, f_here, rfl, _, rfl, ?_⟩
    refine iteF ?_
    refine ⟨_, rfl, x, C, m.dx, _, _, rfl, ho, T.cl, T.nP, f_prog, _, rfl, x, C, m.dx, _, _, rfl, ho, T.cl, T.nH, f_here, m.p1, _, _, .ref q, rfl, rfl, SqL.of M.prog, atI_nat (j := r) hrow, ?_⟩
    refine ⟨_, rfl, x, C, m.dx, _, _, rfl, ho, T.cl, T.nH, f_here, _, _, rfl, rfl, _, rfl, x, C, m.dx, _, rfl, ho, T.cl, T.nH, f_few, ?_⟩
    rw [s_here]
    have M2 := M.put (k' := z.k) (here' := .int ((r : Int) + 1)) hw
    have fr : Fr m x H (upd H x (.ins C m.dx (flds m z.k (.int ((r : Int) + 1)) w0))) := Fr.upd (.inl rfl)
    have tt : SameT2 H (upd H x (.ins C m.dx (flds m z.k (.int ((r : Int) + 1)) w0))) := .upd ho (by intro _ z; cases z)
    have hR2 := hR.tups tt
    have hq2 := tt _ _ hq
    refine ⟨_, rfl, q, _, 0, .str rw.word, rfl, rfl, SqT.of hq2, at0 _ _, pD, rw.word, ?_⟩
    suffices hs : ∃ sp : Sp, DAt P w K mg base pD rw.word sp ∧ sp ([.ref x, .ref q] ++ []) (upd H x (.ins C m.dx (flds m z.k (.int ((r : Int) + 1)) w0))) (fun _ H1 => Q .non H1) E0 by
      obtain ⟨sp, ⟨f, fd, a1, a2, a3, a4⟩, hs⟩ := hs
      exact ⟨.ref f, rfl, rfl, a1, f, fd, _, _, rfl, a2, a3, a4, _, rfl, _, rfl, hs⟩
    have fin : ∀ z', z' = stepZ (ringOf rung) rw r z → ∀ H', Fr m x (upd H x (.ins C m.dx (flds m z.k (.int ((r : Int) + 1)) w0))) H' → MG C H' x m rows rung (B + 1) z' → Q .non H' := fun z' e H' e1 e2 => zz H' (fr.trans e1) (e ▸ e2)
    cases rw with
    | stop => exact ⟨_, D.d_stop, x, q, m, rows, rung, B, _, _, _, _, rfl, M2, hB, rfl, hR2, fin _ rfl⟩
    | halt v => exact ⟨_, D.d_halt, x, q, m, rows, rung, B, _, _, _, v, rfl, M2, hB, rfl, hR2, fin _ rfl⟩
    | back => exact ⟨_, D.d_back, x, q, m, rows, rung, B, _, _, _, _, rfl, M2, hB, rfl, hR2, fun ep => fin _ (back_none (z := z) (h := r) (ring := ringOf rung) ep).symm, fun r' p ep => fin _ (back_at (z := z) (h := r) (ring := ringOf rung) ep).symm⟩
    | tell b => exact ⟨_, D.d_tell, x, q, m, rows, rung, B, _, _, _, b, rfl, M2, hB, rfl, hR2.1, hR2.2, fin _ rfl⟩
    | table b ts =>
      obtain ⟨p, h1, h2, h3, h4⟩ := hR2
      exact ⟨_, D.d_table, x, q, m, rows, rung, B, _, _, _, b, p, ts, rfl, M2, hB, rfl, h1, h3, h2, fin _ rfl⟩
    | two u b v =>
      obtain ⟨h1, h2, h3, h4⟩ := hR2
      rcases (show u = "set" ∨ u = "more" ∨ u = "copy" ∨ u = "add" ∨ u = "less" ∨ u = "load" ∨ u = "keep" ∨ u = "see" ∨ u = "put" ∨ u = "take" by simpa [ten] using h2) with rfl | rfl | rfl | rfl | rfl | rfl | rfl | rfl | rfl | rfl
      · exact ⟨_, D.d_set, x, q, m, rows, rung, B, _, _, _, b, v, rfl, M2, hB, rfl, h1, h3, fin _ (st_set (z := z) (ring := ringOf rung)).symm⟩
      · exact ⟨_, D.d_more, x, q, m, rows, rung, B, _, _, _, b, v, rfl, M2, hB, rfl, h1, h3, fin _ (st_more (z := z) (ring := ringOf rung)).symm⟩
      · exact ⟨_, D.d_copy, x, q, m, rows, rung, B, _, _, _, b, v, rfl, M2, hB, rfl, h1, h3, h4 (by decide +kernel), fin _ (st_copy (z := z) (ring := ringOf rung)).symm⟩
      · exact ⟨_, D.d_add, x, q, m, rows, rung, B, _, _, _, b, v, rfl, M2, hB, rfl, h1, h3, h4 (by decide +kernel), fin _ (st_add (z := z) (ring := ringOf rung)).symm⟩
      · exact ⟨_, D.d_less, x, q, m, rows, rung, B, _, _, _, b, v, rfl, M2, hB, rfl, h1, h3, h4 (by decide +kernel), fin _ (st_less (z := z) (ring := ringOf rung)).symm⟩
      · exact ⟨_, D.d_load, x, q, m, rows, rung, B, _, _, _, b, v, rfl, M2, hB, rfl, h1, h3, h4 (by decide +kernel), fin _ (st_load (z := z) (ring := ringOf rung)).symm⟩
      · exact ⟨_, D.d_keep, x, q, m, rows, rung, B, _, _, _, b, v, rfl, M2, hB, rfl, h1, h3, h4 (by decide +kernel), fin _ (st_keep (z := z) (ring := ringOf rung)).symm⟩
      · exact ⟨_, D.d_see, x, q, m, rows, rung, B, _, _, _, b, v, rfl, M2, hB, rfl, h1, h3, fin _ (st_see (z := z) (ring := ringOf rung)).symm⟩
      · exact ⟨_, D.d_put, x, q, m, rows, rung, B, _, _, _, b, v, rfl, M2, hB, rfl, h1, h3, fin _ (st_put (z := z) (ring := ringOf rung)).symm⟩
      · exact ⟨_, D.d_take, x, q, m, rows, rung, B, _, _, _, b, v, rfl, M2, hB, rfl, h1, h3, fin _ (st_take (z := z) (ring := ringOf rung)).symm⟩
    | jcm u t f' =>
      obtain ⟨h1, h2, h3, h4⟩ := hR2
      rcases (show u = "jump" ∨ u = "call" ∨ u = "mark" by simpa [My.jcm] using h2) with rfl | rfl | rfl
      · exact ⟨_, D.d_jump, x, q, m, rows, rung, B, _, _, _, t, f', rfl, M2, hB, rfl, h1, fin _ (st_jump (z := z) (ring := ringOf rung)).symm⟩
      · exact ⟨_, D.d_call, x, q, m, rows, rung, B, _, _, _, t, f', rfl, M2, hB, rfl, h1, fin _ (st_call (z := z) (ring := ringOf rung)).symm⟩
      · exact ⟨_, D.d_mark, x, q, m, rows, rung, B, _, _, _, t, f', _, rfl, M2, hB, rfl, h1, rfl, fun c => fin _ (st_mark1 (z := z) (ring := ringOf rung) c).symm, fun c => fin _ (st_mark0 (z := z) (ring := ringOf rung) c).symm⟩
    | zb u b t f' =>
      obtain ⟨h1, h2, h3, h4⟩ := hR2
      rcases (show u = "zero" ∨ u = "below" by simpa [My.zb] using h2) with rfl | rfl
      · exact ⟨_, D.d_zero, x, q, m, rows, rung, B, _, _, _, b, t, f', rfl, M2, hB, rfl, h1, h3, fin _ (st_zero (z := z) (ring := ringOf rung)).symm⟩
      · exact ⟨_, D.d_below, x, q, m, rows, rung, B, _, _, _, b, t, f', rfl, M2, hB, rfl, h1, h3, fin _ (st_below (z := z) (ring := ringOf rung)).symm⟩
end
end My


set_option Elab.async false
set_option linter.all false
set_option maxRecDepth 100000
set_option maxHeartbeats 4000000
namespace My
open PySem L2
/-! ### all stays but what lies in R; tuples stay anyhow -/
def Keeps (R : Addr → Prop) (H H' : Hp) : Prop := ∀ c o, H c = some o → (¬ R c ∨ ∃ xs, o = .tup xs) → H' c = some o
theorem Keeps.refl {R : Addr → Prop} {H : Hp} : Keeps R H H := fun _ _ e _ => e
theorem Keeps.trans {R : Addr → Prop} {H H1 H2 : Hp} (a : Keeps R H H1) (b : Keeps R H1 H2) : Keeps R H H2 := fun c o e n => b c o (a c o e n) n
theorem Keeps.same {R : Addr → Prop} {H H' : Hp} (s : Same H H') : Keeps R H H' := fun c o e _ => s c o e
theorem Keeps.tups {R : Addr → Prop} {H H' : Hp} (a : Keeps R H H') : SameT2 H H' := fun b xs e => a b _ e (.inr ⟨xs, rfl⟩)
theorem Keeps.upd {R : Addr → Prop} {H H' : Hp} {p : Addr} {o o' : HO} (a : Keeps R H H') (h : H' p = some o) (hn : ∀ xs, o ≠ .tup xs) (hp : R p) : Keeps R H (L2.upd H' p o') := fun c u e n => by
  have e' := a c u e n
  have : c ≠ p := fun z => by
    rw [z, h] at e'
    have e' := Option.some.inj e'
    rcases n with n | ⟨xs, rfl⟩
    · exact n (z ▸ hp)
    · exact hn xs e'
  rw [upd_ne this]
  exact e'
section
variable {C x : Addr} {H H' : Hp} {m : MA} {rows : List V} {rung : List (Key × V)} {B : Nat} {z : Zt}
theorem MG.fr (M : MG C H x m rows rung B z) (f : Fr m x H H') : Keeps (Own m x) H H' := fun c o e n => by
  rcases n with n | ⟨xs, rfl⟩
  · exact f c o n e
  · exact f c _ (M.notOwn e) e
/-- what a machine is made of -/
def MReg (m : MA) (x c : Addr) : Prop := Own m x c ∨ c = m.p1
theorem MG.keeps {R : Addr → Prop} (M : MG C H x m rows rung B z) (k : Keeps R H H') (d : ∀ c, MReg m x c → ¬ R c) : MG C H' x m rows rung B z := by
  obtain ⟨w, o1, o2⟩ := M.obj
  obtain ⟨d1, c1, c2⟩ := M.cell
  obtain ⟨d2, a1, a2⟩ := M.asd
  obtain ⟨ps, s1, s2⟩ := M.seen
  have e : ∀ {c o}, MReg m x c → H c = some o → H' c = some o := fun {c o} h g => k c o g (.inl (d c h))
  exact ⟨⟨w, e (.inl (.inl rfl)) o1, o2.tups k.tups⟩, e (.inr rfl) M.prog, e (.inl (.inr (.inl rfl))) M.box, M.b8, ⟨d1, e (.inl (.inr (.inr (.inl rfl)))) c1, c2⟩, ⟨d2, e (.inl (.inr (.inr (.inr (.inl rfl))))) a1, a2⟩,
    e (.inl (.inr (.inr (.inr (.inr (.inl rfl)))))) M.rg, e (.inl (.inr (.inr (.inr (.inr (.inr (.inl rfl))))))) M.told, ⟨ps, e (.inl (.inr (.inr (.inr (.inr (.inr (.inr (.inl rfl)))))))) s1, s2.tups k.tups⟩, e (.inl (.inr (.inr (.inr (.inr (.inr (.inr (.inr rfl)))))))) M.pil, M.ap, M.lens, M.big⟩
theorem MG.here_ (M : MG C H x m rows rung B z) : ∀ c, MReg m x c → ∃ o, H c = some o := by
  obtain ⟨w, o1, o2⟩ := M.obj
  obtain ⟨d1, c1, c2⟩ := M.cell
  obtain ⟨d2, a1, a2⟩ := M.asd
  obtain ⟨ps, s1, s2⟩ := M.seen
  rintro c ((rfl | rfl | rfl | rfl | rfl | rfl | rfl | rfl) | rfl)
  · exact ⟨_, o1⟩
  · exact ⟨_, M.box⟩
  · exact ⟨_, c1⟩
  · exact ⟨_, a1⟩
  · exact ⟨_, M.rg⟩
  · exact ⟨_, M.told⟩
  · exact ⟨_, s1⟩
  · exact ⟨_, M.pil⟩
  · exact ⟨_, M.prog⟩
end
/-! ### the law's own machine: a dict keyed by texts -/
def lkeys : List Str := ["row", "ending", "boxes", "cells", "asides", "told", "seen", "pile", "passed"]
theorem lkeys_nd : lkeys.Nodup := by decide +kernel
structure LA where
  (p1 p2 p3 p4 p5 p6 : Addr)
def lvals (m : LA) (h w : V) (k : Int) : List V := [h, w, .ref m.p1, .ref m.p2, .ref m.p3, .ref m.p4, .ref m.p5, .ref m.p6, .int k]
def zipK (ns : List Str) (vs : List V) : List (Key × V) := (ns.zip vs).map fun p => (Sum.inr p.1, p.2)
theorem val_zip : ∀ (ns : List Str) (vs : List V) (i : Nat) (x : Str), ns.Nodup → ns[i]? = some x → valV (zipK ns vs) (Sum.inr x : Key) = vs[i]?
  | [], _, i, x, _, h => by simp at h
  | n :: ns, [], i, x, _, h => by simp [zipK, valV]
  | n :: ns, v :: vs, 0, x, _, h => by
    have e : n = x := by simpa using h
    subst e
    exact valV_pos rfl
  | n :: ns, v :: vs, i + 1, x, hn, h => by
    have hn' := List.nodup_cons.mp hn
    have hm : x ∈ ns := List.mem_of_getElem? (by simpa using h)
    have ne : ¬ n = x := fun e => hn'.1 (e ▸ hm)
    rw [show zipK (n :: ns) (v :: vs) = (Sum.inr n, v) :: zipK ns vs from rfl, valV_neg (fun z => ne (Sum.inr.inj z))]
    exact val_zip ns vs i x hn'.2 (by simpa using h)
theorem putK_zip (y : V) : ∀ (ns : List Str) (vs : List V) (i : Nat) (x : Str), ns.Nodup → ns[i]? = some x → i < vs.length → ns.length = vs.length → putK (zipK ns vs) (Sum.inr x : Key) y = zipK ns (vs.set i y) := by
  intro ns vs i x hn hi hl hlen
  have hs : (valV (zipK ns vs) (Sum.inr x : Key)).isSome = true := by
    rw [val_zip ns vs i x hn hi, List.getElem?_eq_getElem hl]
    rfl
  unfold putK
  rw [valV_any, if_pos hs]
  have go : ∀ (ns : List Str) (vs : List V) (i : Nat), ns.Nodup → ns[i]? = some x → (zipK ns vs).map (fun kv => if kv.1 = (Sum.inr x : Key) then (kv.1, y) else kv) = zipK ns (vs.set i y) := by
    intro ns
    induction ns with
    | nil => intro vs i _ h; simp at h
    | cons n ns ih =>
      intro vs i hn hi
      cases vs with
      | nil => rfl
      | cons v vs =>
        have hn' := List.nodup_cons.mp hn
        cases i with
        | zero =>
          have e : n = x := by simpa using hi
          subst e
          show (if (Sum.inr n : Key) = Sum.inr n then _ else _) :: _ = (Sum.inr n, y) :: zipK ns vs
          rw [if_pos rfl]
          congr 1
          have : ∀ p ∈ zipK ns vs, (if p.1 = (Sum.inr n : Key) then (p.1, y) else p) = p := fun p hp => by
            unfold zipK at hp
            obtain ⟨q, hq, rfl⟩ := List.mem_map.mp hp
            have : q.1 ∈ ns := (List.of_mem_zip hq).1
            rw [if_neg (fun e => hn'.1 (by rw [← Sum.inr.inj e]; exact this))]
          show (zipK ns vs).map (fun kv => if kv.1 = (Sum.inr n : Key) then (kv.1, y) else kv) = zipK ns vs
          rw [List.map_congr_left this, List.map_id']
        | succ i =>
          have hm : x ∈ ns := List.mem_of_getElem? (by simpa using hi)
          have ne : ¬ n = x := fun e => hn'.1 (e ▸ hm)
          show (if (Sum.inr n : Key) = Sum.inr x then _ else (Sum.inr n, v)) :: (zipK ns vs).map _ = (Sum.inr n, v) :: zipK ns (vs.set i y)
          rw [if_neg (fun z => ne (Sum.inr.inj z)), ih vs i hn'.2 (by simpa using hi)]
  exact go ns vs i hn hi
abbrev ld (m : LA) (h w : V) (k : Int) : List (Key × V) := zipK lkeys (lvals m h w k)
theorem dget {H : Hp} {a : Addr} {kvs : List (Key × V)} {x : Str} {v : V} (h : H a = some (.dK kvs)) (e : valV kvs (Sum.inr x : Key) = some v) : DGet H a (.str x) (some v) := e ▸ DGet.k (k := Sum.inr x) h
section
variable {m : LA} {k : Int} {h w v : V}
theorem l_row : valV (ld m h w k) (Sum.inr "row" : Key) = some h := val_zip lkeys _ 0 _ lkeys_nd rfl
theorem l_end : valV (ld m h w k) (Sum.inr "ending" : Key) = some w := val_zip lkeys _ 1 _ lkeys_nd rfl
theorem l_box : valV (ld m h w k) (Sum.inr "boxes" : Key) = some (.ref m.p1) := val_zip lkeys _ 2 _ lkeys_nd rfl
theorem l_cel : valV (ld m h w k) (Sum.inr "cells" : Key) = some (.ref m.p2) := val_zip lkeys _ 3 _ lkeys_nd rfl
theorem l_asd : valV (ld m h w k) (Sum.inr "asides" : Key) = some (.ref m.p3) := val_zip lkeys _ 4 _ lkeys_nd rfl
theorem l_told : valV (ld m h w k) (Sum.inr "told" : Key) = some (.ref m.p4) := val_zip lkeys _ 5 _ lkeys_nd rfl
theorem l_seen : valV (ld m h w k) (Sum.inr "seen" : Key) = some (.ref m.p5) := val_zip lkeys _ 6 _ lkeys_nd rfl
theorem l_pile : valV (ld m h w k) (Sum.inr "pile" : Key) = some (.ref m.p6) := val_zip lkeys _ 7 _ lkeys_nd rfl
theorem l_pass : valV (ld m h w k) (Sum.inr "passed" : Key) = some (.int k) := val_zip lkeys _ 8 _ lkeys_nd rfl
theorem u_row : putK (ld m h w k) (Sum.inr "row" : Key) v = ld m v w k := putK_zip v lkeys _ 0 _ lkeys_nd rfl (by show 0 < 9; decide) rfl
theorem u_end : putK (ld m h w k) (Sum.inr "ending" : Key) v = ld m h v k := putK_zip v lkeys _ 1 _ lkeys_nd rfl (by show 1 < 9; decide) rfl
theorem u_box {p : Addr} : putK (ld m h w k) (Sum.inr "boxes" : Key) (.ref p) = ld { m with p1 := p } h w k := putK_zip _ lkeys _ 2 _ lkeys_nd rfl (by show 2 < 9; decide) rfl
theorem u_cel {p : Addr} : putK (ld m h w k) (Sum.inr "cells" : Key) (.ref p) = ld { m with p2 := p } h w k := putK_zip _ lkeys _ 3 _ lkeys_nd rfl (by show 3 < 9; decide) rfl
theorem u_asd {p : Addr} : putK (ld m h w k) (Sum.inr "asides" : Key) (.ref p) = ld { m with p3 := p } h w k := putK_zip _ lkeys _ 4 _ lkeys_nd rfl (by show 4 < 9; decide) rfl
theorem u_pass {j : Int} : putK (ld m h w k) (Sum.inr "passed" : Key) (.int j) = ld m h w j := putK_zip _ lkeys _ 8 _ lkeys_nd rfl (by show 8 < 9; decide) rfl
theorem l_few : (ld m h w k).length < sizeLine := Nat.lt_of_lt_of_le (show 9 < 1001 by decide) (by decide)
end
/-- what the law's own machine may change -/
def LOwn (m : LA) (a c : Addr) : Prop := c = a ∨ c = m.p4 ∨ c = m.p5 ∨ c = m.p6
def LReg (m : LA) (a c : Addr) : Prop := c = a ∨ c = m.p1 ∨ c = m.p2 ∨ c = m.p3 ∨ c = m.p4 ∨ c = m.p5 ∨ c = m.p6
structure LS (H : Hp) (a : Addr) (m : LA) (B : Nat) (z : Zt) : Prop where
  st : ∃ w, H a = some (.dK (ld m z.here w z.k)) ∧ HowIs H w z.how
  box : H m.p1 = some (.lst (z.bs.map V.int))
  b8 : z.bs.length = 8
  cell : ∃ d, H m.p2 = some (.dK d) ∧ NZ d z.cf ∧ d.length ≤ B
  asd : ∃ d, H m.p3 = some (.dK d) ∧ NZ d z.af ∧ d.length ≤ B
  told : H m.p4 = some (.lst (z.told.map V.int))
  seen : ∃ ps, H m.p5 = some (.lst (ps.map V.ref)) ∧ SeenAt H ps z.seen
  pil : H m.p6 = some (.lst (z.pile.map V.int))
  n14 : m.p1 ≠ m.p4
  n15 : m.p1 ≠ m.p5
  n16 : m.p1 ≠ m.p6
  n45 : m.p4 ≠ m.p5
  n46 : m.p4 ≠ m.p6
  n56 : m.p5 ≠ m.p6
  na2 : a ≠ m.p2
  na3 : a ≠ m.p3
  lens : z.told.length ≤ B ∧ z.seen.length ≤ B ∧ z.pile.length ≤ B
  big : B ≤ 900
section
variable {H H' : Hp} {a : Addr} {m : LA} {B : Nat} {z : Zt}
theorem LS.keeps {R : Addr → Prop} (M : LS H a m B z) (k : Keeps R H H') (d : ∀ c, LReg m a c → ¬ R c) : LS H' a m B z := by
  obtain ⟨w, o1, o2⟩ := M.st
  obtain ⟨d1, c1, c2⟩ := M.cell
  obtain ⟨d2, a1, a2⟩ := M.asd
  obtain ⟨ps, s1, s2⟩ := M.seen
  have e : ∀ {c o}, LReg m a c → H c = some o → H' c = some o := fun {c o} h g => k c o g (.inl (d c h))
  exact ⟨⟨w, e (.inl rfl) o1, o2.tups k.tups⟩, e (.inr (.inl rfl)) M.box, M.b8, ⟨d1, e (.inr (.inr (.inl rfl))) c1, c2⟩, ⟨d2, e (.inr (.inr (.inr (.inl rfl)))) a1, a2⟩, e (.inr (.inr (.inr (.inr (.inl rfl))))) M.told,
    ⟨ps, e (.inr (.inr (.inr (.inr (.inr (.inl rfl)))))) s1, s2.tups k.tups⟩, e (.inr (.inr (.inr (.inr (.inr (.inr rfl)))))) M.pil, M.n14, M.n15, M.n16, M.n45, M.n46, M.n56, M.na2, M.na3, M.lens, M.big⟩
theorem LS.same (M : LS H a m B z) (s : Same H H') : LS H' a m B z := M.keeps (R := fun _ => False) (.same s) (fun _ _ h => h)
theorem LS.more (M : LS H a m B z) {B' : Nat} (h : B ≤ B') (hb : B' ≤ 900) : LS H a m B' z := by
  obtain ⟨d, c1, c2, c3⟩ := M.cell
  obtain ⟨d', a1, a2, a3⟩ := M.asd
  obtain ⟨l1, l2, l3⟩ := M.lens
  exact ⟨M.st, M.box, M.b8, ⟨d, c1, c2, by omega⟩, ⟨d', a1, a2, by omega⟩, M.told, M.seen, M.pil, M.n14, M.n15, M.n16, M.n45, M.n46, M.n56, M.na2, M.na3, ⟨by omega, by omega, by omega⟩, hb⟩
/-- the dict is written: where, how, how many -/
theorem LS.put (M : LS H a m B z) {h' w' : V} {k' : Int} {how' : Option (List V)} (hw : HowIs H w' how') : LS (upd H a (.dK (ld m h' w' k'))) a m B { z with here := h', how := how', k := k' } := by
  obtain ⟨w, o1, o2⟩ := M.st
  obtain ⟨d1, c1, c2⟩ := M.cell
  obtain ⟨d2, a1, a2⟩ := M.asd
  obtain ⟨ps, s1, s2⟩ := M.seen
  have t : SameT2 H (upd H a (.dK (ld m h' w' k'))) := .upd o1 (by intro _ z; cases z)
  have e : ∀ {c o}, H c = some o → c ≠ a → upd H a (.dK (ld m h' w' k')) c = some o := fun {c o} h n => by rw [upd_ne n]; exact h
  exact ⟨⟨w', upd_same, hw.tups t⟩, e M.box (ne_of M.box o1 (by intro z; cases z)), M.b8, ⟨d1, e c1 M.na2.symm, c2⟩, ⟨d2, e a1 M.na3.symm, a2⟩, e M.told (ne_of M.told o1 (by intro z; cases z)), ⟨ps, e s1 (ne_of s1 o1 (by intro z; cases z)), s2.tups t⟩, e M.pil (ne_of M.pil o1 (by intro z; cases z)),
    M.n14, M.n15, M.n16, M.n45, M.n46, M.n56, M.na2, M.na3, M.lens, M.big⟩
/-- the boxes are another list from now on -/
theorem LS.boxes (M : LS H a m B z) {p : Addr} {bs' : List Int} {w : V} (ho : H a = some (.dK (ld m z.here w z.k))) (hw : HowIs H w z.how) (hp : H p = some (.lst (bs'.map V.int))) (h8 : bs'.length = 8) (n4 : p ≠ m.p4) (n5 : p ≠ m.p5) (n6 : p ≠ m.p6) :
    LS (upd H a (.dK (ld { m with p1 := p } z.here w z.k))) a { m with p1 := p } B { z with bs := bs' } := by
  obtain ⟨d1, c1, c2⟩ := M.cell
  obtain ⟨d2, a1, a2⟩ := M.asd
  obtain ⟨ps, s1, s2⟩ := M.seen
  have t : SameT2 H (upd H a (.dK (ld { m with p1 := p } z.here w z.k))) := .upd ho (by intro _ z; cases z)
  have e : ∀ {c o}, H c = some o → c ≠ a → upd H a (.dK (ld { m with p1 := p } z.here w z.k)) c = some o := fun {c o} h n => by rw [upd_ne n]; exact h
  exact ⟨⟨w, upd_same, hw.tups t⟩, e hp (ne_of hp ho (by intro z; cases z)), h8, ⟨d1, e c1 M.na2.symm, c2⟩, ⟨d2, e a1 M.na3.symm, a2⟩, e M.told (ne_of M.told ho (by intro z; cases z)), ⟨ps, e s1 (ne_of s1 ho (by intro z; cases z)), s2.tups t⟩, e M.pil (ne_of M.pil ho (by intro z; cases z)),
    n4, n5, n6, M.n45, M.n46, M.n56, M.na2, M.na3, M.lens, M.big⟩
theorem LS.cells (M : LS H a m B z) {p : Addr} {d : List (Key × V)} {f : Int → Int} {w : V} (ho : H a = some (.dK (ld m z.here w z.k))) (hw : HowIs H w z.how) (hp : H p = some (.dK d)) (hz : NZ d f) (hl : d.length ≤ B) (na : a ≠ p) :
    LS (upd H a (.dK (ld { m with p2 := p } z.here w z.k))) a { m with p2 := p } B { z with cf := f } := by
  obtain ⟨d2, a1, a2⟩ := M.asd
  obtain ⟨ps, s1, s2⟩ := M.seen
  have t : SameT2 H (upd H a (.dK (ld { m with p2 := p } z.here w z.k))) := .upd ho (by intro _ z; cases z)
  have e : ∀ {c o}, H c = some o → c ≠ a → upd H a (.dK (ld { m with p2 := p } z.here w z.k)) c = some o := fun {c o} h n => by rw [upd_ne n]; exact h
  exact ⟨⟨w, upd_same, hw.tups t⟩, e M.box (ne_of M.box ho (by intro z; cases z)), M.b8, ⟨d, e hp na.symm, hz, hl⟩, ⟨d2, e a1 M.na3.symm, a2⟩, e M.told (ne_of M.told ho (by intro z; cases z)), ⟨ps, e s1 (ne_of s1 ho (by intro z; cases z)), s2.tups t⟩, e M.pil (ne_of M.pil ho (by intro z; cases z)),
    M.n14, M.n15, M.n16, M.n45, M.n46, M.n56, na, M.na3, M.lens, M.big⟩
theorem LS.asids (M : LS H a m B z) {p : Addr} {d : List (Key × V)} {f : Int → Int} {w : V} (ho : H a = some (.dK (ld m z.here w z.k))) (hw : HowIs H w z.how) (hp : H p = some (.dK d)) (hz : NZ d f) (hl : d.length ≤ B) (na : a ≠ p) :
    LS (upd H a (.dK (ld { m with p3 := p } z.here w z.k))) a { m with p3 := p } B { z with af := f } := by
  obtain ⟨d1, c1, c2⟩ := M.cell
  obtain ⟨ps, s1, s2⟩ := M.seen
  have t : SameT2 H (upd H a (.dK (ld { m with p3 := p } z.here w z.k))) := .upd ho (by intro _ z; cases z)
  have e : ∀ {c o}, H c = some o → c ≠ a → upd H a (.dK (ld { m with p3 := p } z.here w z.k)) c = some o := fun {c o} h n => by rw [upd_ne n]; exact h
  exact ⟨⟨w, upd_same, hw.tups t⟩, e M.box (ne_of M.box ho (by intro z; cases z)), M.b8, ⟨d1, e c1 M.na2.symm, c2⟩, ⟨d, e hp na.symm, hz, hl⟩, e M.told (ne_of M.told ho (by intro z; cases z)), ⟨ps, e s1 (ne_of s1 ho (by intro z; cases z)), s2.tups t⟩, e M.pil (ne_of M.pil ho (by intro z; cases z)),
    M.n14, M.n15, M.n16, M.n45, M.n46, M.n56, M.na2, na, M.lens, M.big⟩
theorem LS.a_ (M : LS H a m B z) {p : Addr} {xs : List V} (h : H p = some (.lst xs)) : a ≠ p := by
  obtain ⟨w, o1, _⟩ := M.st
  exact ne_of o1 h (by intro z; cases z)
theorem LS.tolds (M : LS H a m B z) {t' : List Int} (hl : t'.length ≤ B) : LS (upd H m.p4 (.lst (t'.map V.int))) a m B { z with told := t' } := by
  obtain ⟨w, o1, o2⟩ := M.st
  obtain ⟨d1, c1, c2⟩ := M.cell
  obtain ⟨d2, a1, a2⟩ := M.asd
  obtain ⟨ps, s1, s2⟩ := M.seen
  have t : SameT2 H (upd H m.p4 (.lst (t'.map V.int))) := .upd M.told (by intro _ z; cases z)
  have e : ∀ {c o}, H c = some o → c ≠ m.p4 → upd H m.p4 (.lst (t'.map V.int)) c = some o := fun {c o} h n => by rw [upd_ne n]; exact h
  exact ⟨⟨w, e o1 (M.a_ M.told), o2.tups t⟩, e M.box M.n14, M.b8, ⟨d1, e c1 (ne_of c1 M.told (by intro z; cases z)), c2⟩, ⟨d2, e a1 (ne_of a1 M.told (by intro z; cases z)), a2⟩, upd_same, ⟨ps, e s1 M.n45.symm, s2.tups t⟩, e M.pil M.n46.symm,
    M.n14, M.n15, M.n16, M.n45, M.n46, M.n56, M.na2, M.na3, ⟨hl, M.lens.2⟩, M.big⟩
theorem LS.seens (M : LS H a m B z) {ps : List Addr} {sn : List (Int × Int)} (hs : SeenAt H ps sn) (hl : sn.length ≤ B) : LS (upd H m.p5 (.lst (ps.map V.ref))) a m B { z with seen := sn } := by
  obtain ⟨w, o1, o2⟩ := M.st
  obtain ⟨d1, c1, c2⟩ := M.cell
  obtain ⟨d2, a1, a2⟩ := M.asd
  obtain ⟨ps0, s1, s2⟩ := M.seen
  have t : SameT2 H (upd H m.p5 (.lst (ps.map V.ref))) := .upd s1 (by intro _ z; cases z)
  have e : ∀ {c o}, H c = some o → c ≠ m.p5 → upd H m.p5 (.lst (ps.map V.ref)) c = some o := fun {c o} h n => by rw [upd_ne n]; exact h
  exact ⟨⟨w, e o1 (M.a_ s1), o2.tups t⟩, e M.box M.n15, M.b8, ⟨d1, e c1 (ne_of c1 s1 (by intro z; cases z)), c2⟩, ⟨d2, e a1 (ne_of a1 s1 (by intro z; cases z)), a2⟩, e M.told M.n45, ⟨ps, upd_same, hs.tups t⟩, e M.pil M.n56.symm,
    M.n14, M.n15, M.n16, M.n45, M.n46, M.n56, M.na2, M.na3, ⟨M.lens.1, hl, M.lens.2.2⟩, M.big⟩
theorem LS.piles (M : LS H a m B z) {p' : List Int} (hl : p'.length ≤ B) : LS (upd H m.p6 (.lst (p'.map V.int))) a m B { z with pile := p' } := by
  obtain ⟨w, o1, o2⟩ := M.st
  obtain ⟨d1, c1, c2⟩ := M.cell
  obtain ⟨d2, a1, a2⟩ := M.asd
  obtain ⟨ps, s1, s2⟩ := M.seen
  have t : SameT2 H (upd H m.p6 (.lst (p'.map V.int))) := .upd M.pil (by intro _ z; cases z)
  have e : ∀ {c o}, H c = some o → c ≠ m.p6 → upd H m.p6 (.lst (p'.map V.int)) c = some o := fun {c o} h n => by rw [upd_ne n]; exact h
  exact ⟨⟨w, e o1 (M.a_ M.pil), o2.tups t⟩, e M.box M.n16, M.b8, ⟨d1, e c1 (ne_of c1 M.pil (by intro z; cases z)), c2⟩, ⟨d2, e a1 (ne_of a1 M.pil (by intro z; cases z)), a2⟩, e M.told M.n46, ⟨ps, e s1 M.n56, s2.tups t⟩, upd_same,
    M.n14, M.n15, M.n16, M.n45, M.n46, M.n56, M.na2, M.na3, ⟨M.lens.1, M.lens.2.1, hl⟩, M.big⟩
theorem LS.at (M : LS H a m B z) {b : Int} (hb : Bx b) : atI (z.bs.map V.int) b = some (.int (z.bx b)) := by
  obtain ⟨j, rfl⟩ := Int.eq_ofNat_of_zero_le hb.1
  have hj : j < z.bs.length := by have := hb.2; have := M.b8; omega
  refine atI_nat (j := j) ?_
  show _ = some (V.int (z.bs.getD (j : Int).toNat 0))
  rw [List.getElem?_map, List.getElem?_eq_getElem hj, Int.toNat_natCast, List.getD_eq_getElem?_getD, List.getElem?_eq_getElem hj]
  rfl
end
end My


set_option Elab.async false
set_option linter.all false
set_option maxRecDepth 100000
set_option maxHeartbeats 4000000
namespace My
open PySem L2
theorem at_new {H : Hp} {l a : Addr} {o u : HO} (n : H l = none) (h : H a = some u) : upd H l o a = some u := by
  rw [upd_ne (ne_of_none h n)]
  exact h
theorem iteP {c A B : Prop} [Decidable c] (h : c) (a : A) : if c then A else B := by rw [if_pos h]; exact a
theorem iteN {c A B : Prop} [Decidable c] (h : ¬ c) (b : B) : if c then A else B := by rw [if_neg h]; exact b
theorem bt_range : bootBuiltins "range" = some (.type "range") := by decide +kernel
theorem bt_int : bootBuiltins "int" = some (.type "int") := by decide +kernel
/-- tuples that are these pairs -/
def PairsAt (H : Hp) (ts : List Addr) (ps : List (Int × Int)) : Prop := ts.length = ps.length ∧ ∀ (i : Nat) t p, ts[i]? = some t → ps[i]? = some p → H t = some (.tup [.int p.1, .int p.2])
theorem PairsAt.tups {H H' : Hp} {ts : List Addr} {ps : List (Int × Int)} (e : SameT2 H H') (h : PairsAt H ts ps) : PairsAt H' ts ps := ⟨h.1, fun i t p a b => e _ _ (h.2 i t p a b)⟩
theorem PairsAt.snoc {H : Hp} {ts : List Addr} {ps : List (Int × Int)} {t : Addr} {p : Int × Int} (h : PairsAt H ts ps) (ht : H t = some (.tup [.int p.1, .int p.2])) : PairsAt H (ts ++ [t]) (ps ++ [p]) := by
  refine ⟨by simp [h.1], fun i t' p' a b => ?_⟩
  rcases Nat.lt_or_ge i ts.length with z | z
  · rw [List.getElem?_append_left z] at a
    rw [List.getElem?_append_left (by have := h.1; omega)] at b
    exact h.2 i t' p' a b
  · rw [List.getElem?_append_right z] at a
    rw [List.getElem?_append_right (by have := h.1; omega)] at b
    cases hz : i - ts.length with
    | zero =>
      have hz2 : i - ps.length = 0 := by have := h.1; omega
      rw [hz] at a
      rw [hz2] at b
      simp at a b
      subst a
      subst b
      exact ht
    | succ d => rw [hz] at a; simp at a
section
variable {P : Program} {w : World} {K : PySem.W.Frag} {mg : Str → Option Value} {base : Heap}
/-! ### a dict with one more, without noughts -/
def spGiven : Sp := fun vs H Q _ => ∃ (a : Addr) (d : List (Key × V)) (f : Int → Int) (j v : Int), vs = [.ref a, .int j, .int v] ∧ H a = some (.dK d) ∧ Rep d f ∧ d.length ≤ 900 ∧ ∀ (l : Addr) (d' : List (Key × V)) (H' : Hp), Same H H' → H l = none → H' l = some (.dK d') → NZ d' (fput f j v) → d'.length ≤ d.length + 1 → Q (.ref l) H'
theorem scGiven : FnScope ["_law_table", "_law_at", "_law_number_here", "_law_found"] ["_law_table", "_law_at", "_law_number_here"] (defScope sGiven) := ⟨rfl, rfl, rfl, by decide +kernel, rfl, by decide +kernel, by decide +kernel⟩
def csGivenC1 : Scope := { kind := .function, names := [(".0", .local), ("_law_one", .local), ("_law_other", .local)], isGenerator := false, isCoroutine := false, more := [] }
theorem scGivenC1 : CompSc (defScope sGiven) csGivenC1 ["_law_table", "_law_at", "_law_number_here", "_law_found"] ["_law_one", "_law_other"] [none, none] := ⟨rfl, by decide +kernel, by decide +kernel, by decide +kernel, by decide +kernel, by decide +kernel⟩
theorem ok_given {f : Addr} {fd : FuncData} (F : Fun K "_law_given" "_law_given" sGiven f fd) (T : Txt K mg) : FnOk P w K mg base CX0 1 f fd ["_law_table", "_law_at", "_law_number_here"] spGiven := by
  refine F.ok scGiven (fun vs H Q E h => ?_) (fun cdv A outer s H vs Q E hr h => ?_)
  · obtain ⟨a, d, f, j, v, rfl, _⟩ := h
    rfl
  · obtain ⟨a, d, f, j, v, rfl, ha, hrep, hdl, k⟩ := h
    have hu := hu_of hr
    refine ⟨_, pss_cons (ps_set (i := 3) scGiven.nd rfl (Or.inl rfl) (pe_callTy call_dict_of (by rfl) T.dict bt_dict (pa_cons (pv 0) pa_nil)))
      (pss_cons (ps_dput hu (pv 3) (pv 1) (pv 2) rfl)
      (pss_one (ps_ret (pe_callTy (call_dict_pairs rfl) (by rfl) T.dict bt_dict (pa_cons (pe_thaw (pe_comp (N' := ["_law_one", "_law_other"]) (fr := [none, none]) scGivenC1 rfl (pi_items (pv 3)) (fun C s0 H0 fp => pg_two (K := K) (i := 0) (j := 1) rfl rfl scGivenC1.nd rfl (Or.inl rfl) rfl (Or.inl rfl)) (fun C s0 H0 fp => pts_one (pt_cmpR op_ne (pv 1) pe_int (nomark _))) (fun C s0 H0 fp => pe_tup (pa_cons (pv 0) (pa_cons (pv 1) pa_nil))))) pa_nil))))), ?_⟩
    refine ⟨_, rfl, a, d, rfl, ha, fun l1 n1 => ?_⟩
    refine ⟨_, rfl, _, rfl, _, rfl, l1, _, rfl, DPut.k (k := Sum.inl j) upd_same (Nat.lt_of_le_of_lt hdl (by decide)), ?_⟩
    have hl1 := length_putK d (Sum.inl j : Key) (V.int v)
    obtain ⟨⟨kvs, e, hnd⟩, hval⟩ := id (hrep.put j v)
    have hr1 := hrep.put j v
    rw [e] at hl1 hr1 ⊢
    have dl : (iD kvs).length = kvs.length := by unfold iD; rw [List.length_map]
    have s0 : Same H (upd (upd H l1 (.dK d)) l1 (.dK (iD kvs))) := same_put (same_new n1) n1
    refine ⟨_, rfl, l1, _, rfl, upd_same, fun o nf D nD => comp_items (fun i σ ys H' => ∃ (v1 v2 : Option V) (ts : List Addr), σ = [v1, v2] ∧ ys = ts.map V.ref ∧ H' l1 = some (.frz o (.dK (iD kvs))) ∧ H' D = some (.lst ys) ∧ PairsAt H' ts ((kvs.take i).filter fun p => p.2 != 0) ∧ ∀ c u, H c = some u → H' c = some u) ?_ ?_ ?_ ?_⟩
    · have ne : l1 ≠ D := ne_of_none upd_same nD
      refine ⟨none, none, [], rfl, rfl, ?_, upd_same, ⟨rfl, fun i t p h => by simp at h⟩, fun c u e => ?_⟩
      · rw [upd_ne ne]
        exact upd_same
      · have cl : c ≠ l1 := ne_of_none e n1
        refine at_new nD ?_
        rw [upd_ne cl]
        exact s0 _ _ e
    · rintro i σ ys H' _ ⟨v1, v2, ts, rfl, rfl, h1, _⟩
      exact h1
    · rintro i kk y σ ys H' t he nt ⟨v1, v2, ts, rfl, rfl, h1, h2, h3, h4⟩
      have he' : (iD kvs)[i]? = some (kk, y) := he
      unfold iD at he'
      rw [List.getElem?_map] at he'
      obtain ⟨p, hp, hpe⟩ := Option.map_eq_some_iff.mp he'
      have hk : kk = Sum.inl p.1 := (congrArg Prod.fst hpe).symm
      have hy : y = V.int p.2 := (congrArg Prod.snd hpe).symm
      subst hk hy
      have hil := (List.getElem?_eq_some_iff.mp hp).1
      have s1 := same_new (o := .tup [kV (Sum.inl p.1), .int p.2]) nt
      have tk : kvs.take (i + 1) = kvs.take i ++ [p] := by rw [List.take_succ, hp]; rfl
      refine ⟨t, _, rfl, SqT.of upd_same, rfl, _, _, rfl, _, _, rfl, rfl, ?_⟩
      refine ⟨_, rfl, rfl, _, rfl, ?_⟩
      have tl : ts.length ≤ i := by
        rw [h3.1]
        exact Nat.le_trans (List.length_filter_le _ _) (by rw [List.length_take]; omega)
      refine ite2 (fun c => ?_) (fun c => ?_)
      · have c : p.2 ≠ 0 := fun z => by rw [z] at c; exact absurd c (by decide)
        refine ⟨_, rfl, _, rfl, (by show 2 ≤ sizeLine; decide), fun t2 n2 => ⟨at_new n2 (s1 _ _ h2), small1000 (by rw [List.length_map]; omega), ?_⟩⟩
        have s2 := s1.trans (same_new (o := .tup [kV (Sum.inl p.1), .int p.2]) n2)
        have D1 : l1 ≠ D := ne_of h1 h2 (by intro z; cases z)
        have t2D : t2 ≠ D := (ne_of_none (s1 _ _ h2) n2).symm
        refine ⟨_, _, ts ++ [t2], rfl, by simp, ?_, upd_same, ?_, fun c u e => ?_⟩
        · rw [upd_ne D1]
          exact s2 _ _ h1
        · rw [tk, List.filter_append, show [p].filter (fun p => p.2 != 0) = [p] by simp [c]]
          have T2 : SameT2 H' (upd (upd (upd H' t (.tup [kV (Sum.inl p.1), .int p.2])) t2 (.tup [kV (Sum.inl p.1), .int p.2])) D (.lst (ts.map V.ref ++ [V.ref t2]))) := fun b xs e => by
            rw [upd_ne (ne_of e h2 (by intro z; cases z))]
            exact s2 _ _ e
          refine (h3.tups T2).snoc ?_
          rw [upd_ne t2D]
          exact upd_same
        · have cD : c ≠ D := fun z => by
            have := s0 _ _ e
            rw [z] at e
            have nD' : H D = none := by
              cases q : H D with
              | none => rfl
              | some o' =>
                have nDl : D ≠ l1 := fun zz => D1 zz.symm
                have := s0 _ _ q
                rw [upd_ne nDl] at nD
                rw [nD] at this
                cases this
            rw [nD'] at e
            cases e
          rw [upd_ne cD]
          exact s2 _ _ (h4 c u e)
      · have c : p.2 = 0 := by
          rcases Int.decEq p.2 0 with z | z
          · exact absurd (by simp [z]) c
          · exact z
        refine ⟨_, _, ts, rfl, rfl, s1 _ _ h1, s1 _ _ h2, ?_, fun c u e => s1 _ _ (h4 c u e)⟩
        rw [tk, List.filter_append, show [p].filter (fun p => p.2 != 0) = [] by simp [c], List.append_nil]
        exact h3.tups (.of s1)
    · rintro σ ys H' ⟨v1, v2, ts, rfl, rfl, h1, h2, h3, h4⟩
      rw [dl, List.take_length] at h3
      have D1 : l1 ≠ D := ne_of h1 h2 (by intro z; cases z)
      have fl : (kvs.filter fun p => p.2 != 0).length ≤ kvs.length := List.length_filter_le _ _
      refine ⟨l1, o, iD kvs, h1, nf, D, ts, iD (kvs.filter fun p => p.2 != 0), rfl, ?_, ?_, fun i t kk v a b => ?_, ?_, ?_, fun l nl => ?_⟩
      · rw [upd_ne D1.symm]
        exact h2
      · rw [h3.1]
        unfold iD
        rw [List.length_map]
      · unfold iD at b
        rw [List.getElem?_map] at b
        obtain ⟨p, hp, hpe⟩ := Option.map_eq_some_iff.mp b
        have hk : kk = Sum.inl p.1 := (congrArg Prod.fst hpe).symm
        have hy : v = V.int p.2 := (congrArg Prod.snd hpe).symm
        subst hk hy
        have := h3.2 i t p a hp
        rw [upd_ne (ne_of this h1 (by intro z; cases z))]
        exact this
      · unfold iD
        rw [List.length_map]
        omega
      · unfold iD
        rw [List.map_map]
        have : ((fun x : Key × V => x.1) ∘ fun p : Int × Int => ((Sum.inl p.1 : Key), V.int p.2)) = (fun i : Int => (Sum.inl i : Key)) ∘ fun p : Int × Int => p.1 := rfl
        rw [this, ← List.map_map]
        exact (hnd.sublist (List.Sublist.map _ List.filter_sublist)).map _ (fun a b h e => h (Sum.inl.inj e))
      · refine k l _ _ (fun c u e => ?_) ?_ upd_same (NZ.filter hr1 hnd) ?_
        · have cl : c ≠ l1 := ne_of_none e n1
          refine at_new nl ?_
          rw [upd_ne cl]
          exact h4 c u e
        · cases q : H l with
          | none => rfl
          | some u =>
            have cl : l ≠ l1 := ne_of_none q n1
            rw [upd_ne cl, h4 l u q] at nl
            cases nl
        · unfold iD
          rw [List.length_map]
          omega
end
end My


set_option Elab.async false
set_option linter.all false
set_option maxRecDepth 100000
set_option maxHeartbeats 4000000
namespace My
open PySem L2
theorem num_set {b v : Int} {z : Zt} : num "set" b v z = v := by
  simp only [num, if_pos rfl, if_true]
theorem num_more {b v : Int} {z : Zt} : num "more" b v z = z.bx b + v := by
  simp only [num, if_neg (show ¬ ("more" : Str) = "set" by decide +kernel), if_pos rfl, if_true]
theorem num_copy {b v : Int} {z : Zt} : num "copy" b v z = z.bx v := by
  simp only [num, if_neg (show ¬ ("copy" : Str) = "set" by decide +kernel), if_neg (show ¬ ("copy" : Str) = "more" by decide +kernel), if_pos rfl, if_true]
theorem num_add {b v : Int} {z : Zt} : num "add" b v z = z.bx b + z.bx v := by
  simp only [num, if_neg (show ¬ ("add" : Str) = "set" by decide +kernel), if_neg (show ¬ ("add" : Str) = "more" by decide +kernel), if_neg (show ¬ ("add" : Str) = "copy" by decide +kernel), if_pos rfl, if_true]
theorem num_less {b v : Int} {z : Zt} : num "less" b v z = z.bx b - z.bx v := by
  simp only [num, if_neg (show ¬ ("less" : Str) = "set" by decide +kernel), if_neg (show ¬ ("less" : Str) = "more" by decide +kernel), if_neg (show ¬ ("less" : Str) = "copy" by decide +kernel), if_neg (show ¬ ("less" : Str) = "add" by decide +kernel), if_pos rfl, if_true]
theorem num_load {b v : Int} {z : Zt} : num "load" b v z = z.cf (z.bx v) := by
  simp only [num, if_neg (show ¬ ("load" : Str) = "set" by decide +kernel), if_neg (show ¬ ("load" : Str) = "more" by decide +kernel), if_neg (show ¬ ("load" : Str) = "copy" by decide +kernel), if_neg (show ¬ ("load" : Str) = "add" by decide +kernel), if_neg (show ¬ ("load" : Str) = "less" by decide +kernel), if_pos rfl, if_true]
theorem num_take {b v : Int} {z : Zt} : num "take" b v z = z.af v := by
  simp only [num, if_neg (show ¬ ("take" : Str) = "set" by decide +kernel), if_neg (show ¬ ("take" : Str) = "more" by decide +kernel), if_neg (show ¬ ("take" : Str) = "copy" by decide +kernel), if_neg (show ¬ ("take" : Str) = "add" by decide +kernel), if_neg (show ¬ ("take" : Str) = "less" by decide +kernel), if_neg (show ¬ ("take" : Str) = "load" by decide +kernel)]
section
variable {P : Program} {w : World} {K : PySem.W.Frag} {mg : Str → Option Value} {base : Heap}
/-! ### the number that a row sets -/
def seven : List Str := ["set", "more", "copy", "add", "less", "load", "take"]
def spNumber : Sp := fun vs H Q _ => ∃ (a q : Addr) (m : LA) (B : Nat) (z : Zt) (u : Str) (b v : Int), vs = [.ref a, .ref q] ∧ LS H a m B z ∧ H q = some (.tup [.str u, .int b, .int v]) ∧ u ∈ seven ∧ Bx b ∧ (u ∈ five → Bx v) ∧ ∀ H', Same H H' → Q (.int (num u b v z)) H'
theorem scNumber : FnScope ["_law_state", "_law_row_here", "_law_word", "_law_box", "_law_part", "_law_here"] ["_law_state", "_law_row_here"] (defScope sNumber) := ⟨rfl, rfl, rfl, by decide +kernel, rfl, by decide +kernel, by decide +kernel⟩
theorem ok_number {f : Addr} {fd : FuncData} (F : Fun K "_law_number" "_law_number" sNumber f fd) (T : Txt K mg) : FnOk P w K mg base CX0 1 f fd ["_law_state", "_law_row_here"] spNumber := by
  refine F.ok scNumber (fun vs H Q E h => ?_) (fun cdv A outer s H vs Q E hr h => ?_)
  · obtain ⟨a, q, m, B, z, u, b, v, rfl, _⟩ := h
    rfl
  · obtain ⟨a, q, m, B, z, u, b, v, rfl, M, hq, hu7, hb, hv, k⟩ := h
    have hu := hu_of hr
    obtain ⟨w0, ho, hw⟩ := M.st
    refine ⟨_, (pss_cons (ps_asg (pv 1) (pg_tup (n := 3) rfl (pgs_cons (pg_name (i := 2) scNumber.nd rfl (Or.inl rfl)) (pgs_cons (pg_name (i := 3) scNumber.nd rfl (Or.inl rfl)) (pgs_cons (pg_name (i := 4) scNumber.nd rfl (Or.inl rfl)) pgs_nil)))))
      (pss_cons (ps_set (i := 5) scNumber.nd rfl (Or.inl rfl) (pe_dget hu (pv 0) pe_str (fun _ _ => rfl)))
      (pss_cons (ps_if (pt_cmpR op_in_seq (pv 2) (pe_tup (pa_cons pe_str (pa_cons pe_str pa_nil))) rfl) (pss_one (ps_ret (pe_op op_add (pv 4) (pe_op op_mul (pe_ix ix_list (pv 5) (pv 3) (fun _ _ => rfl)) (pe_callTy call_int1 (by rfl) T.int bt_int (pa_cons (pe_cmpR op_eq (pv 2) pe_str (nomark _)) pa_nil)))))) pss_nil)
      (pss_cons (ps_if (pt_cmpR op_eq (pv 2) pe_str (nomark _)) (pss_one (ps_ret (pe_dget2 hu (pe_dget hu (pv 0) pe_str (fun _ _ => rfl)) (pv 4) pe_int ⟨rfl, rfl, rfl, rfl⟩))) pss_nil)
      (pss_cons (ps_if (pt_cmpR op_eq (pv 2) pe_str (nomark _)) (pss_one (ps_ret (pe_dget2 hu (pe_dget hu (pv 0) pe_str (fun _ _ => rfl)) (pe_ix ix_list (pv 5) (pv 4) (fun _ _ => rfl)) pe_int ⟨rfl, rfl, rfl, rfl⟩))) pss_nil)
      (pss_cons (ps_if (pt_cmpR op_eq (pv 2) pe_str (nomark _)) (pss_one (ps_ret (pe_op op_add (pe_ix ix_list (pv 5) (pv 3) (fun _ _ => rfl)) (pe_ix ix_list (pv 5) (pv 4) (fun _ _ => rfl))))) pss_nil)
      (pss_cons (ps_if (pt_cmpR op_eq (pv 2) pe_str (nomark _)) (pss_one (ps_ret (pe_op op_sub (pe_ix ix_list (pv 5) (pv 3) (fun _ _ => rfl)) (pe_ix ix_list (pv 5) (pv 4) (fun _ _ => rfl))))) pss_nil)
      (pss_one (ps_ret (pe_ix ix_list (pv 5) (pv 4) (fun _ _ => rfl))))))))))), ?_⟩
    refine ⟨_, rfl, q, _, rfl, SqT.of hq, rfl, _, _, rfl, _, _, rfl, _, _, rfl, rfl, ?_⟩
    refine ⟨_, rfl, a, _, rfl, dget ho l_box, ?_⟩
    refine ⟨_, rfl, (by show 2 ≤ sizeLine; decide), fun t1 n1 => ⟨t1, (["set", "more"] : List Str).map V.str, rfl, .inr (SqT.of upd_same), rfl, rfl, _, rfl, ?_⟩⟩
    have s1 := same_new (o := .tup ((["set", "more"] : List Str).map V.str)) n1
    have ML := M.same s1
    have MB := ML.box
    have ho1 := s1 _ _ ho
    have kk := k _ s1
    clear k
    rcases (show u = "set" ∨ u = "more" ∨ u = "copy" ∨ u = "add" ∨ u = "less" ∨ u = "load" ∨ u = "take" by simpa [seven] using hu7) with rfl | rfl | rfl | rfl | rfl | rfl | rfl
    · refine iteP (by decide +kernel) ?_
      refine ⟨_, rfl, _, rfl, _, rfl, m.p1, _, _, .int (z.bx b), rfl, rfl, SqL.of MB, ML.at hb, _, rfl, rfl, .inr ⟨_, rfl, _, _, rfl, rfl, .inr ⟨by decide, by decide⟩, _, _, rfl, rfl, ?_⟩⟩
      have e : v + z.bx b * (if decide (V.str "set" = V.str "more") = true then 1 else 0) = num "set" b v z := by
        rw [if_neg (by decide +kernel), num_set]
        omega
      exact (show Q (V.int (v + z.bx b * (if decide (V.str "set" = V.str "more") = true then 1 else 0))) _ from by rw [e]; exact kk)
    · refine iteP (by decide +kernel) ?_
      refine ⟨_, rfl, _, rfl, _, rfl, m.p1, _, _, .int (z.bx b), rfl, rfl, SqL.of MB, ML.at hb, _, rfl, rfl, .inr ⟨_, rfl, _, _, rfl, rfl, .inr ⟨by decide, by decide⟩, _, _, rfl, rfl, ?_⟩⟩
      have e : v + z.bx b * (if decide (V.str "more" = V.str "more") = true then 1 else 0) = num "more" b v z := by
        rw [if_pos (by decide +kernel), num_more]
        omega
      exact (show Q (V.int (v + z.bx b * (if decide (V.str "more" = V.str "more") = true then 1 else 0))) _ from by rw [e]; exact kk)
    · refine iteN (by decide +kernel) ?_
      rw [num_copy] at kk
      refine ⟨_, rfl, rfl, _, rfl, iteN (by decide +kernel) ?_⟩
      refine ⟨_, rfl, rfl, _, rfl, iteN (by decide +kernel) ?_⟩
      refine ⟨_, rfl, rfl, _, rfl, iteN (by decide +kernel) ?_⟩
      refine ⟨_, rfl, rfl, _, rfl, iteN (by decide +kernel) ?_⟩
      exact ⟨_, rfl, _, rfl, m.p1, _, _, .int (z.bx v), rfl, rfl, SqL.of MB, ML.at (hv (by decide +kernel)), kk⟩
    · refine iteN (by decide +kernel) ?_
      rw [num_add] at kk
      refine ⟨_, rfl, rfl, _, rfl, iteN (by decide +kernel) ?_⟩
      refine ⟨_, rfl, rfl, _, rfl, iteN (by decide +kernel) ?_⟩
      refine ⟨_, rfl, rfl, _, rfl, iteP (by decide +kernel) ?_⟩
      exact ⟨_, rfl, _, rfl, m.p1, _, _, .int (z.bx b), rfl, rfl, SqL.of MB, ML.at hb, _, rfl, _, rfl, m.p1, _, _, .int (z.bx v), rfl, rfl, SqL.of MB, ML.at (hv (by decide +kernel)), _, _, rfl, rfl, kk⟩
    · refine iteN (by decide +kernel) ?_
      rw [num_less] at kk
      refine ⟨_, rfl, rfl, _, rfl, iteN (by decide +kernel) ?_⟩
      refine ⟨_, rfl, rfl, _, rfl, iteN (by decide +kernel) ?_⟩
      refine ⟨_, rfl, rfl, _, rfl, iteN (by decide +kernel) ?_⟩
      refine ⟨_, rfl, rfl, _, rfl, iteP (by decide +kernel) ?_⟩
      exact ⟨_, rfl, _, rfl, m.p1, _, _, .int (z.bx b), rfl, rfl, SqL.of MB, ML.at hb, _, rfl, _, rfl, m.p1, _, _, .int (z.bx v), rfl, rfl, SqL.of MB, ML.at (hv (by decide +kernel)), _, _, rfl, rfl, kk⟩
    · refine iteN (by decide +kernel) ?_
      rw [num_load] at kk
      refine ⟨_, rfl, rfl, _, rfl, iteN (by decide +kernel) ?_⟩
      refine ⟨_, rfl, rfl, _, rfl, iteP (by decide +kernel) ?_⟩
      obtain ⟨d, hd, hz, _⟩ := ML.cell
      refine ⟨_, rfl, a, _, rfl, dget ho1 l_cel, m.p2, rfl, .inl ⟨_, .inl hd⟩, _, rfl, _, rfl, m.p1, _, _, .int (z.bx v), rfl, rfl, SqL.of MB, ML.at (hv (by decide +kernel)), _, DGet.k (k := Sum.inl (z.bx v)) hd, ?_⟩
      rw [hz.rep.val]
      exact kk
    · refine iteN (by decide +kernel) ?_
      rw [num_take] at kk
      refine ⟨_, rfl, rfl, _, rfl, iteP (by decide +kernel) ?_⟩
      obtain ⟨d, hd, hz, _⟩ := ML.asd
      refine ⟨_, rfl, a, _, rfl, dget ho1 l_asd, m.p3, rfl, .inl ⟨_, .inl hd⟩, _, rfl, _, DGet.k (k := Sum.inl v) hd, ?_⟩
      rw [hz.rep.val]
      exact kk
end
end My


set_option Elab.async false
set_option linter.all false
set_option maxRecDepth 100000
set_option maxHeartbeats 4000000
namespace My
open PySem L2
theorem cut_set (bs : List Int) (b y : Int) (hb : Bx b) (h8 : bs.length = 8) : cutV (bs.map V.int) none (some b) ++ [V.int y] ++ cutV (bs.map V.int) (some (b + 1)) none = (bs.set b.toNat y).map V.int := by
  obtain ⟨j, rfl⟩ := Int.eq_ofNat_of_zero_le hb.1
  have hj : j < 8 := by have := hb.2; omega
  have e1 : cutV (bs.map V.int) none (some (j : Int)) = (bs.take j).map V.int := by
    unfold cutV
    rw [HT.sIx_nat, show HT.sIx (bs.map V.int).length 0 none = 0 from rfl, List.length_map, h8, Nat.min_eq_left (by omega)]
    simp [List.map_take]
  have e2 : cutV (bs.map V.int) (some ((j : Int) + 1)) none = (bs.drop (j + 1)).map V.int := by
    unfold cutV
    rw [show ((j : Int) + 1) = ((j + 1 : Nat) : Int) by omega, HT.sIx_nat, List.length_map, h8, Nat.min_eq_left (by omega), show HT.sIx 8 8 none = 8 from rfl, List.take_of_length_le (by simp [h8])]
    simp [List.map_drop]
  rw [e1, e2, Int.toNat_natCast, List.set_eq_take_append_cons_drop, if_pos (by omega)]
  simp
theorem SeenAt.snoc {H : Hp} {ps : List Addr} {sn : List (Int × Int)} {t : Addr} {p : Int × Int} (h : SeenAt H ps sn) (ht : H t = some (.tup [.int p.1, .int p.2])) : SeenAt H (ps ++ [t]) (sn ++ [p]) := by
  have := PairsAt.snoc (H := H) (ts := ps) (ps := sn) (t := t) (p := p) h ht
  exact this
/-- what a step of the law's own machine leaves -/
structure LNext (H H' : Hp) (a : Addr) (m m' : LA) : Prop where
  kp : Keeps (LOwn m a) H H'
  e4 : m'.p4 = m.p4
  e5 : m'.p5 = m.p5
  e6 : m'.p6 = m.p6
  reg : ∀ c, LReg m' a c → LReg m a c ∨ H c = none
theorem LNext.of {H H' : Hp} {a : Addr} {m : LA} (k : Keeps (LOwn m a) H H') : LNext H H' a m m := ⟨k, rfl, rfl, rfl, fun _ h => .inl h⟩
theorem LNext.then {H H1 H2 : Hp} {a : Addr} {m m1 : LA} (x : LNext H H1 a m m1) (k : Keeps (LOwn m a) H1 H2) : LNext H H2 a m m1 := ⟨x.kp.trans k, x.e4, x.e5, x.e6, x.reg⟩
section
variable {P : Program} {w : World} {K : PySem.W.Frag} {mg : Str → Option Value} {base : Heap}
/-! ### rows that go straight on -/
def Straight : Rw → Prop
  | .two _ _ _ => True
  | .tell _ => True
  | _ => False
def spStraight : Sp := fun vs H Q _ => ∃ (a q : Addr) (m : LA) (B : Nat) (z : Zt) (h n : Int) (r : Rw) (ring : Int → Bool), vs = [.ref a, .ref q] ∧ LS H a m B z ∧ B < 900 ∧ z.here = .int h ∧ RowIs H q n r ∧ Straight r ∧
  ∀ m' H', LNext H H' a m m' → LS H' a m' (B + 1) (stepZ ring r h z) → Q .non H'
theorem scStraight : FnScope ["_law_state", "_law_row_here", "_law_here"] ["_law_state", "_law_row_here"] (defScope sStraight) := ⟨rfl, rfl, rfl, by decide +kernel, rfl, by decide +kernel, by decide +kernel⟩
theorem ok_straight {f fG fN : Addr} {fd fdG fdN : FuncData} (F : Fun K "_law_straight" "_law_straight" sStraight f fd) (T : Txt K mg)
    (GG : FnOk P w K mg base CX0 1 fG fdG ["_law_table", "_law_at", "_law_number_here"] spGiven) (kG : PySem.W.keepIn K (.ref fG) = true) (bG : Binds K fdG ["_law_table", "_law_at", "_law_number_here"] []) (mG : mg "_law_given" = some (.ref fG))
    (GN : FnOk P w K mg base CX0 1 fN fdN ["_law_state", "_law_row_here"] spNumber) (kN : PySem.W.keepIn K (.ref fN) = true) (bN : Binds K fdN ["_law_state", "_law_row_here"] []) (mN : mg "_law_number" = some (.ref fN)) : FnOk P w K mg base CX0 2 f fd ["_law_state", "_law_row_here"] spStraight := by
  refine F.ok scStraight (fun vs H Q E h => ?_) (fun cdv A outer s H vs Q E hr h => ?_)
  · obtain ⟨a, q, m, B, z, h, n, r, ring, rfl, _⟩ := h
    rfl
  · obtain ⟨a, q, m, B, z, h, n, r, ring, rfl, M0, hB, hh, hR, hst, k⟩ := h
    have M := M0.more (Nat.le_succ B) (by omega)
    have hu := hu_of hr
    obtain ⟨w0, ho, hw⟩ := M.st
    have lm := M0.lens
    have fin : ∀ (H1 : Hp) (m1 : LA) (z1 : Zt), LS H1 a m1 (B + 1) z1 → z1.here = .int h → { z1 with here := .int (h + 1) } = stepZ ring r h z → LNext H H1 a m m1 →
        sDPut (tVar 0) (tC (.str "row")) (tOp (rI0 fun i j => .int (i + j)) (tDGet (tVar 0) (tC (.str "row"))) (tC (.int 1))) { nx := fun _ H' => Q .non H', rt := Q } [some (.ref a), some (.ref q), some (.ref m.p1)] H1 := by
      intro H1 m1 z1 M1 e1 e2 nx
      obtain ⟨w1, ho1, hw1⟩ := M1.st
      refine ⟨_, rfl, a, z1.here, rfl, dget ho1 l_row, _, _, e1, rfl, _, rfl, a, _, rfl, DPut.k (k := Sum.inr "row") ho1 l_few, ?_⟩
      rw [u_row]
      have M2 := M1.put (h' := .int (h + 1)) (k' := z1.k) hw1
      exact k m1 _ (nx.then (Keeps.refl.upd ho1 (by intro _ z; cases z) (.inl rfl))) (e2 ▸ M2)
    refine ⟨_, (pss_cons (ps_set (i := 2) scStraight.nd rfl (Or.inl rfl) (pe_dget hu (pv 0) pe_str (fun _ _ => rfl)))
      (pss_cons (ps_if (pt_cmpR op_eq (pe_ix ix_tup (pv 1) pe_int (fun _ _ => rfl)) pe_str (nomark _)) (pss_one (ps_expr (pe_bm PySem.F.plainAttrs_list PySem.F.slot_list_append PySem.F.type_list_append mt_append (pe_dget hu (pv 0) pe_str (fun _ _ => rfl)) (pa_cons (pe_ix ix_list (pv 2) (pe_ix ix_tup (pv 1) pe_int (fun _ _ => rfl)) (fun _ _ => rfl)) pa_nil)))) (pss_one (ps_if (pt_cmpR op_eq (pe_ix ix_tup (pv 1) pe_int (fun _ _ => rfl)) pe_str (nomark _)) (pss_one (ps_expr (pe_bm PySem.F.plainAttrs_list PySem.F.slot_list_append PySem.F.type_list_append mt_append (pe_dget hu (pv 0) pe_str (fun _ _ => rfl)) (pa_cons (pe_tup (pa_cons (pe_ix ix_tup (pv 1) pe_int (fun _ _ => rfl)) (pa_cons (pe_ix ix_list (pv 2) (pe_ix ix_tup (pv 1) pe_int (fun _ _ => rfl)) (fun _ _ => rfl)) pa_nil))) pa_nil)))) (pss_one (ps_if (pt_cmpR op_eq (pe_ix ix_tup (pv 1) pe_int (fun _ _ => rfl)) pe_str (nomark _)) (pss_one (ps_dput hu (pv 0) pe_str (pe_call GG hr (by rfl) mG kG bG .nil pass0 (pa_cons (pe_dget hu (pv 0) pe_str (fun _ _ => rfl)) (pa_cons (pe_ix ix_tup (pv 1) pe_int (fun _ _ => rfl)) (pa_cons (pe_ix ix_list (pv 2) (pe_ix ix_tup (pv 1) pe_int (fun _ _ => rfl)) (fun _ _ => rfl)) pa_nil)))) rfl)) (pss_one (ps_if (pt_cmpR op_eq (pe_ix ix_tup (pv 1) pe_int (fun _ _ => rfl)) pe_str (nomark _)) (pss_one (ps_dput hu (pv 0) pe_str (pe_call GG hr (by rfl) mG kG bG .nil pass0 (pa_cons (pe_dget hu (pv 0) pe_str (fun _ _ => rfl)) (pa_cons (pe_ix ix_list (pv 2) (pe_ix ix_tup (pv 1) pe_int (fun _ _ => rfl)) (fun _ _ => rfl)) (pa_cons (pe_ix ix_list (pv 2) (pe_ix ix_tup (pv 1) pe_int (fun _ _ => rfl)) (fun _ _ => rfl)) pa_nil)))) rfl)) (pss_one (ps_dput hu (pv 0) pe_str (pe_op op_cat (pe_op op_cat (pe_slice sl_list (pv 2) po_none (po_some (pe_ix ix_tup (pv 1) pe_int (fun _ _ => rfl)))) (pe_lst (pa_cons (pe_call GN hr (by rfl) mN kN bN .nil pass0 (pa_cons (pv 0) (pa_cons (pv 1) pa_nil))) pa_nil))) (pe_slice sl_list (pv 2) (po_some (pe_op op_add (pe_ix ix_tup (pv 1) pe_int (fun _ _ => rfl)) pe_int)) po_none)) rfl)))))))))
      (pss_one (ps_dput hu (pv 0) pe_str (pe_op op_add (pe_dget hu (pv 0) pe_str (fun _ _ => rfl)) pe_int) rfl)))), ?_⟩
    refine ⟨_, rfl, a, _, rfl, dget ho l_box, ?_⟩
    have kx : Keeps (LOwn m a) H H := Keeps.refl
    cases r with
    | stop => exact hst.elim
    | back => exact hst.elim
    | halt v => exact hst.elim
    | jcm u t f => exact hst.elim
    | zb u b t f => exact hst.elim
    | table b ts => exact hst.elim
    | tell b =>
      obtain ⟨HQ, hb⟩ := hR
      refine ⟨_, rfl, q, _, _, _, rfl, rfl, SqT.of HQ, at0 _ _, rfl, _, rfl, iteP (by decide +kernel) ?_⟩
      refine ⟨_, rfl, a, _, rfl, dget ho l_told, .inl ⟨rfl, _, SqL.of M.told⟩, _, rfl, _, rfl, q, _, _, .int b, rfl, rfl, SqT.of HQ, at1 _ _ _, m.p1, _, _, .int (z.bx b), rfl, rfl, SqL.of M.box, M.at hb, m.p4, _, _, rfl, rfl, M.told, Nat.lt_of_le_of_lt (by rw [List.length_map]; exact lm.1) (show B < sizeLine from Nat.lt_trans hB (by decide)), ?_⟩
      rw [show z.told.map V.int ++ [V.int (z.bx b)] = (z.told ++ [z.bx b]).map V.int by simp]
      exact fin _ m _ (M.tolds (by simp; omega)) hh rfl (.of (kx.upd M.told (by intro _ z; cases z) (.inr (.inl rfl))))
    | two u b v =>
      obtain ⟨HQ, hu10, hb, hv⟩ := hR
      rcases (by decide +kernel : ∀ u ∈ ten, u ∈ seven ∨ u = "keep" ∨ u = "see" ∨ u = "put") u hu10 with h7 | rfl | rfl | rfl
      · obtain ⟨n1, n2, n3, n4⟩ := (by decide +kernel : ∀ u ∈ seven, ¬ u = "tell" ∧ ¬ u = "see" ∧ ¬ u = "put" ∧ ¬ u = "keep") u h7
        have hs : { { z with bs := z.bs.set b.toNat (num u b v z) } with here := .int (h + 1) } = stepZ ring (.two u b v) h z := by
          simp only [stepZ, if_neg n2, if_neg n3, if_neg n4]
        have ne : ∀ x : Str, ¬ u = x → ¬ decide (V.str u = V.str x) = true := fun x n e => n (strEq e)
        refine ⟨_, rfl, q, _, _, _, rfl, rfl, SqT.of HQ, at0 _ _, rfl, _, rfl, iteN (ne _ n1) ?_⟩
        refine ⟨_, rfl, q, _, _, _, rfl, rfl, SqT.of HQ, at0 _ _, rfl, _, rfl, iteN (ne _ n2) ?_⟩
        refine ⟨_, rfl, q, _, _, _, rfl, rfl, SqT.of HQ, at0 _ _, rfl, _, rfl, iteN (ne _ n3) ?_⟩
        refine ⟨_, rfl, q, _, _, _, rfl, rfl, SqT.of HQ, at0 _ _, rfl, _, rfl, iteN (ne _ n4) ?_⟩
        refine ⟨_, rfl, _, rfl, q, _, _, .int b, rfl, rfl, SqT.of HQ, at1 _ _ _, _, rfl, m.p1, _, rfl, SqL.of M.box, fun l1 g1 => ?_⟩
        have s1 := same_new (o := .lst (cutV (z.bs.map V.int) none (some b))) g1
        refine ⟨_, rfl, _, rfl, a, q, m, B + 1, z, u, b, v, rfl, M.same s1, s1 _ _ HQ, h7, hb, hv, fun H2 s2 => ⟨(by show 1 ≤ sizeLine; decide), fun l2 g2 => ?_⟩⟩
        have s3 := s2.trans (same_new (o := .lst [V.int (num u b v z)]) g2)
        have c8 : ∀ lo hi, (cutV (z.bs.map V.int) lo hi).length ≤ 8 := fun lo hi => by
          unfold cutV
          rw [List.length_take, List.length_drop, List.length_map, M.b8]
          omega
        refine ⟨l1, l2, _, _, rfl, rfl, s3 _ _ upd_same, upd_same, Nat.le_trans (Nat.add_le_add_right (c8 _ _) 1) (by decide), fun l3 g3 => ?_⟩
        have s4 := s1.trans (s3.trans (same_new (o := .lst (cutV (z.bs.map V.int) none (some b) ++ [V.int (num u b v z)])) g3))
        have HQ4 := s4 _ _ HQ
        refine ⟨_, rfl, _, rfl, q, _, _, .int b, rfl, rfl, SqT.of HQ4, at1 _ _ _, _, _, rfl, rfl, _, rfl, m.p1, _, rfl, SqL.of (s4 _ _ M.box), fun l4 g4 => ?_⟩
        refine ⟨l3, l4, _, _, rfl, rfl, at_new g4 upd_same, upd_same, Nat.le_trans (Nat.add_le_add (show (cutV (z.bs.map V.int) none (some b) ++ [V.int (num u b v z)]).length ≤ 9 by rw [List.length_append]; exact Nat.add_le_add_right (c8 _ _) 1) (c8 _ _)) (by decide), fun l5 g5 => ?_⟩
        have s5 := s4.trans ((same_new (o := .lst (cutV (z.bs.map V.int) (some (b + 1)) none)) g4).trans (same_new (o := .lst (cutV (z.bs.map V.int) none (some b) ++ [V.int (num u b v z)] ++ cutV (z.bs.map V.int) (some (b + 1)) none)) g5))
        refine ⟨_, rfl, a, _, rfl, DPut.k (k := Sum.inr "boxes") (s5 _ _ ho) l_few, ?_⟩
        rw [u_box]
        have f5 : H l5 = none := (s4.trans (same_new (o := .lst (cutV (z.bs.map V.int) (some (b + 1)) none)) g4)).free g5
        have M5 := M.same s5
        refine fin _ { m with p1 := l5 } { z with bs := z.bs.set b.toNat (num u b v z) } (M5.boxes (s5 _ _ ho) (hw.tups (.of s5)) ?_ (by rw [List.length_set]; exact M.b8) (ne_of_none M.told f5).symm ?_ (ne_of_none M.pil f5).symm) hh hs ?_
        · rw [← cut_set z.bs b _ hb M.b8]
          exact upd_same
        · obtain ⟨ps, s1', _⟩ := M.seen
          exact (ne_of_none s1' f5).symm
        · refine ⟨(Keeps.same s5).upd (s5 _ _ ho) (by intro _ z; cases z) (.inl rfl), rfl, rfl, rfl, ?_⟩
          rintro c (rfl | rfl | rfl | rfl | rfl | rfl | rfl)
          · exact .inl (.inl rfl)
          · exact .inr f5
          · exact .inl (.inr (.inr (.inl rfl)))
          · exact .inl (.inr (.inr (.inr (.inl rfl))))
          · exact .inl (.inr (.inr (.inr (.inr (.inl rfl)))))
          · exact .inl (.inr (.inr (.inr (.inr (.inr (.inl rfl))))))
          · exact .inl (.inr (.inr (.inr (.inr (.inr (.inr rfl))))))
      · refine ⟨_, rfl, q, _, _, _, rfl, rfl, SqT.of HQ, at0 _ _, rfl, _, rfl, iteN (by decide +kernel) ?_⟩
        refine ⟨_, rfl, q, _, _, _, rfl, rfl, SqT.of HQ, at0 _ _, rfl, _, rfl, iteN (by decide +kernel) ?_⟩
        refine ⟨_, rfl, q, _, _, _, rfl, rfl, SqT.of HQ, at0 _ _, rfl, _, rfl, iteN (by decide +kernel) ?_⟩
        refine ⟨_, rfl, q, _, _, _, rfl, rfl, SqT.of HQ, at0 _ _, rfl, _, rfl, iteP (by decide +kernel) ?_⟩
        obtain ⟨d, hd, hz, hdl⟩ := M0.cell
        refine ⟨_, rfl, a, _, rfl, dget ho l_cel, _, rfl, _, rfl, q, _, _, .int b, rfl, rfl, SqT.of HQ, at1 _ _ _, m.p1, _, _, .int (z.bx b), rfl, rfl, SqL.of M.box, M.at hb, _, rfl, _, rfl, q, _, _, .int v, rfl, rfl, SqT.of HQ, at2 _ _ _ _, m.p1, _, _, .int (z.bx v), rfl, rfl, SqL.of M.box, M.at (hv (by decide +kernel)), m.p2, d, z.cf, z.bx b, z.bx v, rfl, hd, hz.rep, by omega, fun l d' H1 s1 nl hl hz' hle => ?_⟩
        refine ⟨_, rfl, a, _, rfl, DPut.k (k := Sum.inr "cells") (s1 _ _ ho) l_few, ?_⟩
        rw [u_cel]
        refine fin _ { m with p2 := l } { z with cf := fput z.cf (z.bx b) (z.bx v) } ((M.same s1).cells (s1 _ _ ho) (hw.tups (.of s1)) hl hz' (by omega) (ne_of_none ho nl)) hh (st_keep (z := z)).symm ⟨(Keeps.same s1).upd (s1 _ _ ho) (by intro _ z; cases z) (.inl rfl), rfl, rfl, rfl, ?_⟩
        rintro c (rfl | rfl | rfl | rfl | rfl | rfl | rfl)
        · exact .inl (.inl rfl)
        · exact .inl (.inr (.inl rfl))
        · exact .inr nl
        · exact .inl (.inr (.inr (.inr (.inl rfl))))
        · exact .inl (.inr (.inr (.inr (.inr (.inl rfl)))))
        · exact .inl (.inr (.inr (.inr (.inr (.inr (.inl rfl))))))
        · exact .inl (.inr (.inr (.inr (.inr (.inr (.inr rfl))))))
      · refine ⟨_, rfl, q, _, _, _, rfl, rfl, SqT.of HQ, at0 _ _, rfl, _, rfl, iteN (by decide +kernel) ?_⟩
        refine ⟨_, rfl, q, _, _, _, rfl, rfl, SqT.of HQ, at0 _ _, rfl, _, rfl, iteP (by decide +kernel) ?_⟩
        obtain ⟨ps, hs, hps⟩ := M.seen
        refine ⟨_, rfl, a, _, rfl, dget ho l_seen, .inl ⟨rfl, _, SqL.of hs⟩, _, rfl, q, _, _, .int v, rfl, rfl, SqT.of HQ, at2 _ _ _ _, _, rfl, _, rfl, q, _, _, .int b, rfl, rfl, SqT.of HQ, at1 _ _ _, m.p1, _, _, .int (z.bx b), rfl, rfl, SqL.of M.box, M.at hb, (by show 2 ≤ sizeLine; decide), fun t nt => ⟨m.p5, _, _, rfl, rfl, at_new nt hs, Nat.lt_of_le_of_lt (by rw [List.length_map, hps.1]; exact lm.2.1) (show B < sizeLine from Nat.lt_trans hB (by decide)), ?_⟩⟩
        have s1 := same_new (o := .tup [V.int v, V.int (z.bx b)]) nt
        rw [show ps.map V.ref ++ [V.ref t] = (ps ++ [t]).map V.ref by simp]
        exact fin _ m { z with seen := z.seen ++ [(v, z.bx b)] } ((M.same s1).seens ((hps.tups (.of s1)).snoc (p := (v, z.bx b)) upd_same) (by simp; omega)) hh (st_see (z := z)).symm (.of ((Keeps.same s1).upd (at_new nt hs) (by intro _ z; cases z) (.inr (.inr (.inl rfl)))))
      · refine ⟨_, rfl, q, _, _, _, rfl, rfl, SqT.of HQ, at0 _ _, rfl, _, rfl, iteN (by decide +kernel) ?_⟩
        refine ⟨_, rfl, q, _, _, _, rfl, rfl, SqT.of HQ, at0 _ _, rfl, _, rfl, iteN (by decide +kernel) ?_⟩
        refine ⟨_, rfl, q, _, _, _, rfl, rfl, SqT.of HQ, at0 _ _, rfl, _, rfl, iteP (by decide +kernel) ?_⟩
        obtain ⟨d, hd, hz, hdl⟩ := M0.asd
        refine ⟨_, rfl, a, _, rfl, dget ho l_asd, _, rfl, q, _, _, .int v, rfl, rfl, SqT.of HQ, at2 _ _ _ _, _, rfl, _, rfl, q, _, _, .int b, rfl, rfl, SqT.of HQ, at1 _ _ _, m.p1, _, _, .int (z.bx b), rfl, rfl, SqL.of M.box, M.at hb, m.p3, d, z.af, v, z.bx b, rfl, hd, hz.rep, by omega, fun l d' H1 s1 nl hl hz' hle => ?_⟩
        refine ⟨_, rfl, a, _, rfl, DPut.k (k := Sum.inr "asides") (s1 _ _ ho) l_few, ?_⟩
        rw [u_asd]
        refine fin _ { m with p3 := l } { z with af := fput z.af v (z.bx b) } ((M.same s1).asids (s1 _ _ ho) (hw.tups (.of s1)) hl hz' (by omega) (ne_of_none ho nl)) hh (st_put (z := z)).symm ⟨(Keeps.same s1).upd (s1 _ _ ho) (by intro _ z; cases z) (.inl rfl), rfl, rfl, rfl, ?_⟩
        rintro c (rfl | rfl | rfl | rfl | rfl | rfl | rfl)
        · exact .inl (.inl rfl)
        · exact .inl (.inr (.inl rfl))
        · exact .inl (.inr (.inr (.inl rfl)))
        · exact .inr nl
        · exact .inl (.inr (.inr (.inr (.inr (.inl rfl)))))
        · exact .inl (.inr (.inr (.inr (.inr (.inr (.inl rfl))))))
        · exact .inl (.inr (.inr (.inr (.inr (.inr (.inr rfl))))))
end
end My


set_option Elab.async false
set_option linter.all false
set_option maxRecDepth 100000
set_option maxHeartbeats 4000000
namespace My
open PySem L2
theorem inV_int (i : Int) : ∀ l : List Int, inV (.int i) (l.map V.int) = decide (i ∈ l)
  | [] => rfl
  | x :: r => by
    have ih := inV_int i r
    unfold inV at ih ⊢
    rw [List.map_cons, List.any_cons, ih]
    show ((x == i) || _) = _
    by_cases h : x = i
    · subst h
      simp
    · have h' : ¬ i = x := fun e => h e.symm
      simp [h, h']
theorem flat_ints (l : List Int) : (l.map V.int).all flatV = true := by
  rw [List.all_eq_true]
  intro x hx
  obtain ⟨y, _, rfl⟩ := List.mem_map.mp hx
  rfl
theorem at_tgt (ts : List Int) (b : Int) (h : 0 ≤ b ∧ b < ts.length) : atI (ts.map V.int) b = some (.int (ts.getD b.toNat 0)) := by
  obtain ⟨j, rfl⟩ := Int.eq_ofNat_of_zero_le h.1
  have hj : j < ts.length := by omega
  refine atI_nat (j := j) ?_
  rw [List.getElem?_map, List.getElem?_eq_getElem hj, Int.toNat_natCast, List.getD_eq_getElem?_getD, List.getElem?_eq_getElem hj]
  rfl
theorem nin {u : Str} {L : List Str} (h : ¬ u ∈ L) : ¬ ((if false = true then !inV (.str u) (L.map V.str) else inV (.str u) (L.map V.str)) = true) := by
  rw [if_neg (by decide), inV_str]
  simpa using h
theorem yin {u : Str} {L : List Str} (h : u ∈ L) : (if false = true then !inV (.str u) (L.map V.str) else inV (.str u) (L.map V.str)) = true := by
  rw [if_neg (by decide), inV_str]
  exact decide_eq_true h
theorem neq {u x : Str} (h : ¬ u = x) : ¬ decide (V.str u = V.str x) = true := fun e => h (strEq e)
abbrev ringB (bells : List Int) : Int → Bool := fun j => decide (j ∈ bells)
section
variable {P : Program} {w : World} {K : PySem.W.Frag} {mg : Str → Option Value} {base : Heap}
/-! ### where a row leads -/
def Leads : Rw → Prop
  | .jcm _ _ _ => True
  | .zb _ _ _ _ => True
  | .table _ _ => True
  | _ => False
def spGoal : Sp := fun vs H Q _ => ∃ (a q lb : Addr) (m : LA) (B : Nat) (z : Zt) (h n : Int) (r : Rw) (bells : List Int), vs = [.ref a, .ref q, .ref lb] ∧ LS H a m B z ∧ B < 900 ∧ z.here = .int h ∧ RowIs H q n r ∧ Leads r ∧ H lb = some (.lst (bells.map V.int)) ∧
  ∀ (t : Int) (z' : Zt) (H' : Hp), { z' with here := .int t } = stepZ (ringB bells) r h z → z'.how = z.how → Keeps (LOwn m a) H H' → LS H' a m (B + 1) z' → Q (.int t) H'
theorem scGoal : FnScope ["_law_state", "_law_row_here", "_law_bells", "_law_behind", "_law_here"] ["_law_state", "_law_row_here", "_law_bells"] (defScope sGoal) := ⟨rfl, rfl, rfl, by decide +kernel, rfl, by decide +kernel, by decide +kernel⟩
theorem ok_goal {f : Addr} {fd : FuncData} (F : Fun K "_law_goal" "_law_goal" sGoal f fd) (T : Txt K mg) : FnOk P w K mg base CX0 1 f fd ["_law_state", "_law_row_here", "_law_bells"] spGoal := by
  refine F.ok scGoal (fun vs H Q E h => ?_) (fun cdv A outer s H vs Q E hr h => ?_)
  · obtain ⟨a, q, lb, m, B, z, h, n, r, bells, rfl, _⟩ := h
    rfl
  · obtain ⟨a, q, lb, m, B, z, h, n, r, bells, rfl, M0, hB, hh, hR, hst, hlb, k⟩ := h
    have M := M0.more (Nat.le_succ B) (by omega)
    have hu := hu_of hr
    obtain ⟨w0, ho, hw⟩ := M.st
    have lm := M0.lens
    refine ⟨_, (pss_cons (ps_set (i := 3) scGoal.nd rfl (Or.inl rfl) (pe_op op_add (pe_dget hu (pv 0) pe_str (fun _ _ => rfl)) pe_int))
      (pss_cons (ps_set (i := 4) scGoal.nd rfl (Or.inl rfl) (pe_dget hu (pv 0) pe_str (fun _ _ => rfl)))
      (pss_cons (ps_if (pt_cmpR op_eq (pe_ix ix_tup (pv 1) pe_int (fun _ _ => rfl)) pe_str (nomark _)) (pss_cons (ps_if (pt_cmpR op_in_rng (pe_ix ix_list (pv 4) (pe_ix ix_tup (pv 1) pe_int (fun _ _ => rfl)) (fun _ _ => rfl)) (pe_callTy call_range1 (by rfl) T.range bt_range (pa_cons (pe_callB call_len_seq (by rfl) T.len bt_len (pa_cons (pe_ix ix_tup (pv 1) pe_int (fun _ _ => rfl)) pa_nil)) pa_nil)) rfl) (pss_one (ps_ret (pe_ix ix_tup (pe_ix ix_tup (pv 1) pe_int (fun _ _ => rfl)) (pe_ix ix_list (pv 4) (pe_ix ix_tup (pv 1) pe_int (fun _ _ => rfl)) (fun _ _ => rfl)) (fun _ _ => rfl)))) pss_nil)
      (pss_one (ps_ret (pv 3)))) pss_nil)
      (pss_cons (ps_if (pt_cmpR op_eq (pe_ix ix_tup (pv 1) pe_int (fun _ _ => rfl)) pe_str (nomark _)) (pss_one (ps_ret (pe_ix ix_list (pe_lst (pa_cons (pv 3) (pa_cons (pe_ix ix_tup (pv 1) pe_int (fun _ _ => rfl)) pa_nil))) (pe_callTy call_int1 (by rfl) T.int bt_int (pa_cons (pe_cmpR op_eq (pe_ix ix_list (pv 4) (pe_ix ix_tup (pv 1) pe_int (fun _ _ => rfl)) (fun _ _ => rfl)) pe_int (nomark _)) pa_nil)) (fun _ _ => rfl)))) pss_nil)
      (pss_cons (ps_if (pt_cmpR op_eq (pe_ix ix_tup (pv 1) pe_int (fun _ _ => rfl)) pe_str (nomark _)) (pss_one (ps_ret (pe_ix ix_list (pe_lst (pa_cons (pv 3) (pa_cons (pe_ix ix_tup (pv 1) pe_int (fun _ _ => rfl)) pa_nil))) (pe_callTy call_int1 (by rfl) T.int bt_int (pa_cons (pe_cmpR op_lt (pe_ix ix_list (pv 4) (pe_ix ix_tup (pv 1) pe_int (fun _ _ => rfl)) (fun _ _ => rfl)) pe_int (nomark _)) pa_nil)) (fun _ _ => rfl)))) pss_nil)
      (pss_cons (ps_if (pt_cmpR op_eq (pe_ix ix_tup (pv 1) pe_int (fun _ _ => rfl)) pe_str (nomark _)) (pss_cons (ps_dput hu (pv 0) pe_str (pe_op op_add (pe_dget hu (pv 0) pe_str (fun _ _ => rfl)) pe_int) rfl)
      (pss_one (ps_if (pt_cmpR op_notIn_seq (pe_op op_sub (pe_dget hu (pv 0) pe_str (fun _ _ => rfl)) pe_int) (pv 2) rfl) (pss_one (ps_ret (pv 3))) pss_nil))) pss_nil)
      (pss_cons (ps_if (pt_cmpR op_ne (pe_ix ix_tup (pv 1) pe_int (fun _ _ => rfl)) pe_str (nomark _)) (pss_one (ps_expr (pe_bm PySem.F.plainAttrs_list PySem.F.slot_list_append PySem.F.type_list_append mt_append (pe_dget hu (pv 0) pe_str (fun _ _ => rfl)) (pa_cons (pv 3) pa_nil)))) pss_nil)
      (pss_one (ps_ret (pe_ix ix_tup (pv 1) pe_int (fun _ _ => rfl))))))))))), ?_⟩
    refine ⟨_, rfl, a, z.here, rfl, dget ho l_row, _, _, hh, rfl, ?_⟩
    refine ⟨_, rfl, a, _, rfl, dget ho l_box, ?_⟩
    have kx : Keeps (LOwn m a) H H := Keeps.refl
    cases r with
    | stop => exact hst.elim
    | back => exact hst.elim
    | halt v => exact hst.elim
    | two u b v => exact hst.elim
    | tell b => exact hst.elim
    | table b ts =>
      obtain ⟨p, HQ, hp, hb, ht⟩ := hR
      refine ⟨_, rfl, q, _, _, _, rfl, rfl, SqT.of HQ, at0 _ _, rfl, _, rfl, iteP (by decide +kernel) ?_⟩
      refine ⟨_, rfl, _, rfl, q, _, _, .int b, rfl, rfl, SqT.of HQ, at1 _ _ _, m.p1, _, _, .int (z.bx b), rfl, rfl, SqL.of M.box, M.at hb, _, rfl, q, _, _, .ref p, rfl, rfl, SqT.of HQ, at2 _ _ _ _, p, _, rfl, .inr (SqT.of hp), _, rfl, fun pr npr => ⟨_, pr, _, _, rfl, rfl, upd_same, _, rfl, ?_⟩⟩
      have s1 := same_new (o := .rng 0 ((ts.map V.int).length : Int)) npr
      have M1 := M.same s1
      refine ite2 (fun c => ?_) (fun c => ?_)
      · have c := of_decide_eq_true c
        rw [List.length_map] at c
        refine ⟨_, rfl, q, _, _, .ref p, rfl, rfl, SqT.of (s1 _ _ HQ), at2 _ _ _ _, _, rfl, _, rfl, q, _, _, .int b, rfl, rfl, SqT.of (s1 _ _ HQ), at1 _ _ _, m.p1, _, _, .int (z.bx b), rfl, rfl, SqL.of M1.box, M1.at hb, p, _, _, .int (ts.getD (z.bx b).toNat 0), rfl, rfl, SqT.of (s1 _ _ hp), at_tgt ts _ c, ?_⟩
        refine k _ z _ ?_ rfl (.same s1) M1
        show _ = ({ z with here := .int (if 0 ≤ z.bx b ∧ z.bx b < ts.length then ts.getD (z.bx b).toNat 0 else h + 1) } : Zt)
        rw [if_pos c]
      · have c : ¬ (0 ≤ z.bx b ∧ z.bx b < ts.length) := fun e => c (decide_eq_true (by rw [List.length_map]; exact e))
        refine ⟨_, rfl, ?_⟩
        refine k _ z _ ?_ rfl (.same s1) M1
        show _ = ({ z with here := .int (if 0 ≤ z.bx b ∧ z.bx b < ts.length then ts.getD (z.bx b).toNat 0 else h + 1) } : Zt)
        rw [if_neg c]
    | zb u b t f' =>
      obtain ⟨HQ, hz, hb, ht⟩ := hR
      rcases (show u = "zero" ∨ u = "below" by simpa [My.zb] using hz) with rfl | rfl
      · refine ⟨_, rfl, q, _, _, _, rfl, rfl, SqT.of HQ, at0 _ _, rfl, _, rfl, iteN (by decide +kernel) ?_⟩
        refine ⟨_, rfl, q, _, _, _, rfl, rfl, SqT.of HQ, at0 _ _, rfl, _, rfl, iteP (by decide +kernel) ?_⟩
        refine ⟨_, rfl, _, rfl, q, _, _, .int t, rfl, rfl, SqT.of HQ, at2 _ _ _ _, (by show 2 ≤ sizeLine; decide), fun l nl => ?_⟩
        have s1 := same_new (o := .lst [V.int (h + 1), V.int t]) nl
        have M1 := M.same s1
        refine ⟨_, rfl, _, rfl, q, _, _, .int b, rfl, rfl, SqT.of (s1 _ _ HQ), at1 _ _ _, m.p1, _, _, .int (z.bx b), rfl, rfl, SqL.of M1.box, M1.at hb, rfl, .inr ⟨_, rfl, l, _, _, .int (if z.bx b = 0 then t else h + 1), rfl, rfl, SqL.of upd_same, ?_, ?_⟩⟩
        · by_cases c : z.bx b = 0
          · rw [if_pos c, if_pos (by rw [c]; exact decide_eq_true rfl)]
            exact at1 _ _ _
          · rw [if_neg c, if_neg (fun e => c (V.int.inj (of_decide_eq_true e)))]
            exact at0 _ _
        · exact k _ z _ (st_zero (z := z)).symm rfl (.same s1) M1
      · refine ⟨_, rfl, q, _, _, _, rfl, rfl, SqT.of HQ, at0 _ _, rfl, _, rfl, iteN (by decide +kernel) ?_⟩
        refine ⟨_, rfl, q, _, _, _, rfl, rfl, SqT.of HQ, at0 _ _, rfl, _, rfl, iteN (by decide +kernel) ?_⟩
        refine ⟨_, rfl, q, _, _, _, rfl, rfl, SqT.of HQ, at0 _ _, rfl, _, rfl, iteP (by decide +kernel) ?_⟩
        refine ⟨_, rfl, _, rfl, q, _, _, .int t, rfl, rfl, SqT.of HQ, at2 _ _ _ _, (by show 2 ≤ sizeLine; decide), fun l nl => ?_⟩
        have s1 := same_new (o := .lst [V.int (h + 1), V.int t]) nl
        have M1 := M.same s1
        refine ⟨_, rfl, _, rfl, q, _, _, .int b, rfl, rfl, SqT.of (s1 _ _ HQ), at1 _ _ _, m.p1, _, _, .int (z.bx b), rfl, rfl, SqL.of M1.box, M1.at hb, _, _, rfl, rfl, .inr ⟨_, rfl, l, _, _, .int (if z.bx b < 0 then t else h + 1), rfl, rfl, SqL.of upd_same, ?_, ?_⟩⟩
        · by_cases c : z.bx b < 0
          · rw [if_pos c, if_pos (decide_eq_true c)]
            exact at1 _ _ _
          · rw [if_neg c, if_neg (fun e => c (of_decide_eq_true e))]
            exact at0 _ _
        · exact k _ z _ (st_below (z := z)).symm rfl (.same s1) M1
    | jcm u t f' =>
      obtain ⟨HQ, hj, ht⟩ := hR
      rcases (show u = "jump" ∨ u = "call" ∨ u = "mark" by simpa [My.jcm] using hj) with rfl | rfl | rfl
      · refine ⟨_, rfl, q, _, _, _, rfl, rfl, SqT.of HQ, at0 _ _, rfl, _, rfl, iteN (by decide +kernel) ?_⟩
        refine ⟨_, rfl, q, _, _, _, rfl, rfl, SqT.of HQ, at0 _ _, rfl, _, rfl, iteN (by decide +kernel) ?_⟩
        refine ⟨_, rfl, q, _, _, _, rfl, rfl, SqT.of HQ, at0 _ _, rfl, _, rfl, iteN (by decide +kernel) ?_⟩
        refine ⟨_, rfl, q, _, _, _, rfl, rfl, SqT.of HQ, at0 _ _, rfl, _, rfl, iteN (by decide +kernel) ?_⟩
        refine ⟨_, rfl, q, _, _, _, rfl, rfl, SqT.of HQ, at0 _ _, rfl, _, rfl, iteN (by decide +kernel) ?_⟩
        exact ⟨_, rfl, q, _, _, .int t, rfl, rfl, SqT.of HQ, at1 _ _ _, k _ z _ (st_jump (z := z)).symm rfl kx M⟩
      · refine ⟨_, rfl, q, _, _, _, rfl, rfl, SqT.of HQ, at0 _ _, rfl, _, rfl, iteN (by decide +kernel) ?_⟩
        refine ⟨_, rfl, q, _, _, _, rfl, rfl, SqT.of HQ, at0 _ _, rfl, _, rfl, iteN (by decide +kernel) ?_⟩
        refine ⟨_, rfl, q, _, _, _, rfl, rfl, SqT.of HQ, at0 _ _, rfl, _, rfl, iteN (by decide +kernel) ?_⟩
        refine ⟨_, rfl, q, _, _, _, rfl, rfl, SqT.of HQ, at0 _ _, rfl, _, rfl, iteN (by decide +kernel) ?_⟩
        refine ⟨_, rfl, q, _, _, _, rfl, rfl, SqT.of HQ, at0 _ _, rfl, _, rfl, iteP (by decide +kernel) ?_⟩
        refine ⟨_, rfl, a, _, rfl, dget ho l_pile, .inl ⟨rfl, _, SqL.of M.pil⟩, _, rfl, m.p6, _, _, rfl, rfl, M.pil, Nat.lt_of_le_of_lt (by rw [List.length_map]; exact lm.2.2) (show B < sizeLine from Nat.lt_trans hB (by decide)), ?_⟩
        rw [show z.pile.map V.int ++ [V.int (h + 1)] = (z.pile ++ [h + 1]).map V.int by simp]
        have k2 := kx.upd (o' := .lst ((z.pile ++ [h + 1]).map V.int)) M.pil (by intro _ z; cases z) (.inr (.inr (.inr rfl)))
        exact ⟨_, rfl, q, _, _, .int t, rfl, rfl, SqT.of (k2.tups _ _ HQ), at1 _ _ _, k _ { z with pile := z.pile ++ [h + 1] } _ (st_call (z := z)).symm rfl k2 (M.piles (by simp; omega))⟩
      · refine ⟨_, rfl, q, _, _, _, rfl, rfl, SqT.of HQ, at0 _ _, rfl, _, rfl, iteN (by decide +kernel) ?_⟩
        refine ⟨_, rfl, q, _, _, _, rfl, rfl, SqT.of HQ, at0 _ _, rfl, _, rfl, iteN (by decide +kernel) ?_⟩
        refine ⟨_, rfl, q, _, _, _, rfl, rfl, SqT.of HQ, at0 _ _, rfl, _, rfl, iteN (by decide +kernel) ?_⟩
        refine ⟨_, rfl, q, _, _, _, rfl, rfl, SqT.of HQ, at0 _ _, rfl, _, rfl, iteP (by decide +kernel) ?_⟩
        refine ⟨_, rfl, a, _, rfl, dget ho l_pass, _, _, rfl, rfl, _, rfl, a, _, rfl, DPut.k (k := Sum.inr "passed") ho l_few, ?_⟩
        rw [u_pass]
        have k1 := kx.upd (o' := .dK (ld m z.here w0 (z.k + 1))) ho (by intro _ z; cases z) (.inl rfl)
        have M1 := M.put (h' := z.here) (k' := z.k + 1) hw
        have lba : lb ≠ a := ne_of hlb ho (by intro z; cases z)
        have hlb1 : upd H a (.dK (ld m z.here w0 (z.k + 1))) lb = some (.lst (bells.map V.int)) := by rw [upd_ne lba]; exact hlb
        refine ⟨_, rfl, a, _, rfl, dget upd_same l_pass, _, _, rfl, rfl, _, rfl, lb, _, rfl, .inl (SqL.of hlb1), rfl, flat_ints _, _, rfl, ?_⟩
        rw [show (if true = true then !inV (V.int (z.k + 1 - 1)) (bells.map V.int) else inV (V.int (z.k + 1 - 1)) (bells.map V.int)) = !decide (z.k ∈ bells) from by rw [if_pos rfl, inV_int, show z.k + 1 - 1 = z.k by omega]]
        refine ite2 (fun c => ?_) (fun c => ?_)
        · have c : ¬ z.k ∈ bells := by simpa using c
          exact ⟨_, rfl, k _ { z with k := z.k + 1 } _ (st_mark0 (z := z) (ring := ringB bells) (decide_eq_false c)).symm rfl k1 M1⟩
        · have c : z.k ∈ bells := by simpa using c
          have HQ1 := k1.tups _ _ HQ
          refine ⟨_, rfl, q, _, _, _, rfl, rfl, SqT.of HQ1, at0 _ _, rfl, _, rfl, iteP (by decide +kernel) ?_⟩
          refine ⟨_, rfl, a, _, rfl, dget upd_same l_pile, .inl ⟨rfl, _, SqL.of M1.pil⟩, _, rfl, m.p6, _, _, rfl, rfl, M1.pil, Nat.lt_of_le_of_lt (by rw [List.length_map]; exact lm.2.2) (show B < sizeLine from Nat.lt_trans hB (by decide)), ?_⟩
          rw [show z.pile.map V.int ++ [V.int (h + 1)] = (z.pile ++ [h + 1]).map V.int by simp]
          have k2 := k1.upd (o' := .lst ((z.pile ++ [h + 1]).map V.int)) M1.pil (by intro _ z; cases z) (.inr (.inr (.inr rfl)))
          exact ⟨_, rfl, q, _, _, .int t, rfl, rfl, SqT.of (k2.tups _ _ HQ), at1 _ _ _, k _ { z with pile := z.pile ++ [h + 1], k := z.k + 1 } _ (st_mark1 (z := z) (ring := ringB bells) (decide_eq_true c)).symm rfl k2 (M1.piles (p' := z.pile ++ [h + 1]) (by simp; omega))⟩
/-! ### a step of the law's own machine -/
def lead6 : List Str := ["jump", "zero", "below", "table", "call", "mark"]
def eleven : List Str := ["set", "more", "copy", "add", "less", "load", "keep", "see", "put", "take", "tell"]
theorem lead_word {H : Hp} {q : Addr} {n : Int} {rw : Rw} (hR : RowIs H q n rw) (h : Leads rw) : rw.word ∈ lead6 := by
  cases rw with
  | jcm u t f => exact (by decide +kernel : ∀ u ∈ My.jcm, u ∈ lead6) u hR.2.1
  | zb u b t f => exact (by decide +kernel : ∀ u ∈ My.zb, u ∈ lead6) u hR.2.1
  | table b ts => exact (by decide +kernel : ("table" : Str) ∈ lead6)
  | stop => exact h.elim
  | back => exact h.elim
  | halt v => exact h.elim
  | two u b v => exact h.elim
  | tell b => exact h.elim
theorem straight_word {H : Hp} {q : Addr} {n : Int} {rw : Rw} (hR : RowIs H q n rw) (h : Straight rw) : rw.word ∈ eleven := by
  cases rw with
  | two u b v => exact (by decide +kernel : ∀ u ∈ ten, u ∈ eleven) u hR.2.1
  | tell b => exact (by decide +kernel : ("tell" : Str) ∈ eleven)
  | stop => exact h.elim
  | back => exact h.elim
  | halt v => exact h.elim
  | jcm u t f => exact h.elim
  | zb u b t f => exact h.elim
  | table b ts => exact h.elim
theorem LNext.pre {H H1 H2 : Hp} {a : Addr} {m m1 : LA} (x : LNext H1 H2 a m m1) (s : Same H H1) : LNext H H2 a m m1 := ⟨(Keeps.same s).trans x.kp, x.e4, x.e5, x.e6, fun c h => (x.reg c h).imp id s.free⟩
def spStepL : Sp := fun vs H Q _ => ∃ (lr lb a q : Addr) (m : LA) (B : Nat) (z : Zt) (r : Nat) (n : Int) (rw : Rw) (bells : List Int) (rows : List V), vs = [.ref lr, .ref lb, .ref a] ∧ LS H a m B z ∧ B < 900 ∧ z.here = .int r ∧ H lr = some (.lst rows) ∧ rows[r]? = some (.ref q) ∧ RowIs H q n rw ∧ H lb = some (.lst (bells.map V.int)) ∧
  ∀ m' H', LNext H H' a m m' → LS H' a m' (B + 1) (stepZ (ringB bells) rw r z) → Q .non H'
theorem scStepL : FnScope ["_law_rows", "_law_bells", "_law_state", "_law_row_here"] ["_law_rows", "_law_bells", "_law_state"] (defScope sStepL) := ⟨rfl, rfl, rfl, by decide +kernel, rfl, by decide +kernel, by decide +kernel⟩
theorem ok_stepL {f fO fS : Addr} {fd fdO fdS : FuncData} (F : Fun K "_law_step" "_law_step" sStepL f fd) (T : Txt K mg)
    (GO : FnOk P w K mg base CX0 1 fO fdO ["_law_state", "_law_row_here", "_law_bells"] spGoal) (kO : PySem.W.keepIn K (.ref fO) = true) (bO : Binds K fdO ["_law_state", "_law_row_here", "_law_bells"] []) (mO : mg "_law_goal" = some (.ref fO))
    (GS : FnOk P w K mg base CX0 2 fS fdS ["_law_state", "_law_row_here"] spStraight) (kS : PySem.W.keepIn K (.ref fS) = true) (bS : Binds K fdS ["_law_state", "_law_row_here"] []) (mS : mg "_law_straight" = some (.ref fS)) : FnOk P w K mg base CX0 3 f fd ["_law_rows", "_law_bells", "_law_state"] spStepL := by
  refine F.ok scStepL (fun vs H Q E h => ?_) (fun cdv A outer s H vs Q E hr h => ?_)
  · obtain ⟨lr, lb, a, q, m, B, z, r, n, rw, bells, rows, rfl, _⟩ := h
    rfl
  · obtain ⟨lr, lb, a, q, m, B, z, r, n, rw, bells, rows, rfl, M0, hB, hh, hlr, hrow, hR, hlb, k⟩ := h
    have M := M0.more (Nat.le_succ B) (by omega)
    have hu := hu_of hr
    have hu0 := hr.units0
    have hr1 := hr.mono (show 1 ≤ 2 by decide)
    obtain ⟨w0, ho, hw⟩ := M.st
    obtain ⟨items, HQ⟩ := hR.word
    refine ⟨_, (pss_cons (ps_set (i := 3) scStepL.nd rfl (Or.inl rfl) (pe_ix ix_list (pv 0) (pe_dget hu (pv 2) pe_str (fun _ _ => rfl)) (fun _ _ => rfl)))
      (pss_one (ps_if (pw_or (pt_cmpR op_in_seq (pe_ix ix_tup (pv 3) pe_int (fun _ _ => rfl)) (pe_tup (pa_cons pe_str (pa_cons pe_str pa_nil))) rfl) (pw_or1 (pw_and (pt_cmpR op_eq (pe_ix ix_tup (pv 3) pe_int (fun _ _ => rfl)) pe_str (nomark _)) (pw_and1 (pt_cmpR (op_eqL hu0) (pe_dget hu (pv 2) pe_str (fun _ _ => rfl)) (pe_lst pa_nil) (nomark _)))).pt)).pt (pss_cons (ps_dput hu (pv 2) pe_str pe_non rfl)
      (pss_one (ps_dput hu (pv 2) pe_str (pe_ix ix_list (pe_lst (pa_cons (pv 3) (pa_cons (pe_tup (pa_cons pe_str pa_nil)) pa_nil))) (pe_callTy call_int1 (by rfl) T.int bt_int (pa_cons (pe_cmpR op_eq (pe_ix ix_tup (pv 3) pe_int (fun _ _ => rfl)) pe_str (nomark _)) pa_nil)) (fun _ _ => rfl)) rfl))) (pss_one (ps_if (pt_cmpR op_eq (pe_ix ix_tup (pv 3) pe_int (fun _ _ => rfl)) pe_str (nomark _)) (pss_one (ps_dput hu (pv 2) pe_str (pe_bm0 PySem.F.plainAttrs_list PySem.F.slot_list_pop PySem.F.type_list_pop mt_pop (pe_dget hu (pv 2) pe_str (fun _ _ => rfl))) rfl)) (pss_one (ps_if (pt_cmpR op_in_seq (pe_ix ix_tup (pv 3) pe_int (fun _ _ => rfl)) (pe_tup (pa_cons pe_str (pa_cons pe_str (pa_cons pe_str (pa_cons pe_str (pa_cons pe_str (pa_cons pe_str pa_nil))))))) rfl) (pss_one (ps_dput hu (pv 2) pe_str (pe_call GO hr1 (by rfl) mO kO bO .nil pass0 (pa_cons (pv 2) (pa_cons (pv 3) (pa_cons (pv 1) pa_nil)))) rfl)) (pss_one (ps_expr (pe_call GS hr (by rfl) mS kS bS .nil pass0 (pa_cons (pv 2) (pa_cons (pv 3) pa_nil)))))))))))), ?_⟩
    refine ⟨_, rfl, _, rfl, a, z.here, rfl, dget ho l_row, lr, _, _, .ref q, rfl, hh, SqL.of hlr, atI_nat (j := r) hrow, ?_⟩
    refine ⟨_, rfl, q, _, _, .str rw.word, rfl, rfl, SqT.of HQ, at0 _ _, (by show 2 ≤ sizeLine; decide), fun t1 n1 => ⟨t1, (["stop", "halt"] : List Str).map V.str, rfl, .inr (SqT.of upd_same), rfl, rfl, _, rfl, ?_⟩⟩
    have s1 := same_new (o := .tup ((["stop", "halt"] : List Str).map V.str)) n1
    have M1 := M.same s1
    have ho1 := s1 _ _ ho
    have HQ1 := s1 _ _ HQ
    have hw1 := hw.tups (.of s1)
    have k1 : Keeps (LOwn m a) H _ := .same s1
    -- the end: where it stops, and how
    have fin : ∀ (H2 : Hp) (z2 : Zt) (v : V) (xs : List V), LS H2 a m (B + 1) z2 → HowIs H2 v (some xs) → Keeps (LOwn m a) H H2 → { z2 with how := some xs } = stepZ (ringB bells) rw r z → ∀ w2, H2 a = some (.dK (ld m z2.here w2 z2.k)) →
        ∃ a' H4, V.ref a = .ref a' ∧ DPut H2 a' (.str "ending") v H4 ∧ Q .non H4 := by
      intro H2 z2 v xs M2 hv k2 e2 w2 ho2
      refine ⟨a, _, rfl, DPut.k (k := Sum.inr "ending") ho2 l_few, ?_⟩
      rw [u_end]
      have M3 := M2.put (h' := z2.here) (k' := z2.k) hv
      exact k m _ (.of (k2.upd ho2 (by intro _ z; cases z) (.inl rfl))) (e2 ▸ M3)
    -- it ends: row None, then how
    have ends : ∀ (H2 : Hp) (z2 : Zt), Same (upd H t1 (.tup ((["stop", "halt"] : List Str).map V.str))) H2 → LS H2 a m (B + 1) z → ∀ (u : Str) (v0 : V) (xs : List V), rw.word = u → ((u = "back" ∧ xs = [.str "home"]) ∨ (¬ u = "back" ∧ H q = some (.tup xs))) → { z with here := .non, how := some xs } = stepZ (ringB bells) rw r z →
        tSeq (sDPut (tVar 2) (tC (.str "row")) (tC .non)) (sDPut (tVar 2) (tC (.str "ending")) (tOp (rIxL K) (tLst (tCons (tVar 3) (tCons (tTup (tCons (tC (.str "home")) tNil)) tNil))) (tCB (fun xs H Q => (∃ i, xs = [.int i] ∧ Q (.int i) H) ∨ ∃ k, xs = [.bl k] ∧ Q (.int (if k then 1 else 0)) H) (tCons (tOp rEq (tOp (rIxT K) (tVar 3) (tC (.int 0))) (tC (.str "back"))) tNil)))) { nx := fun _ H' => Q .non H', rt := Q } [some (.ref lr), some (.ref lb), some (.ref a), some (.ref q)] H2 := by
      intro H2 _ s2 M2 u _ xs hwd hx e2
      obtain ⟨w2, ho2, hw2⟩ := M2.st
      have sH := s1.trans s2
      refine ⟨_, rfl, a, _, rfl, DPut.k (k := Sum.inr "row") ho2 l_few, ?_⟩
      rw [u_row]
      have M3 := M2.put (h' := .non) (k' := z.k) hw2
      have k3 : Keeps (LOwn m a) H (upd H2 a (.dK (ld m .non w2 z.k))) := (Keeps.same sH).upd ho2 (by intro _ z; cases z) (.inl rfl)
      have HQ3 := k3.tups _ _ HQ
      refine ⟨_, rfl, (by show 1 ≤ sizeLine; decide), fun th nh => ⟨(by show 2 ≤ sizeLine; decide), fun ll nl => ?_⟩⟩
      have s4 := (same_new (o := .tup [V.str "home"]) nh).trans (same_new (o := .lst [V.ref q, V.ref th]) nl)
      refine ⟨_, rfl, q, _, _, .str rw.word, rfl, rfl, SqT.of (s4 _ _ HQ3), at0 _ _, rfl, .inr ⟨_, rfl, ll, _, _, .ref (if rw.word = "back" then th else q), rfl, rfl, SqL.of upd_same, ?_, _, rfl, ?_⟩⟩
      · by_cases c : rw.word = "back"
        · rw [if_pos c, if_pos (by rw [c]; exact decide_eq_true rfl)]
          exact at1 _ _ _
        · rw [if_neg c, if_neg (neq c)]
          exact at0 _ _
      · refine fin _ { z with here := .non } _ xs (M3.same s4) ?_ (k3.trans (.same s4)) e2 w2 (s4 _ _ upd_same)
        rcases hx with ⟨hb, rfl⟩ | ⟨hb, hq⟩
        · rw [if_pos (hwd.trans hb)]
          exact ⟨th, rfl, at_new nl upd_same⟩
        · rw [if_neg (fun e => hb (hwd.symm.trans e))]
          exact ⟨q, rfl, s4 _ _ (k3.tups _ _ hq)⟩
    by_cases hnL : Leads rw
    · obtain ⟨h1, h2⟩ := (by decide +kernel : ∀ u ∈ lead6, ¬ u ∈ (["stop", "halt"] : List Str) ∧ ¬ u = "back") _ (lead_word hR hnL)
      refine iteN (nin h1) ?_
      refine ⟨_, rfl, q, _, _, .str rw.word, rfl, rfl, SqT.of HQ1, at0 _ _, rfl, _, rfl, iteN (neq h2) ?_⟩
      refine iteF ?_
      refine ⟨_, rfl, q, _, _, .str rw.word, rfl, rfl, SqT.of HQ1, at0 _ _, rfl, _, rfl, iteN (neq h2) ?_⟩
      refine ⟨_, rfl, q, _, _, .str rw.word, rfl, rfl, SqT.of HQ1, at0 _ _, (by show 6 ≤ sizeLine; decide), fun t2 n2 => ⟨t2, lead6.map V.str, rfl, .inr (SqT.of upd_same), rfl, rfl, _, rfl, iteP (yin (lead_word hR hnL)) ?_⟩⟩
      have s2 := s1.trans (same_new (o := .tup (lead6.map V.str)) n2)
      refine ⟨_, rfl, _, rfl, _, rfl, a, q, lb, m, B, z, r, n, rw, bells, rfl, M0.same s2, hB, hh, hR.tups (.of s2), hnL, s2 _ _ hlb, fun t z' H' e1 e2 kp M' => ?_⟩
      obtain ⟨w', ho', hw'⟩ := M'.st
      refine ⟨_, rfl, a, _, rfl, DPut.k (k := Sum.inr "row") ho' l_few, ?_⟩
      rw [u_row]
      have M2 := M'.put (h' := .int t) (k' := z'.k) hw'
      exact k m _ (.of (((Keeps.same s2).trans kp).upd ho' (by intro _ z; cases z) (.inl rfl))) (e1 ▸ M2)
    by_cases hnS : Straight rw
    · obtain ⟨h1, h2, h3⟩ := (by decide +kernel : ∀ u ∈ eleven, ¬ u ∈ (["stop", "halt"] : List Str) ∧ ¬ u = "back" ∧ ¬ u ∈ lead6) _ (straight_word hR hnS)
      refine iteN (nin h1) ?_
      refine ⟨_, rfl, q, _, _, .str rw.word, rfl, rfl, SqT.of HQ1, at0 _ _, rfl, _, rfl, iteN (neq h2) ?_⟩
      refine iteF ?_
      refine ⟨_, rfl, q, _, _, .str rw.word, rfl, rfl, SqT.of HQ1, at0 _ _, rfl, _, rfl, iteN (neq h2) ?_⟩
      refine ⟨_, rfl, q, _, _, .str rw.word, rfl, rfl, SqT.of HQ1, at0 _ _, (by show 6 ≤ sizeLine; decide), fun t2 n2 => ⟨t2, lead6.map V.str, rfl, .inr (SqT.of upd_same), rfl, rfl, _, rfl, iteN (nin h3) ?_⟩⟩
      have s2 := s1.trans (same_new (o := .tup (lead6.map V.str)) n2)
      exact ⟨_, rfl, _, rfl, a, q, m, B, z, r, n, rw, ringB bells, rfl, M0.same s2, hB, hh, hR.tups (.of s2), hnS, fun m' H' nx M' => k m' H' (nx.pre s2) M'⟩
    cases rw with
    | stop =>
      refine iteP (yin (by decide +kernel)) ?_
      refine iteT ?_
      exact ends _ z (Same.refl _) M1 "stop" .non [.str "stop"] rfl (.inr ⟨by decide +kernel, hR⟩) rfl
    | halt v =>
      refine iteP (yin (show ("halt" : Str) ∈ (["stop", "halt"] : List Str) from by decide +kernel)) ?_
      refine iteT ?_
      exact ends _ z (Same.refl _) M1 "halt" .non [.str "halt", .int v] rfl (.inr ⟨by decide +kernel, hR⟩) rfl
    | back =>
      refine iteN (nin (by decide +kernel)) ?_
      refine ⟨_, rfl, q, _, _, _, rfl, rfl, SqT.of HQ1, at0 _ _, rfl, _, rfl, iteP (by decide +kernel) ?_⟩
      refine ⟨_, rfl, a, _, rfl, dget ho1 l_pile, (by show 0 ≤ sizeLine; decide), fun le ne => ?_⟩
      have s2 := same_new (o := .lst []) ne
      have M2 := M1.same s2
      refine ⟨m.p6, le, _, _, rfl, rfl, SqL.of M2.pil, SqL.of upd_same, (fun i x y hx hy => by simp at hy), _, rfl, ?_⟩
      refine ite2 (fun c => ?_) (fun c => ?_)
      · have c : z.pile = [] := by simpa using of_decide_eq_true c
        exact ends _ z s2 M2 "back" .non [.str "home"] rfl (.inl ⟨rfl, rfl⟩) (back_none (z := z) c).symm
      · have c : ¬ z.pile = [] := fun e => c (by rw [e]; exact decide_eq_true rfl)
        obtain ⟨p', y, e⟩ : ∃ p' y, z.pile = p' ++ [y] := by
          rcases List.eq_nil_or_concat z.pile with e | ⟨p', y, e⟩
          · exact absurd e c
          · exact ⟨p', y, by simpa using e⟩
        have HQ2 := s2 _ _ HQ1
        refine ⟨_, rfl, q, _, _, _, rfl, rfl, SqT.of HQ2, at0 _ _, rfl, _, rfl, iteP (by decide +kernel) ?_⟩
        refine ⟨_, rfl, a, _, rfl, dget (s2 _ _ ho1) l_pile, .inl ⟨rfl, _, SqL.of M2.pil⟩, m.p6, _, .int y, rfl, rfl, M2.pil, ?_, ?_⟩
        · rw [e]
          simp
        · have k2 : Keeps (LOwn m a) H _ := (k1.trans (.same s2)).upd (o' := .lst (z.pile.map V.int).dropLast) M2.pil (by intro _ z; cases z) (.inr (.inr (.inr rfl)))
          have e3 : (z.pile.map V.int).dropLast = p'.map V.int := by rw [e]; simp
          rw [e3] at k2 ⊢
          have M3 := M2.piles (p' := p') (by have := M0.lens.2.2; rw [e] at this; simp at this; omega)
          obtain ⟨w3, ho3, hw3⟩ := M3.st
          refine ⟨_, rfl, a, _, rfl, DPut.k (k := Sum.inr "row") ho3 l_few, ?_⟩
          rw [u_row]
          have M4 := M3.put (h' := .int y) (k' := z.k) hw3
          rw [back_at (z := z) e] at k
          exact k m _ (.of (k2.upd ho3 (by intro _ z; cases z) (.inl rfl))) M4
    | two u b v => exact absurd trivial hnS
    | tell b => exact absurd trivial hnS
    | jcm u t f' => exact absurd trivial hnL
    | zb u b t f' => exact absurd trivial hnL
    | table b ts => exact absurd trivial hnL
end
end My


set_option Elab.async false
set_option linter.all false
set_option maxRecDepth 100000
set_option maxHeartbeats 4000000
namespace My
open PySem L2
theorem op_fdivB {X : Cx} : OpR X (binaryOp .FloorDiv) (rI (fun _ j => 0 < j ∧ j < 18446744073709551616) fun i j => .int (i / j)) := opI fun i j _ _ _ _ _ hc q => by
  have h1 : (0 : Int) < j := hc.1
  have h2 : j < 18446744073709551616 := hc.2
  refine PyProof.Rows.floordiv_int (by omega) (by rw [Int.fdiv_eq_ediv_of_nonneg i (by omega)]; exact q) (.inl (PyProof.noPylong_of_log2 ?_))
  have h3 : j.natAbs.log2 < 64 := (Nat.log2_lt (by omega)).mpr (by omega)
  omega
theorem at_modI (l : List Int) (c n : Int) (hn : n = l.length) (h : 0 < n) : ∃ y, atI (l.map V.int) (c % n) = some (.int y) := by
  have h0 := Int.emod_nonneg c (Int.ne_of_gt h)
  have h1 := Int.emod_lt_of_pos c h
  obtain ⟨j, hj⟩ := Int.eq_ofNat_of_zero_le h0
  rw [hj]
  have hlt : j < l.length := by omega
  refine ⟨l[j], atI_nat (j := j) ?_⟩
  rw [List.getElem?_map, List.getElem?_eq_getElem hlt]
  rfl
section
variable {P : Program} {w : World} {K : PySem.W.Frag} {mg : Str → Option Value} {base : Heap}
/-! ### a beginning -/
def spBegin : Sp := fun vs H Q _ => ∃ (a : Addr) (ns : List Int) (k : Int), vs = [.ref a, .int k] ∧ SqL K H a (ns.map V.int) ∧ 0 ≤ k ∧
  ∀ (q lb lc ll : Addr) (bs bells : List Int) (d : List (Key × V)) (cf : Int → Int) (H' : Hp), Same H H' → H lb = none → H lc = none → H ll = none → lb ≠ ll → H' q = some (.tup [.ref lb, .ref lc, .ref ll]) → H' lb = some (.lst (bs.map V.int)) → bs.length = 8 → H' lc = some (.dK d) → Rep d cf → d.length ≤ 6 → H' ll = some (.lst (bells.map V.int)) → bells.length ≤ 7 → Q (.ref q) H'
theorem scBegin : FnScope ["_law_script", "_law_at", "_law_xs", "_law_boxes", "_law_k", "_law_far", "_law_cells", "_law_spot", "_law_bells"] ["_law_script", "_law_at"] (defScope sBegin) := ⟨rfl, rfl, rfl, by decide +kernel, rfl, by decide +kernel, by decide +kernel⟩
def csBeginC1 : Scope := { kind := .function, names := [(".0", .local), ("_law_k", .local), ("_law_xs", .free)], isGenerator := false, isCoroutine := false, more := [] }
theorem scBeginC1 : CompSc (defScope sBegin) csBeginC1 ["_law_script", "_law_at", "_law_xs", "_law_boxes", "_law_k", "_law_far", "_law_cells", "_law_spot", "_law_bells"] ["_law_k", "_law_xs"] [none, some 2] := ⟨rfl, by decide +kernel, by decide +kernel, by decide +kernel, by decide +kernel, by decide +kernel⟩
theorem ok_begin {f fD fC : Addr} {fd fdD fdC : FuncData} (F : Fun K "_law_beginning" "_law_beginning" sBegin f fd) (T : Txt K mg)
    (GD : FnOk P w K mg base CX0 1 fD fdD ["_law_cell", "_law_k", "_law_many"] spDraws) (kD : PySem.W.keepIn K (.ref fD) = true) (bD : Binds K fdD ["_law_cell", "_law_k", "_law_many"] []) (mD : mg "_law_draws" = some (.ref fD))
    (GC : FnOk P w K mg base CX0 1 fC fdC ["_law_script", "_law_k"] (spCell (K := K))) (kC : PySem.W.keepIn K (.ref fC) = true) (bC : Binds K fdC ["_law_script", "_law_k"] []) (mC : mg "_law_cell_at" = some (.ref fC)) : FnOk P w K mg base CX0 2 f fd ["_law_script", "_law_at"] (spBegin (K := K)) := by
  refine F.ok scBegin (fun vs H Q E h => ?_) (fun cdv A outer s H vs Q E hr h => ?_)
  · obtain ⟨a, ns, k, rfl, _⟩ := h
    rfl
  · obtain ⟨a, ns, k, rfl, hS, hk, z⟩ := h
    have hu := hu_of hr
    refine ⟨_, (pss_cons (ps_set (i := 2) scBegin.nd rfl (Or.inr rfl) (pe_call GD hr (by rfl) mD kD bD .nil pass0 (pa_cons (pe_call GC hr (by rfl) mC kC bC .nil pass0 (pa_cons (pv 0) (pa_cons (pv 1) pa_nil))) (pa_cons pe_int (pa_cons pe_int pa_nil)))))
      (pss_cons (ps_set (i := 3) scBegin.nd rfl (Or.inl rfl) (pe_lst pa_nil))
      (pss_cons (ps_for PassesOwn.never rfl (pi_range1 rfl T.range (pa_cons pe_int pa_nil)) (pg_name (i := 4) scBegin.nd rfl (Or.inl rfl)) (pss_cons (ps_set (i := 5) scBegin.nd rfl (Or.inl rfl) (pe_op op_sub (pe_op op_add (pe_op op_mul (pe_ix ix_list (pv 2) (pv 4) (fun _ _ => rfl)) (pe_op op_pow pe_int pe_int)) (pe_ix ix_list (pv 2) (pe_op op_add (pv 4) pe_int) (fun _ _ => rfl))) (pe_op op_pow pe_int pe_int)))
      (pss_one (ps_expr (pe_bm PySem.F.plainAttrs_list PySem.F.slot_list_append PySem.F.type_list_append mt_append (pv 3) (pa_cons (pe_ix ix_list (pe_lst (pa_cons (pe_op op_sub (pe_op op_mod (pe_ix ix_list (pv 2) (pv 4) (fun _ _ => rfl)) pe_int) pe_int) (pa_cons (pe_op op_sub (pe_op op_mod (pe_ix ix_list (pv 2) (pv 4) (fun _ _ => rfl)) pe_int) pe_int) (pa_cons (pv 5) pa_nil)))) (pe_op op_mod (pe_ix ix_list (pv 2) (pe_op op_add (pv 4) pe_int) (fun _ _ => rfl)) pe_int) (fun _ _ => rfl)) pa_nil))))))
      (pss_cons (ps_set (i := 6) scBegin.nd rfl (Or.inl rfl) pe_dnewK)
      (pss_cons (ps_for PassesOwn.never rfl (pi_range1 rfl T.range (pa_cons (pe_op op_mod (pe_ix ix_list (pv 2) pe_int (fun _ _ => rfl)) pe_int) pa_nil)) (pg_name (i := 4) scBegin.nd rfl (Or.inl rfl)) (pss_cons (ps_set (i := 7) scBegin.nd rfl (Or.inl rfl) (pe_ix ix_list (pe_lst (pa_cons (pe_op op_sub (pe_op op_mod (pe_ix ix_list (pv 2) (pe_op op_add pe_int (pv 4)) (fun _ _ => rfl)) pe_int) pe_int) (pa_cons (pe_op op_sub (pe_op op_mul (pe_ix ix_list (pv 2) (pe_op op_add pe_int (pv 4)) (fun _ _ => rfl)) (pe_op op_pow pe_int pe_int)) (pe_op op_pow pe_int pe_int)) pa_nil))) (pe_op op_mod (pe_op op_fdivB (pe_ix ix_list (pv 2) (pe_op op_add pe_int (pv 4)) (fun _ _ => rfl)) pe_int) pe_int) (fun _ _ => rfl)))
      (pss_one (ps_dput hu (pv 6) (pv 7) (pe_op op_sub (pe_op op_mod (pe_ix ix_list (pv 2) (pe_op op_add pe_int (pv 4)) (fun _ _ => rfl)) pe_int) pe_int) rfl))))
      (pss_cons (ps_comp (i := 8) (N' := ["_law_k", "_law_xs"]) (fr := [none, some 2]) scBegin.nd rfl rfl scBeginC1 rfl (pi_range1 rfl T.range (pa_cons (pe_op op_mod (pe_ix ix_list (pv 2) pe_int (fun _ _ => rfl)) pe_int) pa_nil)) (fun C s0 H0 fp => (pg_name (i := 0) scBeginC1.nd rfl (Or.inl rfl))) (fun C s0 H0 fp => pts_nil) (fun C s0 H0 fp => (pe_op op_sub (pe_op op_mod (pe_op op_fdivB (pe_ix (r := rIxL K) ix_list (pv 1) (pe_op op_add pe_int (pe_op op_mod (pv 0) pe_int)) (fun _ _ => rfl)) (pe_op op_add (pv 0) pe_int)) pe_int) pe_int)))
      (pss_one (ps_ret (pe_tup (pa_cons (pv 3) (pa_cons (pv 6) (pa_cons (pv 8) pa_nil)))))))))))), ?_⟩
    refine ⟨_, rfl, _, rfl, a, ns, k, rfl, hS, hk, fun c => ?_⟩
    refine ⟨c, 60, 32, rfl, by decide, by decide, fun x xs H1 s1 nx hx hlen => ?_⟩
    have hlen : xs.length = 32 := hlen
    have hat' : ∀ (i : Nat) (j : Int), j = i → i < 32 → atI (xs.map V.int) j = some (V.int (xs.getD i 0)) := fun i j e hi => by
      subst e
      refine atI_nat ?_
      have hi' : i < xs.length := by omega
      rw [List.getElem?_map, List.getElem?_eq_getElem hi', List.getD_eq_getElem?_getD, List.getElem?_eq_getElem hi']
      rfl
    refine ⟨(by show 0 ≤ sizeLine; decide), fun lb nb => ?_⟩
    have fb : H lb = none := s1.free nb
    refine ⟨8, rfl, by decide, by decide, for_range (n := 8) (fun i σ H2 => ∃ (bs : List Int) (v1 v2 : Option V), σ = [some (.ref a), some (.int k), some (.ref x), some (.ref lb), v1, v2, none, none, none] ∧ (∀ c o, c ≠ lb → H1 c = some o → H2 c = some o) ∧ H2 lb = some (.lst (bs.map V.int)) ∧ bs.length = i) ?_ ?_ ?_⟩
    · exact ⟨[], none, none, rfl, fun c o n e => at_new nb e, upd_same, rfl⟩
    · rintro i σ H2 hi ⟨bs, v1, v2, rfl, s2, h2, hl2⟩
      have xb : x ≠ lb := ne_of_none hx nb
      have hx2 := s2 _ _ xb hx
      refine ⟨_, rfl, _, rfl, x, _, _, .int (xs.getD (i) 0), rfl, rfl, SqL.of (hx2), (hat' (i) _ (by omega) (by omega)), _, _, rfl, rfl, ⟨by decide, by decide, by decide⟩, _, _, rfl, rfl, .inr ⟨by decide, by decide⟩, _, rfl, _, rfl, _, _, rfl, rfl, x, _, _, .int (xs.getD (i + 8) 0), rfl, rfl, SqL.of (hx2), (hat' (i + 8) _ (by omega) (by omega)), _, _, rfl, rfl, _, _, rfl, rfl, ⟨by decide, by decide, by decide⟩, _, _, rfl, rfl, ?_⟩
      refine ⟨_, rfl, .inl ⟨rfl, _, SqL.of h2⟩, _, rfl, _, rfl, x, _, _, .int (xs.getD (i) 0), rfl, rfl, SqL.of (hx2), (hat' (i) _ (by omega) (by omega)), _, _, rfl, rfl, (by show (0 : Int) < 5; decide), _, _, rfl, rfl, _, rfl, _, rfl, x, _, _, .int (xs.getD (i) 0), rfl, rfl, SqL.of (hx2), (hat' (i) _ (by omega) (by omega)), _, _, rfl, rfl, (by show (0 : Int) < 5; decide), _, _, rfl, rfl, _, rfl, (by show 3 ≤ sizeLine; decide), fun l3 n3 => ?_⟩
      obtain ⟨y, hy⟩ := at_modI [xs.getD i 0 % 5 - 2, xs.getD i 0 % 5 - 1, xs.getD i 0 * 10 ^ Int.toNat 12 + xs.getD (i + 8) 0 - 10 ^ Int.toNat 17] (xs.getD (i + 8) 0) 3 rfl (by decide)
      have l3b : lb ≠ l3 := ne_of_none h2 n3
      refine ⟨_, rfl, _, rfl, _, _, rfl, rfl, x, _, _, .int (xs.getD (i + 8) 0), rfl, rfl, SqL.of (at_new n3 hx2), (hat' (i + 8) _ (by omega) (by omega)), _, _, rfl, rfl, (by show (0 : Int) < 3; decide), l3, _, _, .int y, rfl, rfl, SqL.of upd_same, hy, lb, _, _, rfl, rfl, at_new n3 h2, small1000 (by rw [List.length_map]; omega), ?_⟩
      rw [show bs.map V.int ++ [V.int y] = (bs ++ [y]).map V.int by simp]
      exact ⟨bs ++ [y], _, _, rfl, fun c o n e => by rw [upd_ne n]; exact at_new n3 (s2 c o n e), upd_same, by simp [hl2]⟩
    · rintro σ H2 ⟨bs, v1, v2, rfl, s2, h2, hl2⟩
      have xb : x ≠ lb := ne_of_none hx nb
      have hx2 := s2 _ _ xb hx
      intro lc nc
      have sH2 : Same H H2 := fun c o e => s2 c o (ne_of_none e fb) (s1 c o e)
      have fc : H lc = none := sH2.free nc
      have bc : lb ≠ lc := ne_of_none h2 nc
      have s3 := same_new (o := .dK []) nc
      have r0 := Int.emod_nonneg (xs.getD 16 0) (show (6 : Int) ≠ 0 by decide)
      have r1 := Int.emod_lt_of_pos (xs.getD 16 0) (show (0 : Int) < 6 by decide)
      refine ⟨_, rfl, x, _, _, .int (xs.getD (16) 0), rfl, rfl, SqL.of (s3 _ _ hx2), (hat' (16) _ (by omega) (by omega)), _, _, rfl, rfl, (by show (0 : Int) < 6; decide), xs.getD 16 0 % 6, rfl, by omega, by omega, for_range (n := (xs.getD 16 0 % 6).toNat) (fun i σ H4 => ∃ (v1 v2 v3 : Option V) (d : List (Key × V)) (cf : Int → Int), σ = [some (.ref a), some (.int k), some (.ref x), some (.ref lb), v1, v2, some (.ref lc), v3, none] ∧ (∀ c o, c ≠ lc → H2 c = some o → H4 c = some o) ∧ H4 lc = some (.dK d) ∧ Rep d cf ∧ d.length ≤ i) ?_ ?_ ?_⟩
      · exact ⟨_, _, none, [], fun _ => 0, rfl, fun c o n e => at_new nc e, upd_same, Rep.nil, by simp⟩
      · rintro i σ H4 hi ⟨v1, v2, v3, d, cf, rfl, s4, h4, hrep, hdl⟩
        have xc : x ≠ lc := ne_of_none hx2 nc
        have hx4 := s4 _ _ xc hx2
        have hi6 : i < 6 := by omega
        refine ⟨_, rfl, _, rfl, _, _, rfl, rfl, x, _, _, .int (xs.getD (17 + i) 0), rfl, rfl, SqL.of (hx4), (hat' (17 + i) _ (by omega) (by omega)), _, _, rfl, rfl, (by show (0 : Int) < 7; decide), _, _, rfl, rfl, _, rfl, _, rfl, _, _, rfl, rfl, x, _, _, .int (xs.getD (17 + i) 0), rfl, rfl, SqL.of (hx4), (hat' (17 + i) _ (by omega) (by omega)), _, _, rfl, rfl, ⟨by decide, by decide, by decide⟩, _, _, rfl, rfl, .inr ⟨by decide, by decide⟩, _, _, rfl, rfl, ⟨by decide, by decide, by decide⟩, _, _, rfl, rfl, (by show 2 ≤ sizeLine; decide), fun l5 n5 => ?_⟩
        obtain ⟨y, hy⟩ := at_modI [xs.getD (17 + i) 0 % 7 - 2, xs.getD (17 + i) 0 * 10 ^ Int.toNat 9 - 10 ^ Int.toNat 15] (xs.getD (22 + i) 0 / 7) 2 rfl (by decide)
        have s5 := same_new (o := .lst [V.int (xs.getD (17 + i) 0 % 7 - 2), V.int (xs.getD (17 + i) 0 * 10 ^ Int.toNat 9 - 10 ^ Int.toNat 15)]) n5
        refine ⟨_, rfl, _, rfl, _, _, rfl, rfl, x, _, _, .int (xs.getD (22 + i) 0), rfl, rfl, SqL.of (s5 _ _ hx4), (hat' (22 + i) _ (by omega) (by omega)), _, _, rfl, rfl, ⟨by show (0 : Int) < 7; decide, by show (7 : Int) < _; decide⟩, _, _, rfl, rfl, (by show (0 : Int) < 2; decide), l5, _, _, .int y, rfl, rfl, SqL.of upd_same, hy, ?_⟩
        refine ⟨_, rfl, _, rfl, _, _, rfl, rfl, x, _, _, .int (xs.getD (22 + i) 0), rfl, rfl, SqL.of (s5 _ _ hx4), (hat' (22 + i) _ (by omega) (by omega)), _, _, rfl, rfl, (by show (0 : Int) < 9; decide), _, _, rfl, rfl, _, rfl, _, rfl, lc, _, rfl, DPut.k (k := Sum.inl y) (s5 _ _ h4) (small1000 (by omega)), ?_⟩
        exact ⟨_, _, _, _, _, rfl, fun c o n e => by rw [upd_ne n]; exact s5 _ _ (s4 c o n e), upd_same, hrep.put _ _, Nat.le_trans (length_putK _ _ _) (by omega)⟩
      · rintro σ H4 ⟨v1, v2, v3, d, cf, rfl, s4, h4, hrep, hdl⟩
        have xc : x ≠ lc := ne_of_none hx2 nc
        have hx4 := s4 _ _ xc hx2
        have hb4 := s4 _ _ bc h2
        have q0 := Int.emod_nonneg (xs.getD 31 0) (show (7 : Int) ≠ 0 by decide)
        have q1 := Int.emod_lt_of_pos (xs.getD 31 0) (show (0 : Int) < 7 by decide)
        refine ⟨_, rfl, x, _, _, .int (xs.getD (31) 0), rfl, rfl, SqL.of (hx4), (hat' (31) _ (by omega) (by omega)), _, _, rfl, rfl, (by show (0 : Int) < 7; decide), xs.getD 31 0 % 7, rfl, by omega, by omega, fun ll nl => comp_range (n := (xs.getD 31 0 % 7).toNat) (fun i σ ys H5 => ∃ (v : Option V) (bells : List Int), σ = [v, some (.ref x)] ∧ ys = bells.map V.int ∧ bells.length = i ∧ (∀ c o, c ≠ ll → H4 c = some o → H5 c = some o) ∧ H5 ll = some (.lst ys)) ?_ ?_ ?_⟩
        · exact ⟨none, [], rfl, rfl, rfl, fun c o n e => at_new nl e, upd_same⟩
        · rintro i σ ys H5 hi ⟨v, bells, rfl, rfl, hbl, s5, h5⟩
          have xl : x ≠ ll := ne_of_none hx4 nl
          have hx5 := s5 _ _ xl hx4
          have m0 := Int.emod_nonneg (0 + (i : Int)) (show (4 : Int) ≠ 0 by decide)
          have m1 := Int.emod_lt_of_pos (0 + (i : Int)) (show (0 : Int) < 4 by decide)
          obtain ⟨jj, hjj⟩ := Int.eq_ofNat_of_zero_le m0
          refine ⟨_, rfl, _, rfl, _, _, rfl, rfl, (by show (0 : Int) < 4; decide), _, _, rfl, rfl, x, _, _, .int (xs.getD (28 + jj) 0), rfl, rfl, SqL.of (hx5), (hat' (28 + jj) _ (by omega) (by omega)), _, rfl, _, _, rfl, rfl, _, _, rfl, rfl, ⟨by omega, by omega⟩, _, _, rfl, rfl, (by show (0 : Int) < 9; decide), _, _, rfl, rfl, h5, small1000 (by rw [List.length_map]; omega), ?_⟩
          refine ⟨_, bells ++ [_], rfl, (by rw [List.map_append]; rfl), by simp [hbl], fun c o n e => by rw [upd_ne n]; exact s5 c o n e, upd_same⟩
        · rintro σ ys H5 ⟨v, bells, rfl, rfl, hbl, s5, h5⟩
          have lbl : lb ≠ ll := ne_of_none hb4 nl
          have lcl : lc ≠ ll := ne_of_none h4 nl
          have sH4 : Same H H4 := fun c o e => s4 c o (ne_of_none e fc) (sH2 c o e)
          have fl : H ll = none := sH4.free nl
          have sH5 : Same H H5 := fun c o e => s5 c o (ne_of_none e fl) (sH4 c o e)
          refine ⟨_, rfl, _, rfl, _, rfl, (by show 3 ≤ sizeLine; decide), fun q nq => ?_⟩
          exact z q lb lc ll bs bells d cf _ (sH5.trans (same_new nq)) fb fc fl lbl upd_same (at_new nq (s5 _ _ lbl hb4)) hl2 (at_new nq (s5 _ _ lcl h4)) hrep (by omega) (at_new nq h5) (by omega)
end
end My


set_option Elab.async false
set_option linter.all false
set_option maxRecDepth 100000
set_option maxHeartbeats 4000000
namespace My
open PySem L2
theorem at_ne {H : Hp} {p c : Addr} {o u : HO} (n : c ≠ p) (h : H c = some u) : upd H p o c = some u := by
  rw [upd_ne n]
  exact h
theorem valV_none {kvs : List (Key × V)} {k : Key} (h : ¬ k ∈ kvs.map (·.1)) : valV kvs k = none := by
  cases e : valV kvs k with
  | none => rfl
  | some v =>
    exfalso
    have h2 : (kvs.any fun kv => decide (kv.1 = k)) = true := by rw [valV_any, e]; rfl
    obtain ⟨p, hp, hk⟩ := List.any_eq_true.mp h2
    exact h (List.mem_map.mpr ⟨p, hp, of_decide_eq_true hk⟩)
theorem merge_new : ∀ (more acc : List (Key × V)), ((acc ++ more).map (·.1)).Nodup → mergeK acc more = acc ++ more
  | [], acc, _ => by show acc = acc ++ []; simp
  | p :: r, acc, h => by
    have h1 : ¬ p.1 ∈ acc.map (·.1) := by
      rw [List.map_append, List.nodup_append] at h
      intro z
      exact h.2.2 p.1 z p.1 (by simp) rfl
    show mergeK (putK acc p.1 p.2) r = _
    rw [putK_new _ (valV_none h1)]
    have : acc ++ p :: r = acc ++ [(p.1, p.2)] ++ r := by simp
    rw [this] at h ⊢
    exact merge_new r _ h
section
variable {P : Program} {w : World} {K : PySem.W.Frag} {mg : Str → Option Value} {base : Heap}
/-! ### the law's own machine at its start -/
def spStart : Sp := fun vs H Q _ => ∃ (lb lc : Addr) (bs : List Int) (d : List (Key × V)) (cf : Int → Int), vs = [.ref lb, .ref lc] ∧ H lb = some (.lst (bs.map V.int)) ∧ bs.length = 8 ∧ H lc = some (.dK d) ∧ Rep d cf ∧ d.length ≤ 50 ∧
  ∀ (a : Addr) (m : LA) (H' : Hp), Same H H' → (∀ c, LReg m a c → H c = none) → LS H' a m 50 (z0 bs cf) → Q (.ref a) H'
theorem scStart : FnScope ["_law_boxes", "_law_cells", "_law_kept", "_law_state"] ["_law_boxes", "_law_cells"] (defScope sStart) := ⟨rfl, rfl, rfl, by decide +kernel, rfl, by decide +kernel, by decide +kernel⟩
def csStartC1 : Scope := { kind := .function, names := [(".0", .local), ("_law_at", .local), ("_law_number_here", .local)], isGenerator := false, isCoroutine := false, more := [] }
theorem scStartC1 : CompSc (defScope sStart) csStartC1 ["_law_boxes", "_law_cells", "_law_kept", "_law_state"] ["_law_at", "_law_number_here"] [none, none] := ⟨rfl, by decide +kernel, by decide +kernel, by decide +kernel, by decide +kernel, by decide +kernel⟩
abbrev fiveK (l1 lk l3 : Addr) : List (Key × V) := [(Sum.inr (Str.ofString "row"), V.int 0), (Sum.inr (Str.ofString "ending"), V.non), (Sum.inr (Str.ofString "boxes"), V.ref l1), (Sum.inr (Str.ofString "cells"), V.ref lk), (Sum.inr (Str.ofString "asides"), V.ref l3)]
abbrev fourK (l4 l5 l6 : Addr) : List (Key × V) := [(Sum.inr (Str.ofString "told"), V.ref l4), (Sum.inr (Str.ofString "seen"), V.ref l5), (Sum.inr (Str.ofString "pile"), V.ref l6), (Sum.inr (Str.ofString "passed"), V.int 0)]
theorem start_tail {lb lc lk a l1 l3 : Addr} {bs : List Int} {cf : Int → Int} {dk : List (Key × V)} {H G : Hp} {Q : VK} (b8 : bs.length = 8)
    (k : ∀ (a : Addr) (m : LA) (H' : Hp), Same H H' → (∀ (c : Addr), LReg m a c → H c = none) → LS H' a m 50 (z0 bs cf) → Q (V.ref a) H')
    (fk : H lk = none) (hz : NZ dk cf) (fl2 : dk.length ≤ 50) (sG : Same H G) (gk : G lk = some (HO.dK dk)) (na : G a = none) (n1 : upd G a (HO.dK []) l1 = none) (n3 : upd (upd G a (HO.dK [])) l1 (HO.lst (List.map V.int bs)) l3 = none) :
    gName 3 (V.ref a) [some (.ref lb), some (.ref lc), some (.ref lk), none] (upd (upd (upd (upd G a (HO.dK [])) l1 (HO.lst (List.map V.int bs))) l3 (HO.dK [])) a (HO.dK (mergeK [] (fiveK l1 lk l3))))
      (tSeq (tDrop (tBM K "dict" rUpd (tVar 3) (tCons (tDisp [(tC (V.str (Str.ofString "told")), tLst tNil), (tC (V.str (Str.ofString "seen")), tLst tNil), (tC (V.str (Str.ofString "pile")), tLst tNil), (tC (V.str (Str.ofString "passed")), tC (V.int 0))]) tNil))) (tRet (tVar 3)) { nx := fun x H' => Q V.non H', rt := Q }) := by
  have nd1 : (([] ++ fiveK l1 lk l3).map (fun x : Key × V => x.1)).Nodup := (show (([Sum.inr "row", Sum.inr "ending", Sum.inr "boxes", Sum.inr "cells", Sum.inr "asides"] : List Key)).Nodup by decide +kernel)
  rw [merge_new _ [] nd1]
  have fa : H a = none := sG.free na
  have nka : lk ≠ a := ne_of_none gk na
  have f1 : H l1 = none := (sG.trans (same_new na)).free n1
  have na1 : l1 ≠ a := (ne_of_none upd_same n1).symm
  have f3 : H l3 = none := (sG.trans ((same_new na).trans (same_new n1))).free n3
  have ga3 : upd (upd G a (.dK [])) l1 (.lst (bs.map V.int)) a = some (.dK []) := at_new n1 upd_same
  have na3 : l3 ≠ a := (ne_of_none ga3 n3).symm
  have g1 : upd G a (.dK []) lk = some (.dK dk) := at_new na gk
  have nk1 : lk ≠ l1 := ne_of_none g1 n1
  have nk3 : lk ≠ l3 := ne_of_none (at_new n1 g1) n3
  have n13 : l1 ≠ l3 := ne_of_none upd_same n3
  obtain ⟨M, eM⟩ : ∃ M, M = upd (upd (upd (upd G a (.dK [])) l1 (.lst (bs.map V.int))) l3 (.dK [])) a (.dK ([] ++ fiveK l1 lk l3)) := ⟨_, rfl⟩
  have ma : M a = some (.dK (fiveK l1 lk l3)) := by rw [eM]; exact upd_same
  have m1 : M l1 = some (.lst (bs.map V.int)) := by rw [eM]; exact at_ne na1 (at_new n3 upd_same)
  have m3 : M l3 = some (.dK []) := by rw [eM]; exact at_ne na3 upd_same
  have mk : M lk = some (.dK dk) := by rw [eM]; exact at_ne nka (at_new n3 (at_new n1 g1))
  have sM : Same H M := fun c u e => by
    have ca : c ≠ a := fun z => by rw [z, fa] at e; cases e
    rw [eM]
    exact at_ne ca (at_new n3 (at_new n1 (at_new na (sG _ _ e))))
  rw [← eM]
  clear eM
  refine ⟨_, rfl, .inr (.inr (.inl ⟨rfl, .inl ⟨_, ma⟩⟩)), ?_⟩
  intro p np
  refine ⟨Nat.zero_le _, fun l4 n4 => ⟨Nat.zero_le _, fun l5 n5 => ⟨Nat.zero_le _, fun l6 n6 => ⟨?_, fourK l4 l5 l6, rfl, (show 4 ≤ 15 by decide), ?_⟩⟩⟩⟩
  · exact at_new n6 (at_new n5 (at_new n4 upd_same))
  have nd2 : (([] ++ fourK l4 l5 l6).map (fun x : Key × V => x.1)).Nodup := (show (([Sum.inr "told", Sum.inr "seen", Sum.inr "pile", Sum.inr "passed"] : List Key)).Nodup by decide +kernel)
  rw [merge_new _ [] nd2]
  have q4 : l4 ≠ p := (ne_of_none upd_same n4).symm
  have q5 : l5 ≠ p := (ne_of_none (at_new n4 upd_same) n5).symm
  have q6 : l6 ≠ p := (ne_of_none (at_new n5 (at_new n4 upd_same)) n6).symm
  have q45 : l4 ≠ l5 := ne_of_none upd_same n5
  have q46 : l4 ≠ l6 := ne_of_none (at_new n5 upd_same) n6
  have q56 : l5 ≠ l6 := ne_of_none upd_same n6
  have s4 := (same_new (o := .dK []) np).trans (same_new (o := .lst []) n4)
  have s5 := s4.trans (same_new (o := .lst []) n5)
  have s6 := s5.trans (same_new (o := .lst []) n6)
  have e4 : H l4 = none := (sM.trans (same_new (o := .dK []) np)).free n4
  have e5 : H l5 = none := (sM.trans s4).free n5
  have e6 : H l6 = none := (sM.trans s5).free n6
  have ap : a ≠ p := ne_of_none ma np
  have u4 : a ≠ l4 := ne_of_none (at_new np ma) n4
  have u5 : a ≠ l5 := ne_of_none (s4 _ _ ma) n5
  have u6 : a ≠ l6 := ne_of_none (s5 _ _ ma) n6
  have w4 : l1 ≠ l4 := ne_of_none (at_new np m1) n4
  have w5 : l1 ≠ l5 := ne_of_none (s4 _ _ m1) n5
  have w6 : l1 ≠ l6 := ne_of_none (s5 _ _ m1) n6
  obtain ⟨N, eN⟩ : ∃ N, N = upd (upd (upd (upd (upd M p (.dK [])) l4 (.lst [])) l5 (.lst [])) l6 (.lst [])) p (.dK ([] ++ fourK l4 l5 l6)) := ⟨_, rfl⟩
  have sN : Same M N := fun c u e => by
    have cp : c ≠ p := fun z => by rw [z, np] at e; cases e
    rw [eN]
    exact at_ne cp (s6 _ _ e)
  have hp : N p = some (.dK (fourK l4 l5 l6)) := by rw [eN]; exact upd_same
  have h4 : N l4 = some (.lst []) := by rw [eN]; exact at_ne q4 (at_new n6 (at_new n5 upd_same))
  have h5 : N l5 = some (.lst []) := by rw [eN]; exact at_ne q5 (at_new n6 upd_same)
  have h6 : N l6 = some (.lst []) := by rw [eN]; exact at_ne q6 upd_same
  rw [← eN]
  have nd9 : ((fiveK l1 lk l3 ++ fourK l4 l5 l6).map (fun x : Key × V => x.1)).Nodup := show (lkeys.map (fun x => (Sum.inr x : Key))).Nodup by decide +kernel
  refine ⟨a, p, _, _, rfl, rfl, sN _ _ ma, hp, ap, (show 9 ≤ 1000 by decide), nd9, ?_⟩
  have S : Same H (upd N a (.dK (fiveK l1 lk l3 ++ fourK l4 l5 l6))) := fun c u e => at_ne (fun z => by rw [z, fa] at e; cases e) (sN _ _ (sM _ _ e))
  refine ⟨_, rfl, k a ⟨l1, lk, l3, l4, l5, l6⟩ _ S ?_ ?_⟩
  · rintro c (rfl | rfl | rfl | rfl | rfl | rfl | rfl) <;> assumption
  · exact ⟨⟨.non, upd_same, rfl⟩, at_ne na1 (sN _ _ m1), b8, ⟨dk, at_ne nka (sN _ _ mk), hz, fl2⟩, ⟨[], at_ne na3 (sN _ _ m3), (⟨Rep.nil, fun k v h => by simp at h⟩ : NZ [] _), Nat.zero_le _⟩, at_ne u4.symm h4, ⟨[], at_ne u5.symm h5, rfl, fun i p c e => by simp at e⟩, at_ne u6.symm h6, w4, w5, w6, q45, q46, q56, nka.symm, na3.symm, ⟨Nat.zero_le _, Nat.zero_le _, Nat.zero_le _⟩, by decide⟩
theorem ok_start {f : Addr} {fd : FuncData} (F : Fun K "_law_start" "_law_start" sStart f fd) (T : Txt K mg) : FnOk P w K mg base CX0 1 f fd ["_law_boxes", "_law_cells"] spStart := by
  refine F.ok scStart (fun vs H Q E h => ?_) (fun cdv A outer s H vs Q E hr h => ?_)
  · obtain ⟨lb, lc, bs, d, cf, rfl, _⟩ := h
    rfl
  · obtain ⟨lb, lc, bs, d, cf, rfl, hlb, b8, hlc, hrep, hdl, k⟩ := h
    have hu := hu_of hr
    obtain ⟨⟨kvs, rfl, hnd⟩, hval⟩ := id hrep
    have dl : (iD kvs).length = kvs.length := by unfold iD; rw [List.length_map]
    refine ⟨_, pss_cons (ps_set (i := 2) scStart.nd rfl (Or.inl rfl) (pe_callTy (call_dict_pairs rfl) (by rfl) T.dict bt_dict (pa_cons (pe_thaw (pe_comp (N' := ["_law_at", "_law_number_here"]) (fr := [none, none]) scStartC1 rfl (pi_items (pv 1)) (fun C s0 H0 fp => pg_two (K := K) (i := 0) (j := 1) rfl rfl scStartC1.nd rfl (Or.inl rfl) rfl (Or.inl rfl)) (fun C s0 H0 fp => pts_one (pt_cmpR op_ne (pv 1) pe_int (nomark _))) (fun C s0 H0 fp => pe_tup (pa_cons (pv 0) (pa_cons (pv 1) pa_nil))))) pa_nil)))
      (pss_cons (ps_set (i := 3) scStart.nd rfl (Or.inl rfl) (pe_disp (pps_cons pe_str pe_int (pps_cons pe_str pe_non (pps_cons pe_str (pe_callTy call_list_of (by rfl) T.list bt_list (pa_cons (pv 0) pa_nil)) (pps_cons pe_str (pv 2) (pps_cons pe_str pe_dnewK pps_nil))))) rfl rfl (List.cons_ne_nil _ _) (Nat.le_of_ble_eq_true rfl)))
      (pss_cons (ps_expr (pe_bm PySem.F.plainAttrs_dict PySem.F.slot_dict_update PySem.F.type_dict_update mt_update (pv 3) (pa_cons (pe_disp (pps_cons pe_str (pe_lst pa_nil) (pps_cons pe_str (pe_lst pa_nil) (pps_cons pe_str (pe_lst pa_nil) (pps_cons pe_str pe_int pps_nil)))) rfl rfl (List.cons_ne_nil _ _) (Nat.le_of_ble_eq_true rfl)) pa_nil)))
      (pss_one (ps_ret (pv 3))))), ?_⟩
    refine ⟨_, rfl, lc, _, rfl, hlc, fun o nf D nD => comp_items (fun i σ ys H' => ∃ (v1 v2 : Option V) (ts : List Addr), σ = [v1, v2] ∧ ys = ts.map V.ref ∧ H' lc = some (.frz o (.dK (iD kvs))) ∧ H' D = some (.lst ys) ∧ PairsAt H' ts ((kvs.take i).filter fun p => p.2 != 0) ∧ ∀ c u, c ≠ lc → H c = some u → H' c = some u) ?_ ?_ ?_ ?_⟩
    · have ne : lc ≠ D := ne_of_none upd_same nD
      refine ⟨none, none, [], rfl, rfl, ?_, upd_same, ⟨rfl, fun i t p h => by simp at h⟩, fun c u n e => ?_⟩
      · rw [upd_ne ne]
        exact upd_same
      · refine at_new nD ?_
        rw [upd_ne n]
        exact e
    · rintro i σ ys H' _ ⟨v1, v2, ts, rfl, rfl, h1, _⟩
      exact h1
    · rintro i kk y σ ys H' t he nt ⟨v1, v2, ts, rfl, rfl, h1, h2, h3, h4⟩
      have he' : (iD kvs)[i]? = some (kk, y) := he
      unfold iD at he'
      rw [List.getElem?_map] at he'
      obtain ⟨p, hp, hpe⟩ := Option.map_eq_some_iff.mp he'
      have hk : kk = Sum.inl p.1 := (congrArg Prod.fst hpe).symm
      have hy : y = V.int p.2 := (congrArg Prod.snd hpe).symm
      subst hk hy
      have hil := (List.getElem?_eq_some_iff.mp hp).1
      have s1 := same_new (o := .tup [kV (Sum.inl p.1), .int p.2]) nt
      have tk : kvs.take (i + 1) = kvs.take i ++ [p] := by rw [List.take_succ, hp]; rfl
      refine ⟨t, _, rfl, SqT.of upd_same, rfl, _, _, rfl, _, _, rfl, rfl, ?_⟩
      refine ⟨_, rfl, rfl, _, rfl, ?_⟩
      have tl : ts.length ≤ i := by
        rw [h3.1]
        exact Nat.le_trans (List.length_filter_le _ _) (by rw [List.length_take]; omega)
      have D1 : lc ≠ D := ne_of h1 h2 (by intro z; cases z)
      refine ite2 (fun c => ?_) (fun c => ?_)
      · have c : p.2 ≠ 0 := fun z => by rw [z] at c; exact absurd c (by decide)
        refine ⟨_, rfl, _, rfl, (by show 2 ≤ sizeLine; decide), fun t2 n2 => ⟨at_new n2 (s1 _ _ h2), small1000 (by rw [List.length_map]; omega), ?_⟩⟩
        have s2 := s1.trans (same_new (o := .tup [kV (Sum.inl p.1), .int p.2]) n2)
        have t2D : t2 ≠ D := (ne_of_none (s1 _ _ h2) n2).symm
        refine ⟨_, _, ts ++ [t2], rfl, by simp, ?_, upd_same, ?_, fun c u n e => ?_⟩
        · rw [upd_ne D1]
          exact s2 _ _ h1
        · rw [tk, List.filter_append, show [p].filter (fun p => p.2 != 0) = [p] by simp [c]]
          have T2 : SameT2 H' (upd (upd (upd H' t (.tup [kV (Sum.inl p.1), .int p.2])) t2 (.tup [kV (Sum.inl p.1), .int p.2])) D (.lst (ts.map V.ref ++ [V.ref t2]))) := fun b xs e => by
            rw [upd_ne (ne_of e h2 (by intro z; cases z))]
            exact s2 _ _ e
          refine (h3.tups T2).snoc ?_
          rw [upd_ne t2D]
          exact upd_same
        · have cD : c ≠ D := fun z => by
            rw [upd_ne D1.symm] at nD
            rw [z, nD] at e
            cases e
          rw [upd_ne cD]
          exact s2 _ _ (h4 c u n e)
      · have c : p.2 = 0 := by
          rcases Int.decEq p.2 0 with z | z
          · exact absurd (by simp [z]) c
          · exact z
        refine ⟨_, _, ts, rfl, rfl, s1 _ _ h1, s1 _ _ h2, ?_, fun c u n e => s1 _ _ (h4 c u n e)⟩
        rw [tk, List.filter_append, show [p].filter (fun p => p.2 != 0) = [] by simp [c], List.append_nil]
        exact h3.tups (.of s1)
    · rintro σ ys H1 ⟨v1, v2, ts, rfl, rfl, h1, h2, h3, h4⟩
      rw [dl, List.take_length] at h3
      have D1 : lc ≠ D := ne_of h1 h2 (by intro z; cases z)
      have fl : (kvs.filter fun p => p.2 != 0).length ≤ kvs.length := List.length_filter_le _ _
      refine ⟨lc, o, iD kvs, h1, nf, D, ts, iD (kvs.filter fun p => p.2 != 0), rfl, ?_, ?_, fun i t kk v a b => ?_, ?_, ?_, fun lk nk => ?_⟩
      · rw [upd_ne D1.symm]
        exact h2
      · rw [h3.1]
        unfold iD
        rw [List.length_map]
      · unfold iD at b
        rw [List.getElem?_map] at b
        obtain ⟨p, hp, hpe⟩ := Option.map_eq_some_iff.mp b
        have hk : kk = Sum.inl p.1 := (congrArg Prod.fst hpe).symm
        have hy : v = V.int p.2 := (congrArg Prod.snd hpe).symm
        subst hk hy
        have := h3.2 i t p a hp
        rw [upd_ne (ne_of this h1 (by intro z; cases z))]
        exact this
      · unfold iD
        rw [List.length_map]
        omega
      · unfold iD
        rw [List.map_map]
        have : ((fun x : Key × V => x.1) ∘ fun p : Int × Int => ((Sum.inl p.1 : Key), V.int p.2)) = (fun i : Int => (Sum.inl i : Key)) ∘ fun p : Int × Int => p.1 := rfl
        rw [this, ← List.map_map]
        exact (hnd.sublist (List.Sublist.map _ List.filter_sublist)).map _ (fun a b h e => h (Sum.inl.inj e))
      have s1 : Same H (upd H1 lc (.dK (iD kvs))) := fun c u e => by
        by_cases ca : c = lc
        · subst ca
          rw [hlc] at e
          rw [upd_same]
          exact e
        · rw [upd_ne ca]
          exact h4 c u ca e
      have fk : H lk = none := s1.free nk
      have hz : NZ (iD (kvs.filter fun p => p.2 != 0)) cf := NZ.filter hrep hnd
      have fl2 : (iD (kvs.filter fun p => p.2 != 0)).length ≤ 50 := by unfold iD; rw [List.length_map]; omega
      generalize iD (kvs.filter fun p => p.2 != 0) = dk at *
      obtain ⟨G, eG⟩ : ∃ G, G = upd (upd H1 lc (.dK (iD kvs))) lk (.dK dk) := ⟨_, rfl⟩
      have sG : Same H G := by rw [eG]; exact s1.trans (same_new nk)
      have gk : G lk = some (.dK dk) := by rw [eG]; exact upd_same
      rw [← eG]
      clear eG nk s1 h1 h2 h3 h4 D1
      have glb := sG _ _ hlb
      intro a na
      have fa : H a = none := sG.free na
      have nka : lk ≠ a := ne_of_none gk na
      refine ⟨_, rfl, lb, _, rfl, .inl (SqL.of (at_new na glb)), fun l1 n1 => ?_⟩
      have f1 : H l1 = none := (sG.trans (same_new na)).free n1
      have na1 : l1 ≠ a := (ne_of_none upd_same n1).symm
      refine ⟨_, rfl, fun l3 n3 => ?_⟩
      have f3 : H l3 = none := (sG.trans ((same_new na).trans (same_new n1))).free n3
      have ga3 : upd (upd G a (.dK [])) l1 (.lst (bs.map V.int)) a = some (.dK []) := at_new n1 upd_same
      have na3 : l3 ≠ a := (ne_of_none ga3 n3).symm
      exact ⟨at_new n3 ga3, fiveK l1 lk l3, rfl, (show 5 ≤ 15 by decide), start_tail b8 k fk hz fl2 sG gk na n1 n3⟩
end
end My


set_option Elab.async false
set_option linter.all false
set_option maxRecDepth 100000
set_option maxHeartbeats 4000000
namespace My
open PySem L2
def rIsi (K : PySem.W.Frag) : List V → Hp → VK → Prop := fun xs H Q => ∃ (x : V) (n : String) (t : Value) (b : Bool), xs = [x, .ty n] ∧ TyOf K H x t ∧ PySem.W.kitOne K t (.type n) = some b ∧ Q (.bl b) H
theorem no_row : ¬ ("row" : Str) ∈ names := by decide +kernel
theorem no_ending : ¬ ("ending" : Str) ∈ names := by decide +kernel
theorem no_boxes : ¬ ("boxes" : Str) ∈ names := by decide +kernel
theorem no_cells : ¬ ("cells" : Str) ∈ names := by decide +kernel
theorem no_asides : ¬ ("asides" : Str) ∈ names := by decide +kernel
theorem no_told : ¬ ("told" : Str) ∈ names := by decide +kernel
theorem no_seen : ¬ ("seen" : Str) ∈ names := by decide +kernel
theorem no_deep : ¬ ("deep" : Str) ∈ names := by decide +kernel
theorem no_passed : ¬ ("passed" : Str) ∈ names := by decide +kernel
theorem hu_of2 {A : Around} {k : Nat} (hr : Room k A) : A.units + 2 < cLine := Nat.lt_of_le_of_lt (Nat.add_le_add_left (by decide : 2 ≤ 64) _) hr.units
/-- what is told is made of plain things -/
def Zok (z : Zt) : Prop := (z.here = .non ∨ ∃ i, z.here = .int i) ∧ ∀ xs, z.how = some xs → ∀ y ∈ xs, Scal y
theorem eq_at {H : Hp} : ∀ {xs ys : List V}, Paired (EqV H) xs ys → xs.length = ys.length ∧ ∀ (i : Nat) a b, xs[i]? = some a → ys[i]? = some b → EqV H a b
  | _, _, .nil => ⟨rfl, fun i a b h => by simp at h⟩
  | _, _, .cons (a := x) (b := y) (l₁ := xs) (l₂ := ys) h t => by
    obtain ⟨l, g⟩ := eq_at t
    refine ⟨by simp [l], fun i a b ha hb => ?_⟩
    cases i with
    | zero =>
      have e1 : x = a := by simpa using ha
      have e2 : y = b := by simpa using hb
      exact e1 ▸ e2 ▸ h
    | succ i => exact g i a b (by simpa using ha) (by simpa using hb)
theorem scal_ints (l : List Int) : ∀ z ∈ l.map V.int, Scal z := fun z h => by
  obtain ⟨i, _, rfl⟩ := List.mem_map.mp h
  exact .inr (.inl ⟨i, rfl⟩)
theorem eq_int {H : Hp} (i : Int) : EqV H (.int i) (.int i) := .inl ⟨rfl, .inr (.inl ⟨i, rfl⟩)⟩
theorem eq_ints {H : Hp} {p q : Addr} {l : List Int} (h1 : H p = some (.lst (l.map V.int))) (h2 : H q = some (.lst (l.map V.int))) : EqV H (.ref p) (.ref q) := .inr (.inr (.inl ⟨p, q, _, rfl, rfl, h1, h2, scal_ints l⟩))
theorem eq_nz {H : Hp} {p q : Addr} {d e : List (Key × V)} {f : Int → Int} (h1 : H p = some (.dK d)) (h2 : H q = some (.dK e)) (z1 : NZ d f) (z2 : NZ e f) : EqV H (.ref p) (.ref q) := by
  obtain ⟨ka, kb, rfl, rfl, hl, hm⟩ := z1.sub z2
  exact .inr (.inr (.inr (.inr ⟨p, q, ka, kb, rfl, rfl, h1, h2, hl, hm⟩)))
theorem eq_how {H : Hp} {v w : V} {z : Zt} (hz : Zok z) (h1 : HowIs H v z.how) (h2 : HowIs H w z.how) : EqV H v w := by
  cases e : z.how with
  | none =>
    rw [e] at h1 h2
    cases h1
    cases h2
    exact .inl ⟨rfl, .inl rfl⟩
  | some xs =>
    rw [e] at h1 h2
    obtain ⟨p, rfl, hp⟩ := h1
    obtain ⟨q, rfl, hq⟩ := h2
    exact .inr (.inl ⟨p, q, xs, rfl, rfl, hp, hq, hz.2 xs e⟩)
theorem eq_seen {H : Hp} {p q : Addr} {ps qs : List Addr} {sn : List (Int × Int)} (h1 : H p = some (.lst (ps.map V.ref))) (h2 : H q = some (.lst (qs.map V.ref))) (z1 : SeenAt H ps sn) (z2 : SeenAt H qs sn) : EqV H (.ref p) (.ref q) := by
  refine .inr (.inr (.inr (.inl ⟨p, q, _, _, rfl, rfl, h1, h2, by rw [List.length_map, List.length_map, z1.1, z2.1], fun i a b ha hb => ?_⟩)))
  rw [List.getElem?_map] at ha hb
  obtain ⟨t, ht, rfl⟩ := Option.map_eq_some_iff.mp ha
  obtain ⟨u, hu, rfl⟩ := Option.map_eq_some_iff.mp hb
  have hi : i < sn.length := by rw [← z1.1]; exact (List.getElem?_eq_some_iff.mp ht).1
  have hc := List.getElem?_eq_getElem hi
  refine ⟨t, u, _, rfl, rfl, z1.2 i t _ ht hc, z2.2 i u _ hu hc, fun y hy => ?_⟩
  rcases (show y = V.int sn[i].1 ∨ y = V.int sn[i].2 by simpa using hy) with rfl | rfl
  · exact .inr (.inl ⟨_, rfl⟩)
  · exact .inr (.inl ⟨_, rfl⟩)
theorem SeenAt.same {H H' : Hp} {ps : List Addr} {sn : List (Int × Int)} (h : SeenAt H ps sn) (s : Same H H') : SeenAt H' ps sn := ⟨h.1, fun i p c a b => s _ _ (h.2 i p c a b)⟩
theorem HowIs.same {H H' : Hp} {v : V} {o : Option (List V)} (h : HowIs H v o) (s : Same H H') : HowIs H' v o := by
  cases o with
  | none => exact h
  | some xs =>
    obtain ⟨p, e, hp⟩ := h
    exact ⟨p, e, s _ _ hp⟩
section
variable {P : Program} {w : World} {K : PySem.W.Frag} {mg : Str → Option Value} {base : Heap}
/-- the nine things that the machine tells -/
structure Acc (P : Program) (w : World) (K : PySem.W.Frag) (mg : Str → Option Value) (base : Heap) (C : Addr) : Prop where
  T : MTx K mg C
  nonb : PySem.W.kitOne K (.type "NoneType") (.type "bool") = some false
  a0 : ∃ (f : Addr) (fd : FuncData), Meth K C "row" f ∧ FnOk P w K mg base CX0 1 f fd ["self"] (spHere C) ∧ Binds K fd ["self"] []
  a1 : ∃ (f : Addr) (fd : FuncData), Meth K C "ending" f ∧ FnOk P w K mg base CX0 1 f fd ["self"] (spEnding C) ∧ Binds K fd ["self"] []
  a2 : ∃ (f : Addr) (fd : FuncData), Meth K C "boxes" f ∧ FnOk P w K mg base CX0 1 f fd ["self"] (spBoxes C) ∧ Binds K fd ["self"] []
  a3 : ∃ (f : Addr) (fd : FuncData), Meth K C "cells" f ∧ FnOk P w K mg base CX0 2 f fd ["self"] (spCells C) ∧ Binds K fd ["self"] []
  a4 : ∃ (f : Addr) (fd : FuncData), Meth K C "asides" f ∧ FnOk P w K mg base CX0 2 f fd ["self"] (spAsides C) ∧ Binds K fd ["self"] []
  a5 : ∃ (f : Addr) (fd : FuncData), Meth K C "told" f ∧ FnOk P w K mg base CX0 1 f fd ["self"] (spTold C) ∧ Binds K fd ["self"] []
  a6 : ∃ (f : Addr) (fd : FuncData), Meth K C "seen" f ∧ FnOk P w K mg base CX0 1 f fd ["self"] (spSeen C) ∧ Binds K fd ["self"] []
  a7 : ∃ (f : Addr) (fd : FuncData), Meth K C "deep" f ∧ FnOk P w K mg base CX0 1 f fd ["self"] (spDeep C) ∧ Binds K fd ["self"] []
  a8 : ∃ (f : Addr) (fd : FuncData), Meth K C "passed" f ∧ FnOk P w K mg base CX0 1 f fd ["self"] (spPassed C) ∧ Binds K fd ["self"] []
/-! ### alike -/
def spAlike (C : Addr) : Sp := fun vs H Q _ => ∃ (x a : Addr) (m : MA) (l : LA) (rows : List V) (rung : List (Key × V)) (B B' : Nat) (z : Zt), vs = [.ref x, .ref a] ∧ MG C H x m rows rung B z ∧ LS H a l B' z ∧ Zok z ∧ ∀ H', Same H H' → Q (.bl true) H'
theorem scAlike : FnScope ["_law_machine", "_law_state", "_law_found", "_law_due"] ["_law_machine", "_law_state"] (defScope sAlike) := ⟨rfl, rfl, rfl, by decide +kernel, rfl, by decide +kernel, by decide +kernel⟩
def csAlikeC1 : Scope := { kind := .function, names := [(".0", .local), ("_law_thing", .local), ("isinstance", .globalImplicit), ("bool", .globalImplicit)], isGenerator := false, isCoroutine := false, more := [] }
theorem scAlikeC1 : CompSc (defScope sAlike) csAlikeC1 ["_law_machine", "_law_state", "_law_found", "_law_due"] ["_law_thing"] [none] := ⟨rfl, by decide +kernel, by decide +kernel, by decide +kernel, by decide +kernel, by decide +kernel⟩
theorem ok_alike {f C : Addr} {fd : FuncData} (F : Fun K "_law_alike" "_law_alike" sAlike f fd) (T : Txt K mg) (Z : Acc P w K mg base C) : FnOk P w K mg base CX0 3 f fd ["_law_machine", "_law_state"] (spAlike C) := by
  obtain ⟨TM, nonb, ⟨f0, fd0, M0, G0, b0⟩, ⟨f1, fd1, M1, G1, b1⟩, ⟨f2, fd2, M2, G2, b2⟩, ⟨f3, fd3, M3, G3, b3⟩, ⟨f4, fd4, M4, G4, b4⟩, ⟨f5, fd5, M5, G5, b5⟩, ⟨f6, fd6, M6, G6, b6⟩, ⟨f7, fd7, M7, G7, b7⟩, ⟨f8, fd8, M8, G8, b8⟩⟩ := Z
  refine F.ok scAlike (fun vs H Q E h => ?_) (fun cdv A outer s H vs Q E hr h => ?_)
  · obtain ⟨x, a, m, l, rows, rung, B, B', z, rfl, _⟩ := h
    rfl
  · obtain ⟨x, a, m, l, rows, rung, B, B', z, rfl, M, L, hz, k⟩ := h
    have hr1 := hr.mono (show 1 ≤ 2 by decide)
    have hu2 := hu_of2 hr
    have hu := hu_of hr
    obtain ⟨w0, ho, hw⟩ := M.obj
    obtain ⟨w1, hl, hw1⟩ := L.st
    refine ⟨_, (pss_cons (ps_set (i := 2) scAlike.nd rfl (Or.inl rfl) (pe_lst (pa_cons (pe_meth0 (pv 0) TM.cl M0 G0 hr1 b0 .nil pass0) (pa_cons (pe_meth0 (pv 0) TM.cl M1 G1 hr1 b1 .nil pass0) (pa_cons (pe_meth0 (pv 0) TM.cl M2 G2 hr1 b2 .nil pass0) (pa_cons (pe_meth0 (pv 0) TM.cl M3 G3 hr b3 .nil pass0) (pa_cons (pe_meth0 (pv 0) TM.cl M4 G4 hr b4 .nil pass0) pa_nil)))))))
      (pss_cons (ps_set (i := 2) scAlike.nd rfl (Or.inl rfl) (pe_op op_cat (pv 2) (pe_lst (pa_cons (pe_meth0 (pv 0) TM.cl M5 G5 hr1 b5 .nil pass0) (pa_cons (pe_meth0 (pv 0) TM.cl M6 G6 hr1 b6 .nil pass0) (pa_cons (pe_meth0 (pv 0) TM.cl M7 G7 hr1 b7 .nil pass0) (pa_cons (pe_meth0 (pv 0) TM.cl M8 G8 hr1 b8 .nil pass0) pa_nil)))))))
      (pss_cons (ps_set (i := 3) scAlike.nd rfl (Or.inl rfl) (pe_lst (pa_cons (pe_dget hu (pv 1) pe_str (fun _ _ => rfl)) (pa_cons (pe_dget hu (pv 1) pe_str (fun _ _ => rfl)) (pa_cons (pe_dget hu (pv 1) pe_str (fun _ _ => rfl)) (pa_cons (pe_dget hu (pv 1) pe_str (fun _ _ => rfl)) (pa_cons (pe_dget hu (pv 1) pe_str (fun _ _ => rfl)) pa_nil)))))))
      (pss_cons (ps_set (i := 3) scAlike.nd rfl (Or.inl rfl) (pe_op op_cat (pv 3) (pe_lst (pa_cons (pe_dget hu (pv 1) pe_str (fun _ _ => rfl)) (pa_cons (pe_dget hu (pv 1) pe_str (fun _ _ => rfl)) (pa_cons (pe_callB call_len_seq (by rfl) T.len bt_len (pa_cons (pe_dget hu (pv 1) pe_str (fun _ _ => rfl)) pa_nil)) (pa_cons (pe_dget hu (pv 1) pe_str (fun _ _ => rfl)) pa_nil)))))))
      (pss_cons (ps_if (pt_cmpR op_in_seq pe_bl (pe_comp (N' := ["_law_thing"]) (fr := [none]) scAlikeC1 rfl (pi_list (pe_lst (pa_cons (pe_ix ix_list (pv 2) pe_int (fun _ _ => rfl)) (pa_cons (pe_ix ix_list (pv 2) pe_int (fun _ _ => rfl)) (pa_cons (pe_ix ix_list (pv 2) pe_int (fun _ _ => rfl)) pa_nil))))) (fun C s0 H0 fp => (pg_name (i := 0) scAlikeC1.nd rfl (Or.inl rfl))) (fun C s0 H0 fp => pts_nil) (fun C s0 H0 fp => (pe_callB (r := rIsi K) call_isinst (by rfl) T.isi bt_isi (pa_cons (pv 0) (pa_cons (pe_bltn (v := .ty "bool") (by rfl) T.bool bt_bool rfl) pa_nil))))) rfl) (pss_one (ps_ret pe_bl)) pss_nil)
      (pss_one (ps_ret (pe_cmpR (op_eqD hu2) (pv 2) (pv 3) (nomark _))))))))), ?_⟩
    refine ⟨_, rfl, x, m.dx, _, rfl, ho, f_no no_row, x, z, B, rfl, ⟨m, rows, rung, M⟩, ?_⟩
    refine ⟨_, rfl, x, m.dx, _, rfl, ho, f_no no_ending, x, z, B, rfl, ⟨m, rows, rung, M⟩, fun v hv => ?_⟩
    refine ⟨_, rfl, x, m.dx, _, rfl, ho, f_no no_boxes, x, z, B, rfl, ⟨m, rows, rung, M⟩, fun l2 n2 => ?_⟩
    have s1 := same_new (o := .lst (z.bs.map V.int)) n2
    have g2 : upd H l2 (.lst (z.bs.map V.int)) l2 = _ := upd_same
    generalize upd H l2 (.lst (z.bs.map V.int)) = H1 at s1 g2 ⊢
    refine ⟨_, rfl, x, m.dx, _, rfl, s1 _ _ ho, f_no no_cells, x, z, B, rfl, ⟨m, rows, rung, M.same s1⟩, fun l3 d3 H2 s2 n3 g3 z3 k3 => ?_⟩
    have t2 := s1.trans s2
    refine ⟨_, rfl, x, m.dx, _, rfl, t2 _ _ ho, f_no no_asides, x, z, B, rfl, ⟨m, rows, rung, M.same t2⟩, fun l4 d4 H3 s3 n4 g4 z4 k4 => ?_⟩
    have t3 := t2.trans s3
    refine ⟨Nat.le_of_ble_eq_true rfl, fun p np => ?_⟩
    have s4 := same_new (o := .lst [z.here, v, .ref l2, .ref l3, .ref l4]) np
    have gp : upd H3 p (.lst [z.here, v, .ref l2, .ref l3, .ref l4]) p = _ := upd_same
    generalize upd H3 p (.lst [z.here, v, .ref l2, .ref l3, .ref l4]) = H4 at s4 gp ⊢
    have t4 := t3.trans s4
    refine ⟨_, rfl, _, rfl, x, m.dx, _, rfl, t4 _ _ ho, f_no no_told, x, z, B, rfl, ⟨m, rows, rung, M.same t4⟩, fun l5 n5 => ?_⟩
    have s5 := same_new (o := .lst (z.told.map V.int)) n5
    have g5 : upd H4 l5 (.lst (z.told.map V.int)) l5 = _ := upd_same
    generalize upd H4 l5 (.lst (z.told.map V.int)) = H5 at s5 g5 ⊢
    have t5 := t4.trans s5
    refine ⟨_, rfl, x, m.dx, _, rfl, t5 _ _ ho, f_no no_seen, x, z, B, rfl, ⟨m, rows, rung, M.same t5⟩, fun l6 ps hs6 n6 => ?_⟩
    have s6 := same_new (o := .lst (ps.map V.ref)) n6
    have g6 : upd H5 l6 (.lst (ps.map V.ref)) l6 = _ := upd_same
    generalize upd H5 l6 (.lst (ps.map V.ref)) = H6 at s6 g6 ⊢
    have t6 := t5.trans s6
    refine ⟨_, rfl, x, m.dx, _, rfl, t6 _ _ ho, f_no no_deep, x, z, B, rfl, ⟨m, rows, rung, M.same t6⟩, ?_⟩
    refine ⟨_, rfl, x, m.dx, _, rfl, t6 _ _ ho, f_no no_passed, x, z, B, rfl, ⟨m, rows, rung, M.same t6⟩, ?_⟩
    refine ⟨Nat.le_of_ble_eq_true rfl, fun p2 np2 => ?_⟩
    refine ⟨p, p2, _, _, rfl, rfl, at_new np2 ((s5.trans s6) _ _ gp), upd_same, Nat.le_of_ble_eq_true rfl, fun r nr => ?_⟩
    have s7 := (same_new (o := .lst [.ref l5, .ref l6, .int z.pile.length, .int z.k]) np2).trans (same_new (o := .lst ([z.here, v, .ref l2, .ref l3, .ref l4] ++ [.ref l5, .ref l6, .int z.pile.length, .int z.k])) nr)
    have gr : upd (upd H6 p2 (.lst [.ref l5, .ref l6, .int z.pile.length, .int z.k])) r (.lst ([z.here, v, .ref l2, .ref l3, .ref l4] ++ [.ref l5, .ref l6, .int z.pile.length, .int z.k])) r = _ := upd_same
    generalize upd (upd H6 p2 (.lst [.ref l5, .ref l6, .int z.pile.length, .int z.k])) r (.lst ([z.here, v, .ref l2, .ref l3, .ref l4] ++ [.ref l5, .ref l6, .int z.pile.length, .int z.k])) = H7 at s7 gr ⊢
    have t7 := t6.trans s7
    refine ⟨_, rfl, a, _, rfl, dget (t7 _ _ hl) l_row, _, rfl, a, _, rfl, dget (t7 _ _ hl) l_end, _, rfl, a, _, rfl, dget (t7 _ _ hl) l_box, _, rfl, a, _, rfl, dget (t7 _ _ hl) l_cel, _, rfl, a, _, rfl, dget (t7 _ _ hl) l_asd, Nat.le_of_ble_eq_true rfl, fun q nq => ?_⟩
    have s8 := same_new (o := .lst [z.here, w1, .ref l.p1, .ref l.p2, .ref l.p3]) nq
    have gq : upd H7 q (.lst [z.here, w1, .ref l.p1, .ref l.p2, .ref l.p3]) q = _ := upd_same
    generalize upd H7 q (.lst [z.here, w1, .ref l.p1, .ref l.p2, .ref l.p3]) = H8 at s8 gq ⊢
    have t8 := t7.trans s8
    have gr8 := s8 _ _ gr
    refine ⟨_, rfl, _, rfl, a, _, rfl, dget (t8 _ _ hl) l_told, _, rfl, a, _, rfl, dget (t8 _ _ hl) l_seen, _, rfl, a, _, rfl, dget (t8 _ _ hl) l_pile, l.p6, _, rfl, .inl (SqL.of (t8 _ _ L.pil)), _, rfl, a, _, rfl, dget (t8 _ _ hl) l_pass, Nat.le_of_ble_eq_true rfl, fun q2 nq2 => ?_⟩
    rw [List.length_map]
    refine ⟨q, q2, _, _, rfl, rfl, at_new nq2 gq, upd_same, Nat.le_of_ble_eq_true rfl, fun u nu => ?_⟩
    have s9 := (same_new (o := .lst [.ref l.p4, .ref l.p5, .int z.pile.length, .int z.k]) nq2).trans (same_new (o := .lst ([z.here, w1, .ref l.p1, .ref l.p2, .ref l.p3] ++ [.ref l.p4, .ref l.p5, .int z.pile.length, .int z.k])) nu)
    have gu : upd (upd H8 q2 (.lst [.ref l.p4, .ref l.p5, .int z.pile.length, .int z.k])) u (.lst ([z.here, w1, .ref l.p1, .ref l.p2, .ref l.p3] ++ [.ref l.p4, .ref l.p5, .int z.pile.length, .int z.k])) u = _ := upd_same
    generalize upd (upd H8 q2 (.lst [.ref l.p4, .ref l.p5, .int z.pile.length, .int z.k])) u (.lst ([z.here, w1, .ref l.p1, .ref l.p2, .ref l.p3] ++ [.ref l.p4, .ref l.p5, .int z.pile.length, .int z.k])) = H9 at s9 gu ⊢
    have t9 := t8.trans s9
    have gr9 := s9 _ _ gr8
    refine ⟨_, rfl, r, _, 0, _, rfl, rfl, SqL.of gr9, atI_nat (j := 0) rfl, _, rfl, r, _, 7, _, rfl, rfl, SqL.of gr9, atI_nat (j := 7) rfl, _, rfl, r, _, 8, _, rfl, rfl, SqL.of gr9, atI_nat (j := 8) rfl, Nat.le_of_ble_eq_true rfl, fun e ne => ?_⟩
    have s10 := same_new (o := .lst [z.here, .int z.pile.length, .int z.k]) ne
    have ge : upd H9 e (.lst [z.here, .int z.pile.length, .int z.k]) e = _ := upd_same
    generalize upd H9 e (.lst [z.here, .int z.pile.length, .int z.k]) = HA at s10 ge ⊢
    refine ⟨e, rfl, ⟨_, SqL.of ge⟩, fun D nD => comp_list (K := K) (a := e) (xs := [z.here, .int z.pile.length, .int z.k]) (fun i σ ys H1 => ∃ (v : Option V), σ = [v] ∧ ys = List.replicate i (.bl false) ∧ Same HA H1 ∧ H1 D = some (.lst ys)) ?_ ?_ ?_ ?_⟩
    · exact ⟨none, rfl, rfl, same_new nD, upd_same⟩
    · rintro i σ ys HB _ ⟨vx, rfl, rfl, sx, _⟩
      exact SqL.of (sx _ _ ge)
    · rintro i y σ ys HB hx ⟨vx, rfl, rfl, sx, hD⟩
      have hi : i < 3 := (List.getElem?_eq_some_iff.mp hx).1
      have hy : ∃ t, TyOf K HB y t ∧ PySem.W.kitOne K t (.type "bool") = some false := by
        have hm := List.mem_of_getElem? hx
        rcases (show y = z.here ∨ y = .int z.pile.length ∨ y = .int z.k by simpa using hm) with rfl | rfl | rfl
        · rcases hz.1 with e1 | ⟨i, e1⟩
          · rw [e1]; exact ⟨_, .non, nonb⟩
          · rw [e1]; exact ⟨_, .int _, T.intb⟩
        · exact ⟨_, .int _, T.intb⟩
        · exact ⟨_, .int _, T.intb⟩
      obtain ⟨t, ty, kb⟩ := hy
      refine ⟨_, rfl, _, _, _, _, rfl, ty, kb, hD, Nat.lt_of_lt_of_le (by rw [List.length_replicate]; exact hi) (show 3 ≤ sizeLine by decide), ?_⟩
      refine ⟨_, rfl, (by rw [List.replicate_succ']), fun c o e1 => ?_, upd_same⟩
      by_cases cD : c = D
      · rw [cD, nD] at e1
        cases e1
      · exact at_ne cD (sx _ _ e1)
    · rintro σ ys HB ⟨vx, rfl, rfl, sx, hD⟩
      refine ⟨D, _, rfl, .inl (SqL.of hD), rfl, rfl, _, rfl, ?_⟩
      refine iteF ?_
      have tA := t9.trans (s10.trans sx)
      obtain ⟨dc, c1, c2, c3⟩ := L.cell
      obtain ⟨da, a1, a2, a3⟩ := L.asd
      obtain ⟨qs, q1, q2⟩ := L.seen
      have from4 := s4.trans (s5.trans (s6.trans (s7.trans (s8.trans (s9.trans (s10.trans sx))))))
      have eqs : Paired (EqV HB) [z.here, v, .ref l2, .ref l3, .ref l4, .ref l5, .ref l6, .int z.pile.length, .int z.k] [z.here, w1, .ref l.p1, .ref l.p2, .ref l.p3, .ref l.p4, .ref l.p5, .int z.pile.length, .int z.k] :=
        .cons (.inl ⟨rfl, hz.1.imp id .inl⟩) (.cons (eq_how hz (hv.same tA) (hw1.same tA)) (.cons (eq_ints ((s2.trans (s3.trans from4)) _ _ g2) (tA _ _ L.box)) (.cons (eq_nz ((s3.trans from4) _ _ g3) (tA _ _ c1) z3 c2) (.cons (eq_nz (from4 _ _ g4) (tA _ _ a1) z4 a2)
        (.cons (eq_ints ((s6.trans (s7.trans (s8.trans (s9.trans (s10.trans sx))))) _ _ g5) (tA _ _ L.told)) (.cons (eq_seen ((s7.trans (s8.trans (s9.trans (s10.trans sx)))) _ _ g6) (tA _ _ q1) (hs6.same ((s6.trans (s7.trans (s8.trans (s9.trans (s10.trans sx))))))) (q2.same tA)) (.cons (eq_int _) (.cons (eq_int _) .nil))))))))
      obtain ⟨le, ee⟩ := eq_at eqs
      exact ⟨_, rfl, _, rfl, r, u, _, _, rfl, rfl, (s10.trans sx) _ _ gr9, (s10.trans sx) _ _ gu, le, ee, k _ tA⟩
end
end My


set_option Elab.async false
set_option linter.all false
set_option maxRecDepth 100000
set_option maxHeartbeats 4000000
namespace My
open PySem L2
/-! ### the machine and the law's own one, side by side -/
theorem Zok.start {bs : List Int} {cf : Int → Int} : Zok (z0 bs cf) := ⟨.inr ⟨0, rfl⟩, fun xs h => by cases h⟩
theorem Zok.step {n : Nat} {z : Zt} {ring : Int → Bool} {r : Rw} {h : Int} (S : Stands n (stepZ ring r h z)) (Z : Zok z) : Zok (stepZ ring r h z) := by
  refine ⟨S.1.imp id (fun ⟨r, e, _⟩ => ⟨r, e⟩), ?_⟩
  have one : ∀ (u : Str) (xs : List V), some [V.str u] = some xs → ∀ y ∈ xs, Scal y := fun u xs e y hy => by
    cases e
    rw [List.mem_singleton.mp hy]
    exact .inr (.inr ⟨u, rfl⟩)
  cases r with
  | stop => exact one "stop"
  | halt v =>
    intro xs e y hy
    cases e
    rcases (show y = .str "halt" ∨ y = .int v by simpa using hy) with rfl | rfl
    · exact .inr (.inr ⟨_, rfl⟩)
    · exact .inr (.inl ⟨_, rfl⟩)
  | back =>
    rcases List.eq_nil_or_concat z.pile with e | ⟨r, p, e⟩
    · rw [back_none e]
      exact one "home"
    · have e : z.pile = r ++ [p] := by simpa using e
      rw [back_at e]
      exact Z.2
  | two u b v =>
    simp only [stepZ]
    split
    · exact Z.2
    split
    · exact Z.2
    split
    · exact Z.2
    · exact Z.2
  | tell b => exact Z.2
  | jcm u t f =>
    simp only [stepZ]
    split
    · exact Z.2
    split
    · exact Z.2
    split
    · exact Z.2
    · exact Z.2
  | zb u b t f => exact Z.2
  | table b ts => exact Z.2
structure Both (C : Addr) (H : Hp) (x a lr lb : Addr) (m : MA) (l : LA) (rows : List Addr) (bells : List Int) (B : Nat) (z : Zt) : Prop where
  M : ∃ rung, ringOf rung = ringB bells ∧ MG C H x m (rows.map V.ref) rung B z
  L : LS H a l B z
  rr : H lr = some (.lst (rows.map V.ref))
  rb : H lb = some (.lst (bells.map V.int))
  ok : ∀ (i : Nat) q, rows[i]? = some q → ∃ r : Rw, RowIs H q rows.length r ∧ (i + 1 = rows.length → r.word ∈ notOn)
  S : Stands rows.length z
  Z : Zok z
  dd : ∀ c, MReg m x c → ¬ LReg l a c
  mr : ¬ Own m x lr
  mb : ¬ Own m x lb
  ar : ¬ LOwn l a lr
  ab : ¬ LOwn l a lb
section
variable {C : Addr} {H H' : Hp} {x a lr lb : Addr} {m : MA} {l : LA} {rows : List Addr} {bells : List Int} {B : Nat} {z : Zt}
theorem Both.same (b : Both C H x a lr lb m l rows bells B z) (s : Same H H') : Both C H' x a lr lb m l rows bells B z := by
  obtain ⟨rung, hr, M⟩ := b.M
  refine ⟨⟨rung, hr, M.same s⟩, b.L.same s, s _ _ b.rr, s _ _ b.rb, fun i q h => ?_, b.S, b.Z, b.dd, b.mr, b.mb, b.ar, b.ab⟩
  obtain ⟨r, h1, h2⟩ := b.ok i q h
  exact ⟨r, h1.tups (.of s), h2⟩
theorem Both.more (b : Both C H x a lr lb m l rows bells B z) (h : B + 1 ≤ 900) : Both C H x a lr lb m l rows bells (B + 1) z := by
  obtain ⟨rung, hr, M⟩ := b.M
  exact ⟨⟨rung, hr, M.more (Nat.le_succ B) h⟩, b.L.more (Nat.le_succ B) h, b.rr, b.rb, b.ok, b.S, b.Z, b.dd, b.mr, b.mb, b.ar, b.ab⟩
theorem lown_reg {c : Addr} (h : LOwn l a c) : LReg l a c := by
  rcases h with h | h | h | h
  · exact .inl h
  · exact .inr (.inr (.inr (.inr (.inl h))))
  · exact .inr (.inr (.inr (.inr (.inr (.inl h)))))
  · exact .inr (.inr (.inr (.inr (.inr (.inr h)))))
theorem Both.law1 (b : Both C H x a lr lb m l rows bells B z) {H1 : Hp} {rung : List (Key × V)} (M : MG C H x m (rows.map V.ref) rung B z) (f : Fr m x H H1) : LS H1 a l B z ∧ H1 lr = some (.lst (rows.map V.ref)) ∧ H1 lb = some (.lst (bells.map V.int)) ∧ SameT2 H H1 :=
  ⟨b.L.keeps (M.fr f) (fun c h g => b.dd c (.inl g) h), f _ _ b.mr b.rr, f _ _ b.mb b.rb, (M.fr f).tups⟩
end
end My


set_option Elab.async false
set_option linter.all false
set_option maxRecDepth 100000
set_option maxHeartbeats 4000000
namespace My
open PySem L2
abbrev sRunM : Stmt := inClass (top 32) 11
theorem no_stp : ¬ ("step" : Str) ∈ names := by decide +kernel
/-! ### run: as many steps as there are -/
def stepW (ring : Int → Bool) (ws : List Rw) (z : Zt) : Zt :=
  match z.here with
  | .int r => match ws[r.toNat]? with
    | some w => stepZ ring w r z
    | none => z
  | _ => z
def runs (ring : Int → Bool) (ws : List Rw) : Nat → Zt → Nat × Zt
  | 0, z => (0, z)
  | n + 1, z => if z.here = .non then (0, z) else ((runs ring ws n (stepW ring ws z)).1 + 1, (runs ring ws n (stepW ring ws z)).2)
theorem runs_non {ring : Int → Bool} {ws : List Rw} {n : Nat} {z : Zt} (h : z.here = .non) : runs ring ws n z = (0, z) := by
  cases n with
  | zero => rfl
  | succ n => simp only [runs, if_pos h]
theorem runs_at {ring : Int → Bool} {ws : List Rw} {n : Nat} {z : Zt} {r : Nat} {w : Rw} (h : z.here = .int r) (hw : ws[r]? = some w) : runs ring ws (n + 1) z = ((runs ring ws n (stepZ ring w r z)).1 + 1, (runs ring ws n (stepZ ring w r z)).2) := by
  have e : stepW ring ws z = stepZ ring w r z := by
    unfold stepW
    rw [h]
    simp only [Int.toNat_natCast, hw]
  simp only [runs, if_neg (show ¬ z.here = .non by rw [h]; simp), e]
/-- the rows at their places, as what they are -/
structure RowsW (H : Hp) (rows : List Addr) (ws : List Rw) : Prop where
  len : ws.length = rows.length
  pos : 0 < rows.length
  at_ : ∀ (i : Nat) q w, rows[i]? = some q → ws[i]? = some w → RowIs H q rows.length w ∧ (i + 1 = rows.length → w.word ∈ notOn)
theorem RowsW.tups {H H' : Hp} {rows : List Addr} {ws : List Rw} (h : RowsW H rows ws) (e : SameT2 H H') : RowsW H' rows ws := ⟨h.len, h.pos, fun i q w a b => ⟨(h.at_ i q w a b).1.tups e, (h.at_ i q w a b).2⟩⟩
section
variable {P : Program} {w : World} {K : PySem.W.Frag} {mg : Str → Option Value} {base : Heap}
def spRunM (C : Addr) : Sp := fun vs H Q _ => ∃ (x : Addr) (m : MA) (rows : List Addr) (ws : List Rw) (rung : List (Key × V)) (B n : Nat) (z : Zt), vs = [.ref x, .int (n : Int)] ∧ MG C H x m (rows.map V.ref) rung B z ∧ RowsW H rows ws ∧ Stands rows.length z ∧ B + (runs (ringOf rung) ws n z).1 ≤ 900 ∧
  ∀ H', Fr m x H H' → MG C H' x m (rows.map V.ref) rung (B + (runs (ringOf rung) ws n z).1) (runs (ringOf rung) ws n z).2 → Stands rows.length (runs (ringOf rung) ws n z).2 → Q (.int ((runs (ringOf rung) ws n z).1 : Nat)) H'
theorem scRunM : FnScope ["self", "most", "done"] ["self", "most"] (defScope sRunM) := ⟨rfl, rfl, rfl, by decide +kernel, rfl, by decide +kernel, by decide +kernel⟩
theorem ok_runM {f C fs : Addr} {fd fds : FuncData} (F : Fun K "run" "Machine.run" sRunM f fd) (T : MTx K mg C) (Ms : Meth K C "step" fs) (Gs : FnOk P w K mg base CX0 3 fs fds ["self"] (spStep C)) (bs_ : Binds K fds ["self"] []) : FnOk P w K mg base CX0 4 f fd ["self", "most"] (spRunM C) := by
  refine F.ok scRunM (fun vs H Q E h => ?_) (fun cdv A outer s H vs Q E hr h => ?_)
  · obtain ⟨x, m, rows, ws, rung, B, n, z, rfl, _⟩ := h
    rfl
  · obtain ⟨x, m, rows, ws, rung, B, n, z, rfl, M, hW, hS, hB, kk⟩ := h
    refine ⟨_, pss_cons (ps_set (i := 2) scRunM.nd rfl (Or.inl rfl) pe_int)
      (pss_cons (ps_while PassesOwn.never (pw_and (pt_cmpR op_lt (pv 2) (pv 1) (nomark _)) (pw_and1 (pt_cmpR op_notN (pe_fld (pv 0) rfl) pe_non (nomark _)))).pt
        (pss_cons (ps_expr (pe_meth0 (pv 0) T.cl Ms Gs hr bs_ .nil pass0))
        (pss_one (ps_set (i := 2) scRunM.nd rfl (Or.inl rfl) (pe_op op_add (pv 2) pe_int)))))
      (pss_one (ps_ret (pv 2)))), ?_⟩
    refine ⟨fun μ σ H1 => ∃ (k : Nat) (z1 : Zt), μ = n - k ∧ k ≤ n ∧ σ = [some (.ref x), some (.int n), some (.int k)] ∧ Fr m x H H1 ∧ MG C H1 x m (rows.map V.ref) rung (B + k) z1 ∧ RowsW H1 rows ws ∧ Stands rows.length z1 ∧ runs (ringOf rung) ws n z = (k + (runs (ringOf rung) ws (n - k) z1).1, (runs (ringOf rung) ws (n - k) z1).2), ⟨n, 0, z, by omega, by omega, rfl, Fr.refl, M, hW, hS, by simp⟩, ?_⟩
    rintro μ σ H1 ⟨k, z1, rfl, hk, rfl, f1, M1, W1, S1, e1⟩
    have out : (k = n ∨ z1.here = .non) → Q (.int (k : Int)) H1 := fun c => by
      have e2 : runs (ringOf rung) ws n z = (k, z1) := by
        rw [e1]
        rcases c with c | c
        · subst c
          rw [Nat.sub_self]
          rfl
        · rw [runs_non c]
          rfl
      have := kk H1 f1
      rw [e2] at this
      exact this M1 S1
    refine ⟨_, rfl, _, rfl, _, _, rfl, rfl, _, rfl, ?_⟩
    refine ite2 (fun h1 => ?_) (fun h1 => ?_)
    · have hkn : k < n := by
        have := of_decide_eq_true h1
        omega
      obtain ⟨w0, ho, hw⟩ := M1.obj
      refine ⟨_, rfl, x, C, m.dx, _, _, rfl, ho, T.cl, T.nH, f_here, rfl, _, rfl, ?_⟩
      rcases S1.1 with hn | ⟨r, hh, hlt⟩
      · refine iteN (by rw [hn]; decide) ?_
        exact ⟨_, rfl, out (.inr hn)⟩
      · refine iteP (by rw [hh]; simp) ?_
        have hq := List.getElem?_eq_getElem hlt
        have hlt' : r < ws.length := by rw [W1.len]; exact hlt
        have hw' := List.getElem?_eq_getElem hlt'
        obtain ⟨hR, hwd⟩ := W1.at_ r _ _ hq hw'
        have hkt : B + k < 900 := by
          rw [e1, show n - k = (n - (k + 1)) + 1 by omega, runs_at hh hw'] at hB
          exact Nat.lt_of_lt_of_le (by show B + k < B + (k + ((runs (ringOf rung) ws (n - (k + 1)) _).1 + 1)); omega) hB
        have hqv : (rows.map V.ref)[r]? = some (.ref rows[r]) := by rw [List.getElem?_map, hq]; rfl
        refine ⟨fun σ' H' => ∃ (z2 : Zt), σ' = [some (.ref x), some (.int n), some (.int ((k : Int) + 1))] ∧ Fr m x H H' ∧ MG C H' x m (rows.map V.ref) rung (B + (k + 1)) z2 ∧ RowsW H' rows ws ∧ Stands rows.length z2 ∧ runs (ringOf rung) ws n z = ((k + 1) + (runs (ringOf rung) ws (n - (k + 1)) z2).1, (runs (ringOf rung) ws (n - (k + 1)) z2).2), ?_, ?_⟩
        · rintro σ' H' ⟨z2, rfl, f2, M2, W2, S2, e2⟩
          exact ⟨n - (k + 1), by omega, k + 1, z2, rfl, by omega, by simp, f2, M2, W2, S2, e2⟩
        · refine ⟨_, rfl, x, m.dx, _, rfl, ho, f_no no_stp, x, rows[r], m, rows.map V.ref, rung, B + k, z1, r, rows.length, ws[r], rfl, M1, hkt, hh, hqv, hR, fun H2 fr M2 => ?_⟩
          refine ⟨_, rfl, _, _, rfl, rfl, ?_⟩
          refine ⟨_, rfl, f1.trans fr, M2, W1.tups (M1.fr fr).tups, S1.step hlt hR hwd, ?_⟩
          rw [e1, show n - k = (n - (k + 1)) + 1 by omega, runs_at hh hw']
          show (k + ((runs (ringOf rung) ws (n - (k + 1)) _).1 + 1), _) = _
          rw [show ∀ a : Nat, k + (a + 1) = k + 1 + a by omega]
    · have hkn : k = n := by
        have : ¬ ((k : Int) < (n : Int)) := fun c => h1 (decide_eq_true c)
        omega
      exact iteF ⟨_, rfl, out (.inl hkn)⟩
end
end My


set_option Elab.async false
set_option linter.all false
set_option maxRecDepth 100000
set_option maxHeartbeats 4000000
namespace My
open PySem L2
abbrev bmVE : List Value := [.type "ValueError", .type "Exception", .type "BaseException", .type "object"]
/-- what the top tells of the classes of exceptions -/
structure Xs (K : PySem.W.Frag) (mg : Str → Option Value) (cEnded cRowError cNoLine cNoPaper cNoRows cNoWish cTooMuch : Addr) : Prop where
  mEnded : mg "Ended" = some (.ref cEnded)
  mRowError : mg "RowError" = some (.ref cRowError)
  mNoLine : mg "NoLine" = some (.ref cNoLine)
  mNoPaper : mg "NoPaper" = some (.ref cNoPaper)
  mNoRows : mg "NoRows" = some (.ref cNoRows)
  mNoWish : mg "NoWish" = some (.ref cNoWish)
  mTooMuch : mg "TooMuch" = some (.ref cTooMuch)
  mValueError : mg "ValueError" = none
  cls : XCls K cEnded bmVE "ValueError.__new__"
  rd : XRead K cEnded
  exm : PySem.W.exmOne K (.ref cEnded) (.ref cRowError) = some true
  oth : PySem.W.kitAny K (.ref cEnded) [.ref cNoLine, .ref cNoPaper, .ref cNoRows, .ref cNoWish, .ref cTooMuch] = some false
  own : PySem.W.kitOne K (.ref cEnded) (.ref cEnded) = some true
  val : PySem.W.kitOne K (.ref cEnded) (.type "ValueError") = some true
theorem bt_ve : bootBuiltins "ValueError" = some (.type "ValueError") := by decide +kernel
section
variable {P : Program} {w : World} {K : PySem.W.Frag} {mg : Str → Option Value} {base : Heap}
variable {cEnded cRowError cNoLine cNoPaper cNoRows cNoWish cTooMuch : Addr}
/-! ### a step where nothing is left to do -/
def spStepE (C cE : Addr) : Sp := fun vs H _ E => ∃ (x : Addr) (m : MA) (rows : List V) (rung : List (Key × V)) (B : Nat) (z : Zt), vs = [.ref x] ∧ MG C H x m rows rung B z ∧ z.here = .non ∧ E (.ref cE) none H
theorem ok_stepE {f C : Addr} {fd : FuncData} (F : Fun K "step" "Machine.step" sStep f fd) (T : MTx K mg C) (Y : Xs K mg cEnded cRowError cNoLine cNoPaper cNoRows cNoWish cTooMuch) : FnOk P w K mg base (CX1 P w) 1 f fd ["self"] (spStepE C cEnded) := by
  refine F.okX scStep (fun vs H Q E h => ?_) (fun cdv A outer s H vs Q E hr h => ?_)
  · obtain ⟨x, m, rows, rung, B, z, rfl, _⟩ := h
    rfl
  · obtain ⟨x, m, rows, rung, B, z, rfl, M, hh, hE⟩ := h
    obtain ⟨w0, ho, hw⟩ := M.obj
    refine ⟨_, pss_cons (ps_if (pt_cmpR op_isN (pe_fld (pv 0) rfl) pe_non (nomark _)) (pss_one (ps_raise0 Y.cls PySem.F.excBase_ValueError Y.mEnded rfl)) pss_nil) pss_never, ?_⟩
    rw [hh] at ho
    refine ⟨_, rfl, x, C, m.dx, _, _, rfl, ho, T.cl, T.nH, f_here, rfl, _, rfl, ?_⟩
    exact iteP (by decide) hE
/-! ### a step that may be refused -/
def spRefused (C : Addr) : Sp := fun vs H Q _ => ∃ (x : Addr) (m : MA) (rows : List V) (rung : List (Key × V)) (B : Nat) (z : Zt), vs = [.ref x] ∧ MG C H x m rows rung B z ∧
  ((∃ (q : Addr) (r : Nat) (n : Int) (rw : Rw), B < 900 ∧ z.here = .int r ∧ rows[r]? = some (.ref q) ∧ RowIs H q n rw ∧ ∀ H', Fr m x H H' → MG C H' x m rows rung (B + 1) (stepZ (ringOf rung) rw r z) → Q (.str "done") H') ∨
   (z.here = .non ∧ ∀ H', Same H H' → Q (.str "ended") H'))
theorem scRef : FnScope ["_law_machine", "_law_word", "e", "_law_others"] ["_law_machine"] (defScope sRefused) := ⟨rfl, rfl, rfl, by decide +kernel, rfl, by decide +kernel, by decide +kernel⟩
theorem ok_refused {f C fs : Addr} {fd fds : FuncData} (F : Fun K "_law_refused" "_law_refused" sRefused f fd) (T : Txt K mg) (TM : MTx K mg C) (Y : Xs K mg cEnded cRowError cNoLine cNoPaper cNoRows cNoWish cTooMuch) (Ms : Meth K C "step" fs)
    (Gs : FnOk P w K mg base CX0 3 fs fds ["self"] (spStep C)) (GE : FnOk P w K mg base (CX1 P w) 1 fs fds ["self"] (spStepE C cEnded)) (bs_ : Binds K fds ["self"] []) : FnOk P w K mg base CX0 4 f fd ["_law_machine"] (spRefused C) := by
  refine F.ok scRef (fun vs H Q E h => ?_) (fun cdv A outer s H vs Q E hr h => ?_)
  · obtain ⟨x, m, rows, rung, B, z, rfl, _⟩ := h
    rfl
  · obtain ⟨x, m, rows, rung, B, z, rfl, M, h⟩ := h
    obtain ⟨w0, ho, hw⟩ := M.obj
    rcases h with ⟨q, r, n, rw, hB, hh, hq, hR, kk⟩ | ⟨hh, kk⟩
    · refine ⟨_, pss_cons (ps_set (i := 1) scRef.nd rfl (Or.inl rfl) pe_str) (pss_cons (ps_try0 (pss_one (ps_expr (pe_meth0 (pv 0) TM.cl Ms Gs hr bs_ .nil pass0)))) (pss_one (ps_ret (pv 1)))), ?_⟩
      refine ⟨_, rfl, x, m.dx, _, rfl, ho, f_no no_stp, x, q, m, rows, rung, B, z, r, n, rw, rfl, M, hB, hh, hq, hR, fun H1 fr M1 => ?_⟩
      exact ⟨_, rfl, kk H1 fr M1⟩
    · have hr1 := hr.mono (show 1 ≤ 3 by decide)
      refine ⟨_, pss_cons (ps_set (i := 1) scRef.nd rfl (Or.inl rfl) pe_str) (pss_cons (ps_tryM (i := 2) (n := "e") (pv 0) TM.cl Ms GE hr1 bs_ .nil rfl rfl rfl rfl rfl Y.mRowError scRef.nd rfl rfl (fun ea => (pss_cons (ps_set (i := 3) scRef.nd rfl (Or.inl rfl) (pe_callB (r := rIsXT K cEnded) (call_isxT Y.rd PySem.F.attr_ValueError) (by rfl) T.isi bt_isi (pa_cons (pv 2) (pa_cons (pe_tup (pa_cons (pe_glob (v := .ref cNoLine) (by rfl) Y.mNoLine rfl) (pa_cons (pe_glob (v := .ref cNoPaper) (by rfl) Y.mNoPaper rfl) (pa_cons (pe_glob (v := .ref cNoRows) (by rfl) Y.mNoRows rfl) (pa_cons (pe_glob (v := .ref cNoWish) (by rfl) Y.mNoWish rfl) (pa_cons (pe_glob (v := .ref cTooMuch) (by rfl) Y.mTooMuch rfl) pa_nil)))))) pa_nil))))
      (pss_one (ps_set (i := 1) scRef.nd rfl (Or.inl rfl) (pe_ix (r := rIxL K) ix_list (pe_lst (pa_cons pe_str (pa_cons pe_str pa_nil))) (pe_callTy call_int1 (by rfl) T.int bt_int (pa_cons (pe_and (pe_callB (r := rIsX K cEnded) (call_isx Y.rd PySem.F.attr_ValueError) (by rfl) T.isi bt_isi (pa_cons (pv 2) (pa_cons (pe_glob (v := .ref cEnded) (by rfl) Y.mEnded rfl) pa_nil))) (pe_and (pe_callB (r := rIsX K cEnded) (call_isx Y.rd PySem.F.attr_ValueError) (by rfl) T.isi bt_isi (pa_cons (pv 2) (pa_cons (pe_bltn (v := .ty "ValueError") (by rfl) Y.mValueError bt_ve rfl) pa_nil))) (pe_one (pe_not (pv 3))))) pa_nil)) (fun _ _ => rfl))))))) (pss_one (ps_ret (pv 1)))), ?_⟩
      refine ⟨_, rfl, x, m.dx, _, rfl, ho, f_no no_stp, x, m, rows, rung, B, z, rfl, M, hh, Y.exm, fun ea hea => ?_⟩
      have s1 := same_new (o := excO ea (.ref cEnded)) hea
      have e1 : upd H ea (excO ea (.ref cEnded)) ea = _ := upd_same
      generalize upd H ea (excO ea (.ref cEnded)) = H1 at s1 e1 ⊢
      refine ⟨_, rfl, Nat.le_of_ble_eq_true rfl, fun tp ntp => ?_⟩
      have s2 := same_new (o := .tup [V.ref cNoLine, V.ref cNoPaper, V.ref cNoRows, V.ref cNoWish, V.ref cTooMuch]) ntp
      have e2 : upd H1 tp (.tup [V.ref cNoLine, V.ref cNoPaper, V.ref cNoRows, V.ref cNoWish, V.ref cTooMuch]) tp = _ := upd_same
      have e1' := s2 _ _ e1
      generalize upd H1 tp (.tup [V.ref cNoLine, V.ref cNoPaper, V.ref cNoRows, V.ref cNoWish, V.ref cTooMuch]) = H2 at s2 e2 e1' ⊢
      refine ⟨ea, tp, _, false, rfl, e1', e2, fun cvs hv => ?_, ?_⟩
      · cases hv with | cons a1 hv => cases hv with | cons a2 hv => cases hv with | cons a3 hv => cases hv with | cons a4 hv => cases hv with | cons a5 hv =>
        cases hv
        cases a1
        cases a2
        cases a3
        cases a4
        cases a5
        exact Y.oth
      refine ⟨Nat.le_of_ble_eq_true rfl, fun l nl => ?_⟩
      have s3 := same_new (o := .lst [V.str "other", V.str "ended"]) nl
      have e3 : upd H2 l (.lst [V.str "other", V.str "ended"]) l = _ := upd_same
      have e1'' := s3 _ _ e1'
      generalize upd H2 l (.lst [V.str "other", V.str "ended"]) = H3 at s3 e3 e1'' ⊢
      refine ⟨_, rfl, ea, .ref cEnded, true, rfl, e1'', fun cv hc => by cases hc; exact Y.own, true, rfl, ?_⟩
      refine iteP rfl ?_
      refine ⟨_, rfl, ea, .ty "ValueError", true, rfl, e1'', fun cv hc => by cases hc; exact Y.val, true, rfl, ?_⟩
      refine iteP rfl ?_
      refine ⟨_, rfl, false, rfl, .inr ⟨_, rfl, ?_⟩⟩
      refine ⟨l, _, 1, .str "ended", rfl, rfl, SqL.of e3, at1 _ _ _, ?_⟩
      exact ⟨_, rfl, kk _ (s1.trans (s2.trans s3))⟩
end
end My


set_option Elab.async false
set_option linter.all false
set_option maxRecDepth 100000
set_option maxHeartbeats 4000000
namespace My
open PySem L2
theorem no_run : ¬ ("run" : Str) ∈ names := by decide +kernel
theorem RowsW.ex {H : Hp} {rows : List Addr} (hp : 0 < rows.length) (ok : ∀ (i : Nat) q, rows[i]? = some q → ∃ r : Rw, RowIs H q rows.length r ∧ (i + 1 = rows.length → r.word ∈ notOn)) : ∃ ws, RowsW H rows ws := by
  have h1 : ∀ i : Nat, ∃ r : Rw, ∀ q, rows[i]? = some q → RowIs H q rows.length r ∧ (i + 1 = rows.length → r.word ∈ notOn) := fun i => by
    cases hq : rows[i]? with
    | none => exact ⟨.stop, fun q e => by cases e⟩
    | some q =>
      obtain ⟨r, hr⟩ := ok i q hq
      exact ⟨r, fun q' e => by cases e; exact hr⟩
  refine ⟨(List.range rows.length).map fun i => Classical.choose (h1 i), by simp, hp, fun i q w hq hw => ?_⟩
  have hi := (List.getElem?_eq_some_iff.mp hq).1
  rw [List.getElem?_map, List.getElem?_range hi] at hw
  cases hw
  exact Classical.choose_spec (h1 i) q hq
theorem vs2 {x : Addr} {a b : Int} (h : a = b) : [V.ref x, V.int a] = [V.ref x, V.int b] := by rw [h]
section
variable {C : Addr} {H H1 H2 : Hp} {x a lr lb : Addr} {m : MA} {l l' : LA} {rows : List Addr} {bells : List Int} {B : Nat} {z : Zt} {rung : List (Key × V)}
theorem Both.ran (b : Both C H x a lr lb m l rows bells B z) (hr : ringOf rung = ringB bells) (M : MG C H x m (rows.map V.ref) rung B z) (f : Fr m x H H1) (M1 : MG C H1 x m (rows.map V.ref) rung B z) : Both C H1 x a lr lb m l rows bells B z := by
  obtain ⟨L8, r8, b8, tt⟩ := b.law1 M f
  refine ⟨⟨rung, hr, M1⟩, L8, r8, b8, fun i q h => ?_, b.S, b.Z, b.dd, b.mr, b.mb, b.ar, b.ab⟩
  obtain ⟨r, h1, h2⟩ := b.ok i q h
  exact ⟨r, h1.tups tt, h2⟩
/-- the law's step, then the machine's -/
theorem Both.step3 (b : Both C H x a lr lb m l rows bells B z) {r : Nat} {q : Addr} {rw : Rw} (hr : ringOf rung = ringB bells) (M : MG C H x m (rows.map V.ref) rung B z) (hn : r < rows.length) (hR : RowIs H q rows.length rw) (hw : r + 1 = rows.length → rw.word ∈ notOn)
    (nx : LNext H H1 a l l') (L1 : LS H1 a l' (B + 1) (stepZ (ringB bells) rw r z)) (f : Fr m x H1 H2) (M2 : MG C H2 x m (rows.map V.ref) rung (B + 1) (stepZ (ringOf rung) rw r z)) : Both C H2 x a lr lb m l' rows bells (B + 1) (stepZ (ringB bells) rw r z) := by
  have M1 := M.keeps nx.kp (fun c h g => b.dd c h (lown_reg g))
  have k2 := M1.fr f
  have S' : Stands rows.length (stepZ (ringB bells) rw r z) := b.S.step hn hR hw
  have le : ∀ c, LOwn l' a c ↔ LOwn l a c := fun c => by unfold LOwn; rw [nx.e4, nx.e5, nx.e6]
  have dd' : ∀ c, MReg m x c → ¬ LReg l' a c := fun c h g => by
    rcases nx.reg c g with g | g
    · exact b.dd c h g
    · obtain ⟨o, ho⟩ := M.here_ c h
      rw [g] at ho
      cases ho
  rw [hr] at M2
  refine ⟨⟨rung, hr, M2⟩, L1.keeps k2 (fun c h g => dd' c (.inl g) h), f _ _ b.mr (nx.kp _ _ b.rr (.inl b.ar)), f _ _ b.mb (nx.kp _ _ b.rb (.inl b.ab)), fun i q h => ?_, S', b.Z.step S', dd', b.mr, b.mb, fun g => b.ar ((le _).mp g), fun g => b.ab ((le _).mp g)⟩
  obtain ⟨r, h1, h2⟩ := b.ok i q h
  exact ⟨r, (h1.tups nx.kp.tups).tups k2.tups, h2⟩
end
section
variable {P : Program} {w : World} {K : PySem.W.Frag} {mg : Str → Option Value} {base : Heap}
def spOver (C : Addr) : Sp := fun vs H Q _ => ∃ (x a lr ll : Addr) (m : MA) (l : LA) (rows : List Addr) (bells : List Int) (B n : Nat) (z : Zt), vs = [.ref x, .ref a, .int (n : Int)] ∧ Both C H x a lr ll m l rows bells B z ∧ 0 < rows.length ∧ z.here = .non ∧
  ∀ H', Both C H' x a lr ll m l rows bells B z → Fr m x H H' → Q (.bl true) H'
theorem scOver : FnScope ["_law_machine", "_law_state", "_law_most", "_law_turn"] ["_law_machine", "_law_state", "_law_most"] (defScope sOver) := ⟨rfl, rfl, rfl, by decide +kernel, rfl, by decide +kernel, by decide +kernel⟩
theorem ok_over {f C fR fA frun frow : Addr} {fd fdR fdA fdrun fdrow : FuncData} (F : Fun K "_law_over" "_law_over" sOver f fd) (T : Txt K mg) (TM : MTx K mg C) (Mrun : Meth K C "run" frun) (Grun : FnOk P w K mg base CX0 4 frun fdrun ["self", "most"] (spRunM C)) (brun : Binds K fdrun ["self", "most"] [])
    (Mrow : Meth K C "row" frow) (Grow : FnOk P w K mg base CX0 1 frow fdrow ["self"] (spHere C)) (brow : Binds K fdrow ["self"] [])
    (GR : FnOk P w K mg base CX0 4 fR fdR ["_law_machine"] (spRefused C)) (kR : PySem.W.keepIn K (.ref fR) = true) (bR : Binds K fdR ["_law_machine"] []) (mR : mg "_law_refused" = some (.ref fR)) (GA : FnOk P w K mg base CX0 3 fA fdA ["_law_machine", "_law_state"] (spAlike C)) (kA : PySem.W.keepIn K (.ref fA) = true) (bA : Binds K fdA ["_law_machine", "_law_state"] []) (mA : mg "_law_alike" = some (.ref fA)) : FnOk P w K mg base CX0 5 f fd ["_law_machine", "_law_state", "_law_most"] (spOver C) := by
  refine F.ok scOver (fun vs H Q E h => ?_) (fun cdv A outer s H vs Q E hr h => ?_)
  · obtain ⟨x, a, lr, ll, m, l, rows, bells, B, n, z, rfl, _⟩ := h
    rfl
  · obtain ⟨x, a, lr, ll, m, l, rows, bells, B, n, z, rfl, b, hpos, hh, kk⟩ := h
    have hr3 := hr.mono (show 3 ≤ 4 by decide)
    have hr1 := hr.mono (show 1 ≤ 4 by decide)
    refine ⟨_, (pss_cons (ps_for PassesOwn.never rfl (pi_range1 rfl T.range (pa_cons pe_int pa_nil)) (pg_name (i := 3) scOver.nd rfl (Or.inl rfl)) (pss_one (ps_if (pw_or (pt_cmpR op_ne (pe_call GR hr (by rfl) mR kR bR .nil pass0 (pa_cons (pv 0) pa_nil)) pe_str (nomark _)) (pw_or (pt_cmpR op_ne (pe_meth (pv 0) TM.cl Mrun Grun hr brun .nil pass0 (pa_cons (pv 2) pa_nil)) pe_int (nomark _)) (pw_or1 (pt_not (pt_val (pe_call GA hr3 (by rfl) mA kA bA .nil pass0 (pa_cons (pv 0) (pa_cons (pv 1) pa_nil)))))))).pt (pss_one (ps_ret pe_bl)) pss_nil)))
      (pss_one (ps_ret (pe_cmpR op_isN (pe_meth0 (pv 0) TM.cl Mrow Grow hr1 brow .nil pass0) pe_non (nomark _))))), ?_⟩
    refine ⟨2, rfl, by decide, by decide, for_range (n := 2) (fun i σ H6 => ∃ (v : Option V), σ = [some (.ref x), some (.ref a), some (.int n), v] ∧ Both C H6 x a lr ll m l rows bells B z ∧ Fr m x H H6) ?_ ?_ ?_⟩
    · exact ⟨none, rfl, b, .refl⟩
    · rintro i σ H6 hi ⟨v, rfl, b6, f6⟩
      obtain ⟨rung, hrg, M⟩ := b6.M
      refine ⟨_, rfl, x, m, rows.map V.ref, rung, B, z, rfl, M, .inr ⟨hh, fun H7 s7 => ?_⟩⟩
      refine ⟨rfl, _, rfl, ?_⟩
      refine iteN (by decide) ?_
      have b7 := b6.same s7
      have M7 := M.same s7
      obtain ⟨ws, hW⟩ := RowsW.ex hpos b7.ok
      obtain ⟨w7, ho7, hw7⟩ := M7.obj
      have hz : runs (ringOf rung) ws n z = (0, z) := runs_non hh
      refine ⟨_, rfl, x, m.dx, _, rfl, ho7, f_no no_run, _, rfl, x, m, rows, ws, rung, B, n, z, rfl, M7, hW, b7.S, by rw [hz]; exact M7.big, fun H8 f8 M8 S8 => ?_⟩
      rw [hz] at M8 S8 ⊢
      refine ⟨rfl, _, rfl, ?_⟩
      refine iteN (by simp) ?_
      have b8 := b7.ran hrg M7 f8 M8
      refine ⟨_, rfl, _, rfl, x, a, m, l, rows.map V.ref, rung, B, B, z, rfl, M8, b8.L, b8.Z, fun H9 s9 => ?_⟩
      refine ⟨_, rfl, ?_⟩
      refine iteN (by decide) ?_
      exact ⟨_, rfl, b8.same s9, f6.trans ((Fr.same s7).trans (f8.trans (Fr.same s9)))⟩
    · rintro σ H6 ⟨v, rfl, b6, f6⟩
      obtain ⟨rung, hrg, M⟩ := b6.M
      obtain ⟨w6, ho6, hw6⟩ := M.obj
      refine ⟨_, rfl, x, m.dx, _, rfl, ho6, f_no no_row, x, _, _, rfl, ⟨m, _, rung, M⟩, ?_⟩
      refine ⟨rfl, ?_⟩
      rw [hh]
      exact kk _ b6 f6
end
end My


set_option Elab.async false
set_option linter.all false
set_option maxRecDepth 100000
set_option maxHeartbeats 4000000
namespace My
open PySem L2
/-! ### five small programs -/
def bs0 : List Int := [0, 0, 0, 0, 0, 0, 0, 0]
def zz0 : Zt := z0 bs0 (fun _ => 0)
theorem run_stop {ring : Int → Bool} (n : Nat) : ∃ zF, runs ring [.stop] (1 + n) zz0 = (1, zF) ∧ zF.here = .non ∧ zF.how = some [V.str "stop"] ∧ zF.pile = [] := by
  refine ⟨stepZ ring .stop (0 : Nat) zz0, ?_, rfl, rfl, rfl⟩
  rw [Nat.add_comm, runs_at (r := 0) (w := .stop) rfl rfl, runs_non (show (stepZ ring .stop (0 : Nat) zz0).here = .non from rfl)]
theorem run_halt {ring : Int → Bool} (n : Nat) (v : Int) : ∃ zF, runs ring [.halt v] (1 + n) zz0 = (1, zF) ∧ zF.here = .non ∧ zF.how = some [V.str "halt", V.int v] ∧ zF.pile = [] := by
  refine ⟨stepZ ring (.halt v) (0 : Nat) zz0, ?_, rfl, rfl, rfl⟩
  rw [Nat.add_comm, runs_at (r := 0) (w := .halt v) rfl rfl, runs_non (show (stepZ ring (.halt v) (0 : Nat) zz0).here = .non from rfl)]
theorem run_back {ring : Int → Bool} (n : Nat) : ∃ zF, runs ring [.back] (1 + n) zz0 = (1, zF) ∧ zF.here = .non ∧ zF.how = some [V.str "home"] ∧ zF.pile = [] := by
  refine ⟨{ zz0 with here := .non, how := some [.str "home"] }, ?_, rfl, rfl, rfl⟩
  rw [Nat.add_comm, runs_at (r := 0) (w := .back) rfl rfl, back_none rfl, runs_non rfl]
theorem run_call {ring : Int → Bool} (n : Nat) : ∃ zF, runs ring [.jcm "call" 1 0, .back] (3 + n) zz0 = (3, zF) ∧ zF.here = .non ∧ zF.how = some [V.str "home"] ∧ zF.pile = [] := by
  refine ⟨{ zz0 with here := .non, how := some [.str "home"] }, ?_, rfl, rfl, rfl⟩
  rw [show 3 + n = n + 1 + 1 + 1 by omega, runs_at (r := 0) (w := .jcm "call" 1 0) rfl rfl, st_call, runs_at (r := 1) (w := .back) rfl rfl, back_at (r := []) (p := 1) rfl, runs_at (r := 1) (w := .back) rfl rfl, back_none rfl, runs_non rfl]
  rfl
theorem run_mark {ring : Int → Bool} (hr : ring 0 = true) (n : Nat) (b v : Int) : ∃ zF, runs ring [.two "set" b v, .jcm "mark" 2 1, .back] (4 + n) zz0 = (4, zF) ∧ zF.here = .non ∧ zF.how = some [V.str "home"] ∧ zF.pile = [] := by
  refine ⟨{ zz0 with here := .non, how := some [.str "home"], bs := bs0.set b.toNat v, k := 1 }, ?_, rfl, rfl, rfl⟩
  rw [show 4 + n = n + 1 + 1 + 1 + 1 by omega, runs_at (r := 0) (w := .two "set" b v) rfl rfl, st_set, runs_at (r := 1) (w := .jcm "mark" 2 1) rfl rfl, st_mark1 hr, runs_at (r := 2) (w := .back) rfl rfl, back_at (r := []) (p := 2) rfl, runs_at (r := 2) (w := .back) rfl rfl, back_none rfl, runs_non rfl]
  rfl
/-- a program, how it ends and behind how many steps, in a tuple -/
structure P5 (H : Hp) (n : Nat) (t lr pe : Addr) (qs : List Addr) (ws : List Rw) (e : List V) (k : Nat) : Prop where
  tr : H t = some (.tup [.ref lr, .ref pe, .int k])
  rr : H lr = some (.lst (qs.map V.ref))
  W : RowsW H qs ws
  en : H pe = some (.tup e)
  sc : ∀ y ∈ e, Scal y
  k4 : k ≤ 4
  run : ∀ ring : Int → Bool, ring 0 = true → ∃ zF, runs ring ws (k + n) zz0 = (k, zF) ∧ zF.here = .non ∧ zF.how = some e ∧ zF.pile = []
def Q5 (H : Hp) (n : Nat) (ls t : Addr) : Prop := ∃ lr pe qs ws e k, lr ≠ ls ∧ P5 H n t lr pe qs ws e k
section
variable {H H' : Hp} {n : Nat} {t lr pe ls : Addr} {qs : List Addr} {ws : List Rw} {e : List V} {k : Nat}
theorem P5.same (p : P5 H n t lr pe qs ws e k) (s : Same H H') : P5 H' n t lr pe qs ws e k := ⟨s _ _ p.tr, s _ _ p.rr, p.W.tups (.of s), s _ _ p.en, p.sc, p.k4, p.run⟩
theorem P5.put (p : P5 H n t lr pe qs ws e k) {xs ys : List V} (h : H ls = some (.lst xs)) (ne : lr ≠ ls) : P5 (upd H ls (.lst ys)) n t lr pe qs ws e k := by
  have tt : SameT2 H (upd H ls (.lst ys)) := .upd h (by intro _ z; cases z)
  exact ⟨tt _ _ p.tr, by rw [upd_ne ne]; exact p.rr, p.W.tups tt, tt _ _ p.en, p.sc, p.k4, p.run⟩
theorem Q5.same (p : Q5 H n ls t) (s : Same H H') : Q5 H' n ls t := by
  obtain ⟨lr, pe, qs, ws, e, k, ne, p⟩ := p
  exact ⟨lr, pe, qs, ws, e, k, ne, p.same s⟩
theorem Q5.put (p : Q5 H n ls t) {xs ys : List V} (h : H ls = some (.lst xs)) : Q5 (upd H ls (.lst ys)) n ls t := by
  obtain ⟨lr, pe, qs, ws, e, k, ne, p⟩ := p
  exact ⟨lr, pe, qs, ws, e, k, ne, p.put h ne⟩
end
end My


set_option Elab.async false
set_option linter.all false
set_option maxRecDepth 100000
set_option maxHeartbeats 4000000
namespace L2
open PySem PySem.Spec PyProof.Rows
/-! ### a display of many things: its parts shut off one by one -/
inductive PAs (X : Cx) : List Expr → List TE → Prop where
  | nil : PAs X [] []
  | cons {e : Expr} {te : TE} {es : List Expr} {ts : List TE} (h : PE X e te) (r : PAs X es ts) (hs : starEach (e :: es) X.env = (false, eval e X.env) :: starEach es X.env := by rfl) : PAs X (e :: es) (te :: ts)
def tAll : List TE → TA
  | [] => tNil
  | te :: ts => tCons te (tAll ts)
theorem PAs.pa {X : Cx} {es : List Expr} {ts : List TE} (h : PAs X es ts) : PA X es (tAll ts) := by
  induction h with
  | nil => exact pa_nil
  | cons h r hs ih => exact pa_cons h ih hs
theorem pe_lstS {X : Cx} {es : List Expr} {ts : List TE} {pos : Pos} (h : PAs X es ts) : PE X (.List es pos) (tLst (tAll ts)) := pe_lst h.pa
theorem pe_tupS {X : Cx} {es : List Expr} {ts : List TE} {pos : Pos} {x1} (h : PAs X es ts) : PE X (.Tuple es x1 pos) (tTup (tAll ts)) := pe_tup h.pa
end L2
namespace My
open PySem L2
section
variable {P : Program} {w : World} {K : PySem.W.Frag} {mg : Str → Option Value} {base : Heap}
theorem scOnce : FnScope ["_law_number_here", "_law_box", "_law_some", "_law_rows", "_law_ending", "_law_many", "_law_machine"] ["_law_number_here", "_law_box"] (defScope sOnce) := ⟨rfl, rfl, rfl, by decide +kernel, rfl, by decide +kernel, by decide +kernel⟩
def spOnce : Sp := fun vs H Q _ => ∃ (n : Nat) (b : Int), vs = [.int n, .int b] ∧ Bx b ∧ n < 1000000 ∧ ∀ H', Q (.bl true) H'
noncomputable def oTerm3 {f C fI frun fdeep fending fR : Addr} {fdI fdrun fddeep fdending fdR : FuncData} (T : Txt K mg)
    (TM : MTx K mg C) (mC : mg "Machine" = some (.ref C)) (Mk : Mk K C fI) (GI : FnOk P w K mg base CX0 1 fI fdI ["self", "rows", "boxes", "cells", "bells"] (spInit C)) (bI : Binds K fdI ["self", "rows", "boxes", "cells", "bells"] [])
    (Mrun : Meth K C "run" frun) (Grun : FnOk P w K mg base CX0 4 frun fdrun ["self", "most"] (spRunM C)) (brun : Binds K fdrun ["self", "most"] [])
    (Mdeep : Meth K C "deep" fdeep) (Gdeep : FnOk P w K mg base CX0 1 fdeep fddeep ["self"] (spDeep C)) (bdeep : Binds K fddeep ["self"] []) (Mending : Meth K C "ending" fending) (Gending : FnOk P w K mg base CX0 1 fending fdending ["self"] (spEnding C)) (bending : Binds K fdending ["self"] [])
    (GR : FnOk P w K mg base CX0 4 fR fdR ["_law_machine"] (spRefused C)) (kR : PySem.W.keepIn K (.ref fR) = true) (bR : Binds K fdR ["_law_machine"] []) (mR : mg "_law_refused" = some (.ref fR))
    (cdv : Value) (A : Around) (outer : List Env) (s : Shared) (H : Hp) (E : XK) (hr : Room 4 (A.deeper (PyProof.Rows.envOfC "_law_at_once" (defScope sOnce) s.heap.objs.size f cdv))) : PSigma fun t : TS => PSs (cxOf CX0 P w K mg base ["_law_number_here", "_law_box", "_law_some", "_law_rows", "_law_ending", "_law_many", "_law_machine"] "_law_at_once" (defScope sOnce) f cdv A outer s H E).nox ((defBody sOnce).drop 3) t :=
  have hu : (A.deeper (PyProof.Rows.envOfC "_law_at_once" (defScope sOnce) s.heap.objs.size f cdv)).units < cLine := Nat.lt_of_succ_lt (hu_of hr)
  have hr2 : Room 2 (A.deeper (PyProof.Rows.envOfC "_law_at_once" (defScope sOnce) s.heap.objs.size f cdv)) := hr.mono (by decide)
  have hr1 : Room 1 (A.deeper (PyProof.Rows.envOfC "_law_at_once" (defScope sOnce) s.heap.objs.size f cdv)) := hr.mono (by decide)
  ⟨_, (pss_cons (ps_for PassesOwn.never rfl (pi_list (pv 2)) (pg_tup (n := 3) rfl (pgs_cons (pg_name (i := 3) scOnce.nd rfl (Or.inl rfl)) (pgs_cons (pg_name (i := 4) scOnce.nd rfl (Or.inl rfl)) (pgs_cons (pg_name (i := 5) scOnce.nd rfl (Or.inl rfl)) pgs_nil)))) (pss_cons (ps_set (i := 6) scOnce.nd rfl (Or.inl rfl) (pe_make Mk GI hr2 rfl mC bI .nil pass0 (pa_cons (pv 3) (pa_cons (pe_op op_rep (pe_lst (pa_cons pe_int pa_nil)) pe_int) (pa_cons pe_dnewK (pa_cons (pe_lst (pa_cons pe_int pa_nil)) pa_nil))))))
      (pss_cons (ps_if (pw_or (pt_cmpR op_notN (pe_meth0 (pv 6) TM.cl Mending Gending hr1 bending .nil pass0) pe_non (nomark _)) (pw_or1 (pt_cmpR op_ne (pe_meth (pv 6) TM.cl Mrun Grun hr brun .nil pass0 (pa_cons (pe_op op_add (pv 5) (pv 0)) pa_nil)) (pv 5) (nomark _)))).pt (pss_one (ps_ret pe_bl)) pss_nil)
      (pss_one (ps_if (pw_or (pt_cmpR (op_neTp hu) (pe_meth0 (pv 6) TM.cl Mending Gending hr1 bending .nil pass0) (pv 4) (nomark _)) (pw_or (pt_cmpR op_ne (pe_meth0 (pv 6) TM.cl Mdeep Gdeep hr1 bdeep .nil pass0) pe_int (nomark _)) (pw_or1 (pt_cmpR op_ne (pe_call GR hr (by rfl) mR kR bR .nil pass0 (pa_cons (pv 6) pa_nil)) pe_str (nomark _))))).pt (pss_one (ps_ret pe_bl)) pss_nil)))))
    (pss_one (ps_ret pe_bl)))⟩
noncomputable def oTerm2 {f C fI frun fdeep fending fR : Addr} {fdI fdrun fddeep fdending fdR : FuncData} (T : Txt K mg)
    (TM : MTx K mg C) (mC : mg "Machine" = some (.ref C)) (Mk : Mk K C fI) (GI : FnOk P w K mg base CX0 1 fI fdI ["self", "rows", "boxes", "cells", "bells"] (spInit C)) (bI : Binds K fdI ["self", "rows", "boxes", "cells", "bells"] [])
    (Mrun : Meth K C "run" frun) (Grun : FnOk P w K mg base CX0 4 frun fdrun ["self", "most"] (spRunM C)) (brun : Binds K fdrun ["self", "most"] [])
    (Mdeep : Meth K C "deep" fdeep) (Gdeep : FnOk P w K mg base CX0 1 fdeep fddeep ["self"] (spDeep C)) (bdeep : Binds K fddeep ["self"] []) (Mending : Meth K C "ending" fending) (Gending : FnOk P w K mg base CX0 1 fending fdending ["self"] (spEnding C)) (bending : Binds K fdending ["self"] [])
    (GR : FnOk P w K mg base CX0 4 fR fdR ["_law_machine"] (spRefused C)) (kR : PySem.W.keepIn K (.ref fR) = true) (bR : Binds K fdR ["_law_machine"] []) (mR : mg "_law_refused" = some (.ref fR))
    (cdv : Value) (A : Around) (outer : List Env) (s : Shared) (H : Hp) (E : XK) (hr : Room 4 (A.deeper (PyProof.Rows.envOfC "_law_at_once" (defScope sOnce) s.heap.objs.size f cdv))) : PSigma fun t : TS => PSs (cxOf CX0 P w K mg base ["_law_number_here", "_law_box", "_law_some", "_law_rows", "_law_ending", "_law_many", "_law_machine"] "_law_at_once" (defScope sOnce) f cdv A outer s H E).nox ((defBody sOnce).drop 2) t :=
  have hu : (A.deeper (PyProof.Rows.envOfC "_law_at_once" (defScope sOnce) s.heap.objs.size f cdv)).units < cLine := Nat.lt_of_succ_lt (hu_of hr)
  have hr2 : Room 2 (A.deeper (PyProof.Rows.envOfC "_law_at_once" (defScope sOnce) s.heap.objs.size f cdv)) := hr.mono (by decide)
  have hr1 : Room 1 (A.deeper (PyProof.Rows.envOfC "_law_at_once" (defScope sOnce) s.heap.objs.size f cdv)) := hr.mono (by decide)
  ⟨_, (pss_cons (ps_expr (pe_bm PySem.F.plainAttrs_list PySem.F.slot_list_append PySem.F.type_list_append mt_append (pv 2) (pa_cons (pe_tupS (.cons (pe_lstS (.cons (pe_tupS (.cons pe_str (.cons (pv 1) (.cons (pv 0) .nil)))) (.cons (pe_tupS (.cons pe_str (.cons pe_int (.cons pe_int .nil)))) (.cons (pe_tupS (.cons pe_str .nil)) .nil)))) (.cons (pe_tupS (.cons pe_str .nil)) (.cons pe_int .nil)))) pa_nil)))
    (oTerm3 T TM mC Mk GI bI Mrun Grun brun Mdeep Gdeep bdeep Mending Gending bending GR kR bR mR cdv A outer s H E hr).2)⟩
noncomputable def oTerm1 {f C fI frun fdeep fending fR : Addr} {fdI fdrun fddeep fdending fdR : FuncData} (T : Txt K mg)
    (TM : MTx K mg C) (mC : mg "Machine" = some (.ref C)) (Mk : Mk K C fI) (GI : FnOk P w K mg base CX0 1 fI fdI ["self", "rows", "boxes", "cells", "bells"] (spInit C)) (bI : Binds K fdI ["self", "rows", "boxes", "cells", "bells"] [])
    (Mrun : Meth K C "run" frun) (Grun : FnOk P w K mg base CX0 4 frun fdrun ["self", "most"] (spRunM C)) (brun : Binds K fdrun ["self", "most"] [])
    (Mdeep : Meth K C "deep" fdeep) (Gdeep : FnOk P w K mg base CX0 1 fdeep fddeep ["self"] (spDeep C)) (bdeep : Binds K fddeep ["self"] []) (Mending : Meth K C "ending" fending) (Gending : FnOk P w K mg base CX0 1 fending fdending ["self"] (spEnding C)) (bending : Binds K fdending ["self"] [])
    (GR : FnOk P w K mg base CX0 4 fR fdR ["_law_machine"] (spRefused C)) (kR : PySem.W.keepIn K (.ref fR) = true) (bR : Binds K fdR ["_law_machine"] []) (mR : mg "_law_refused" = some (.ref fR))
    (cdv : Value) (A : Around) (outer : List Env) (s : Shared) (H : Hp) (E : XK) (hr : Room 4 (A.deeper (PyProof.Rows.envOfC "_law_at_once" (defScope sOnce) s.heap.objs.size f cdv))) : PSigma fun t : TS => PSs (cxOf CX0 P w K mg base ["_law_number_here", "_law_box", "_law_some", "_law_rows", "_law_ending", "_law_many", "_law_machine"] "_law_at_once" (defScope sOnce) f cdv A outer s H E).nox ((defBody sOnce).drop 1) t :=
  have hu : (A.deeper (PyProof.Rows.envOfC "_law_at_once" (defScope sOnce) s.heap.objs.size f cdv)).units < cLine := Nat.lt_of_succ_lt (hu_of hr)
  have hr2 : Room 2 (A.deeper (PyProof.Rows.envOfC "_law_at_once" (defScope sOnce) s.heap.objs.size f cdv)) := hr.mono (by decide)
  have hr1 : Room 1 (A.deeper (PyProof.Rows.envOfC "_law_at_once" (defScope sOnce) s.heap.objs.size f cdv)) := hr.mono (by decide)
  ⟨_, (pss_cons (ps_expr (pe_bm PySem.F.plainAttrs_list PySem.F.slot_list_append PySem.F.type_list_append mt_append (pv 2) (pa_cons (pe_tupS (.cons (pe_lstS (.cons (pe_tupS (.cons pe_str (.cons pe_int (.cons pe_int .nil)))) (.cons (pe_tupS (.cons pe_str .nil)) .nil))) (.cons (pe_tupS (.cons pe_str .nil)) (.cons pe_int .nil)))) pa_nil)))
    (oTerm2 T TM mC Mk GI bI Mrun Grun brun Mdeep Gdeep bdeep Mending Gending bending GR kR bR mR cdv A outer s H E hr).2)⟩
noncomputable def oTerm0 {f C fI frun fdeep fending fR : Addr} {fdI fdrun fddeep fdending fdR : FuncData} (T : Txt K mg)
    (TM : MTx K mg C) (mC : mg "Machine" = some (.ref C)) (Mk : Mk K C fI) (GI : FnOk P w K mg base CX0 1 fI fdI ["self", "rows", "boxes", "cells", "bells"] (spInit C)) (bI : Binds K fdI ["self", "rows", "boxes", "cells", "bells"] [])
    (Mrun : Meth K C "run" frun) (Grun : FnOk P w K mg base CX0 4 frun fdrun ["self", "most"] (spRunM C)) (brun : Binds K fdrun ["self", "most"] [])
    (Mdeep : Meth K C "deep" fdeep) (Gdeep : FnOk P w K mg base CX0 1 fdeep fddeep ["self"] (spDeep C)) (bdeep : Binds K fddeep ["self"] []) (Mending : Meth K C "ending" fending) (Gending : FnOk P w K mg base CX0 1 fending fdending ["self"] (spEnding C)) (bending : Binds K fdending ["self"] [])
    (GR : FnOk P w K mg base CX0 4 fR fdR ["_law_machine"] (spRefused C)) (kR : PySem.W.keepIn K (.ref fR) = true) (bR : Binds K fdR ["_law_machine"] []) (mR : mg "_law_refused" = some (.ref fR))
    (cdv : Value) (A : Around) (outer : List Env) (s : Shared) (H : Hp) (E : XK) (hr : Room 4 (A.deeper (PyProof.Rows.envOfC "_law_at_once" (defScope sOnce) s.heap.objs.size f cdv))) : PSigma fun t : TS => PSs (cxOf CX0 P w K mg base ["_law_number_here", "_law_box", "_law_some", "_law_rows", "_law_ending", "_law_many", "_law_machine"] "_law_at_once" (defScope sOnce) f cdv A outer s H E).nox ((defBody sOnce).drop 0) t :=
  have hu : (A.deeper (PyProof.Rows.envOfC "_law_at_once" (defScope sOnce) s.heap.objs.size f cdv)).units < cLine := Nat.lt_of_succ_lt (hu_of hr)
  have hr2 : Room 2 (A.deeper (PyProof.Rows.envOfC "_law_at_once" (defScope sOnce) s.heap.objs.size f cdv)) := hr.mono (by decide)
  have hr1 : Room 1 (A.deeper (PyProof.Rows.envOfC "_law_at_once" (defScope sOnce) s.heap.objs.size f cdv)) := hr.mono (by decide)
  ⟨_, (pss_cons (ps_set (i := 2) scOnce.nd rfl (Or.inl rfl) (pe_lstS (.cons (pe_tupS (.cons (pe_lstS (.cons (pe_tupS (.cons pe_str .nil)) .nil)) (.cons (pe_tupS (.cons pe_str .nil)) (.cons pe_int .nil)))) (.cons (pe_tupS (.cons (pe_lstS (.cons (pe_tupS (.cons pe_str (.cons (pv 0) .nil))) .nil)) (.cons (pe_tupS (.cons pe_str (.cons (pv 0) .nil))) (.cons pe_int .nil)))) (.cons (pe_tupS (.cons (pe_lstS (.cons (pe_tupS (.cons pe_str .nil)) .nil)) (.cons (pe_tupS (.cons pe_str .nil)) (.cons pe_int .nil)))) .nil)))))
    (oTerm1 T TM mC Mk GI bI Mrun Grun brun Mdeep Gdeep bdeep Mending Gending bending GR kR bR mR cdv A outer s H E hr).2)⟩
end
end My


set_option Elab.async false
set_option linter.all false
set_option maxRecDepth 100000
set_option maxHeartbeats 4000000
namespace My
open PySem L2
section
variable {P : Program} {w : World} {K : PySem.W.Frag} {mg : Str → Option Value} {base : Heap}
theorem wrapO {X : Cx} {b : List Stmt} {t : TS} {R : TS → Prop} (h : PSs X b t) (hr : R t) : ∃ t, PSs X b t ∧ R t := ⟨t, h, hr⟩
theorem box0 : (List.replicate (Int.toNat 8) [V.int 0]).flatten = bs0.map V.int := rfl
theorem ok_once {f C fI frun fdeep fending fR : Addr} {fdI fdrun fddeep fdending fdR : FuncData} {fd : FuncData} (F : Fun K "_law_at_once" "_law_at_once" sOnce f fd) (T : Txt K mg)
    (TM : MTx K mg C) (mC : mg "Machine" = some (.ref C)) (Mk : Mk K C fI) (GI : FnOk P w K mg base CX0 1 fI fdI ["self", "rows", "boxes", "cells", "bells"] (spInit C)) (bI : Binds K fdI ["self", "rows", "boxes", "cells", "bells"] [])
    (Mrun : Meth K C "run" frun) (Grun : FnOk P w K mg base CX0 4 frun fdrun ["self", "most"] (spRunM C)) (brun : Binds K fdrun ["self", "most"] [])
    (Mdeep : Meth K C "deep" fdeep) (Gdeep : FnOk P w K mg base CX0 1 fdeep fddeep ["self"] (spDeep C)) (bdeep : Binds K fddeep ["self"] []) (Mending : Meth K C "ending" fending) (Gending : FnOk P w K mg base CX0 1 fending fdending ["self"] (spEnding C)) (bending : Binds K fdending ["self"] [])
    (GR : FnOk P w K mg base CX0 4 fR fdR ["_law_machine"] (spRefused C)) (kR : PySem.W.keepIn K (.ref fR) = true) (bR : Binds K fdR ["_law_machine"] []) (mR : mg "_law_refused" = some (.ref fR)) : FnOk P w K mg base CX0 5 f fd ["_law_number_here", "_law_box"] spOnce := by
  refine F.ok scOnce (fun vs H Q E h => ?_) (fun cdv A outer s H vs Q E hr h => ?_)
  · obtain ⟨n, b, rfl, _⟩ := h
    rfl
  · obtain ⟨n, b, rfl, hb, hn, kk⟩ := h
    refine wrapO (oTerm0 T TM mC Mk GI bI Mrun Grun brun Mdeep Gdeep bdeep Mending Gending bending GR kR bR mR cdv A outer s H E hr).2 ?_
    refine ⟨Nat.le_of_ble_eq_true rfl, fun q10 n_q10 => ?_⟩
    have s_q10 := same_new (o := .tup [V.str "stop"]) n_q10
    have h_q10 : upd H q10 (.tup [V.str "stop"]) q10 = _ := upd_same
    generalize upd H q10 (.tup [V.str "stop"]) = J1 at s_q10 h_q10 ⊢
    refine ⟨Nat.le_of_ble_eq_true rfl, fun l1 n_l1 => ?_⟩
    have s_l1 := same_new (o := .lst [V.ref q10]) n_l1
    have h_l1 : upd J1 l1 (.lst [V.ref q10]) l1 = _ := upd_same
    generalize upd J1 l1 (.lst [V.ref q10]) = J2 at s_l1 h_l1 ⊢
    refine ⟨Nat.le_of_ble_eq_true rfl, fun e1 n_e1 => ?_⟩
    have s_e1 := same_new (o := .tup [V.str "stop"]) n_e1
    have h_e1 : upd J2 e1 (.tup [V.str "stop"]) e1 = _ := upd_same
    generalize upd J2 e1 (.tup [V.str "stop"]) = J3 at s_e1 h_e1 ⊢
    refine ⟨Nat.le_of_ble_eq_true rfl, fun t1 n_t1 => ?_⟩
    have s_t1 := same_new (o := .tup [V.ref l1, V.ref e1, V.int 1]) n_t1
    have h_t1 : upd J3 t1 (.tup [V.ref l1, V.ref e1, V.int 1]) t1 = _ := upd_same
    generalize upd J3 t1 (.tup [V.ref l1, V.ref e1, V.int 1]) = J4 at s_t1 h_t1 ⊢
    have p1 : P5 J4 n t1 l1 e1 [q10] [.stop] [V.str "stop"] 1 := by
      refine ⟨h_t1, (s_t1 _ _ (s_e1 _ _ h_l1)), ⟨rfl, by simp, fun i q w hq hw => ?_⟩, (s_t1 _ _ h_e1), ?_, by decide, fun ring hring => run_stop n⟩
      · match i, hq, hw with
        | 0, hq, hw => cases hq; cases hw; exact ⟨(s_t1 _ _ (s_e1 _ _ (s_l1 _ _ h_q10))), fun _ => by show ("stop" : Str) ∈ notOn; decide +kernel⟩
        | _ + 1, hq, _ => simp at hq
      · intro y hy
        simp at hy
        subst hy
        exact .inr (.inr ⟨_, rfl⟩)
    refine ⟨_, rfl, Nat.le_of_ble_eq_true rfl, fun q20 n_q20 => ?_⟩
    have s_q20 := same_new (o := .tup [V.str "halt", V.int n]) n_q20
    have h_q20 : upd J4 q20 (.tup [V.str "halt", V.int n]) q20 = _ := upd_same
    generalize upd J4 q20 (.tup [V.str "halt", V.int n]) = J5 at s_q20 h_q20 ⊢
    refine ⟨Nat.le_of_ble_eq_true rfl, fun l2 n_l2 => ?_⟩
    have s_l2 := same_new (o := .lst [V.ref q20]) n_l2
    have h_l2 : upd J5 l2 (.lst [V.ref q20]) l2 = _ := upd_same
    generalize upd J5 l2 (.lst [V.ref q20]) = J6 at s_l2 h_l2 ⊢
    refine ⟨_, rfl, Nat.le_of_ble_eq_true rfl, fun e2 n_e2 => ?_⟩
    have s_e2 := same_new (o := .tup [V.str "halt", V.int n]) n_e2
    have h_e2 : upd J6 e2 (.tup [V.str "halt", V.int n]) e2 = _ := upd_same
    generalize upd J6 e2 (.tup [V.str "halt", V.int n]) = J7 at s_e2 h_e2 ⊢
    refine ⟨Nat.le_of_ble_eq_true rfl, fun t2 n_t2 => ?_⟩
    have s_t2 := same_new (o := .tup [V.ref l2, V.ref e2, V.int 1]) n_t2
    have h_t2 : upd J7 t2 (.tup [V.ref l2, V.ref e2, V.int 1]) t2 = _ := upd_same
    generalize upd J7 t2 (.tup [V.ref l2, V.ref e2, V.int 1]) = J8 at s_t2 h_t2 ⊢
    have p2 : P5 J8 n t2 l2 e2 [q20] [.halt n] [V.str "halt", V.int n] 1 := by
      refine ⟨h_t2, (s_t2 _ _ (s_e2 _ _ h_l2)), ⟨rfl, by simp, fun i q w hq hw => ?_⟩, (s_t2 _ _ h_e2), ?_, by decide, fun ring hring => run_halt n n⟩
      · match i, hq, hw with
        | 0, hq, hw => cases hq; cases hw; exact ⟨(s_t2 _ _ (s_e2 _ _ (s_l2 _ _ h_q20))), fun _ => by show ("halt" : Str) ∈ notOn; decide +kernel⟩
        | _ + 1, hq, _ => simp at hq
      · intro y hy
        simp at hy
        rcases hy with rfl | rfl
        · exact .inr (.inr ⟨_, rfl⟩)
        · exact .inr (.inl ⟨_, rfl⟩)
    replace p1 := p1.same (s_q20.trans (s_l2.trans (s_e2.trans s_t2)))
    refine ⟨Nat.le_of_ble_eq_true rfl, fun q30 n_q30 => ?_⟩
    have s_q30 := same_new (o := .tup [V.str "back"]) n_q30
    have h_q30 : upd J8 q30 (.tup [V.str "back"]) q30 = _ := upd_same
    generalize upd J8 q30 (.tup [V.str "back"]) = J9 at s_q30 h_q30 ⊢
    refine ⟨Nat.le_of_ble_eq_true rfl, fun l3 n_l3 => ?_⟩
    have s_l3 := same_new (o := .lst [V.ref q30]) n_l3
    have h_l3 : upd J9 l3 (.lst [V.ref q30]) l3 = _ := upd_same
    generalize upd J9 l3 (.lst [V.ref q30]) = J10 at s_l3 h_l3 ⊢
    refine ⟨Nat.le_of_ble_eq_true rfl, fun e3 n_e3 => ?_⟩
    have s_e3 := same_new (o := .tup [V.str "home"]) n_e3
    have h_e3 : upd J10 e3 (.tup [V.str "home"]) e3 = _ := upd_same
    generalize upd J10 e3 (.tup [V.str "home"]) = J11 at s_e3 h_e3 ⊢
    refine ⟨Nat.le_of_ble_eq_true rfl, fun t3 n_t3 => ?_⟩
    have s_t3 := same_new (o := .tup [V.ref l3, V.ref e3, V.int 1]) n_t3
    have h_t3 : upd J11 t3 (.tup [V.ref l3, V.ref e3, V.int 1]) t3 = _ := upd_same
    generalize upd J11 t3 (.tup [V.ref l3, V.ref e3, V.int 1]) = J12 at s_t3 h_t3 ⊢
    have p3 : P5 J12 n t3 l3 e3 [q30] [.back] [V.str "home"] 1 := by
      refine ⟨h_t3, (s_t3 _ _ (s_e3 _ _ h_l3)), ⟨rfl, by simp, fun i q w hq hw => ?_⟩, (s_t3 _ _ h_e3), ?_, by decide, fun ring hring => run_back n⟩
      · match i, hq, hw with
        | 0, hq, hw => cases hq; cases hw; exact ⟨(s_t3 _ _ (s_e3 _ _ (s_l3 _ _ h_q30))), fun _ => by show ("back" : Str) ∈ notOn; decide +kernel⟩
        | _ + 1, hq, _ => simp at hq
      · intro y hy
        simp at hy
        subst hy
        exact .inr (.inr ⟨_, rfl⟩)
    replace p1 := p1.same (s_q30.trans (s_l3.trans (s_e3.trans s_t3)))
    replace p2 := p2.same (s_q30.trans (s_l3.trans (s_e3.trans s_t3)))
    refine ⟨Nat.le_of_ble_eq_true rfl, fun ls n_ls => ?_⟩
    have s_ls := same_new (o := .lst [V.ref t1, V.ref t2, V.ref t3]) n_ls
    have h_ls : upd J12 ls (.lst [V.ref t1, V.ref t2, V.ref t3]) ls = _ := upd_same
    generalize upd J12 ls (.lst [V.ref t1, V.ref t2, V.ref t3]) = J13 at s_ls h_ls ⊢
    have r1 : Q5 J13 n ls t1 := ⟨l1, e1, _, _, _, _, ne_of_none p1.rr n_ls, p1.same s_ls⟩
    have r2 : Q5 J13 n ls t2 := ⟨l2, e2, _, _, _, _, ne_of_none p2.rr n_ls, p2.same s_ls⟩
    have r3 : Q5 J13 n ls t3 := ⟨l3, e3, _, _, _, _, ne_of_none p3.rr n_ls, p3.same s_ls⟩
    clear p1 p2 p3 s_q10 h_q10 n_q10 s_l1 h_l1 n_l1 s_e1 h_e1 n_e1 s_t1 h_t1 n_t1 s_q20 h_q20 n_q20 s_l2 h_l2 n_l2 s_e2 h_e2 n_e2 s_t2 h_t2 n_t2 s_q30 h_q30 n_q30 s_l3 h_l3 n_l3 s_e3 h_e3 n_e3 s_t3 h_t3 n_t3
    refine ⟨_, rfl, .inl ⟨rfl, _, SqL.of h_ls⟩, Nat.le_of_ble_eq_true rfl, fun q40 n_q40 => ?_⟩
    have s_q40 := same_new (o := .tup [V.str "call", V.int 1, V.int 0]) n_q40
    have h_q40 : upd J13 q40 (.tup [V.str "call", V.int 1, V.int 0]) q40 = _ := upd_same
    generalize upd J13 q40 (.tup [V.str "call", V.int 1, V.int 0]) = J14 at s_q40 h_q40 ⊢
    refine ⟨Nat.le_of_ble_eq_true rfl, fun q41 n_q41 => ?_⟩
    have s_q41 := same_new (o := .tup [V.str "back"]) n_q41
    have h_q41 : upd J14 q41 (.tup [V.str "back"]) q41 = _ := upd_same
    generalize upd J14 q41 (.tup [V.str "back"]) = J15 at s_q41 h_q41 ⊢
    refine ⟨Nat.le_of_ble_eq_true rfl, fun l4 n_l4 => ?_⟩
    have s_l4 := same_new (o := .lst [V.ref q40, V.ref q41]) n_l4
    have h_l4 : upd J15 l4 (.lst [V.ref q40, V.ref q41]) l4 = _ := upd_same
    generalize upd J15 l4 (.lst [V.ref q40, V.ref q41]) = J16 at s_l4 h_l4 ⊢
    refine ⟨Nat.le_of_ble_eq_true rfl, fun e4 n_e4 => ?_⟩
    have s_e4 := same_new (o := .tup [V.str "home"]) n_e4
    have h_e4 : upd J16 e4 (.tup [V.str "home"]) e4 = _ := upd_same
    generalize upd J16 e4 (.tup [V.str "home"]) = J17 at s_e4 h_e4 ⊢
    refine ⟨Nat.le_of_ble_eq_true rfl, fun t4 n_t4 => ?_⟩
    have s_t4 := same_new (o := .tup [V.ref l4, V.ref e4, V.int 3]) n_t4
    have h_t4 : upd J17 t4 (.tup [V.ref l4, V.ref e4, V.int 3]) t4 = _ := upd_same
    generalize upd J17 t4 (.tup [V.ref l4, V.ref e4, V.int 3]) = J18 at s_t4 h_t4 ⊢
    have p4 : P5 J18 n t4 l4 e4 [q40, q41] [.jcm "call" 1 0, .back] [V.str "home"] 3 := by
      refine ⟨h_t4, (s_t4 _ _ (s_e4 _ _ h_l4)), ⟨rfl, by simp, fun i q w hq hw => ?_⟩, (s_t4 _ _ h_e4), ?_, by decide, fun ring hring => run_call n⟩
      · match i, hq, hw with
        | 0, hq, hw => cases hq; cases hw; exact ⟨⟨(s_t4 _ _ (s_e4 _ _ (s_l4 _ _ (s_q41 _ _ h_q40)))), by decide +kernel, by decide, by simp⟩, fun c => by simp at c⟩
        | 1, hq, hw => cases hq; cases hw; exact ⟨(s_t4 _ _ (s_e4 _ _ (s_l4 _ _ h_q41))), fun _ => by show ("back" : Str) ∈ notOn; decide +kernel⟩
        | _ + 2, hq, _ => simp at hq
      · intro y hy
        simp at hy
        subst hy
        exact .inr (.inr ⟨_, rfl⟩)
    replace r1 := r1.same (s_q40.trans (s_q41.trans (s_l4.trans (s_e4.trans s_t4))))
    replace r2 := r2.same (s_q40.trans (s_q41.trans (s_l4.trans (s_e4.trans s_t4))))
    replace r3 := r3.same (s_q40.trans (s_q41.trans (s_l4.trans (s_e4.trans s_t4))))
    have g4 := (s_t4 _ _ (s_e4 _ _ (s_l4 _ _ (s_q41 _ _ (s_q40 _ _ h_ls)))))
    have r4 : Q5 J18 n ls t4 := ⟨l4, e4, _, _, _, _, (ne_of_none (s_q41 _ _ (s_q40 _ _ h_ls)) n_l4).symm, p4⟩
    clear p4 s_q40 h_q40 n_q40 s_q41 h_q41 n_q41 s_l4 h_l4 n_l4 s_e4 h_e4 n_e4 s_t4 h_t4 n_t4
    refine ⟨ls, [V.ref t1, V.ref t2, V.ref t3], V.ref t4, rfl, rfl, g4, small9k (show 3 ≤ 9000 by decide), ?_⟩
    replace r1 := r1.put (ys := [V.ref t1, V.ref t2, V.ref t3] ++ [V.ref t4]) g4
    replace r2 := r2.put (ys := [V.ref t1, V.ref t2, V.ref t3] ++ [V.ref t4]) g4
    replace r3 := r3.put (ys := [V.ref t1, V.ref t2, V.ref t3] ++ [V.ref t4]) g4
    replace r4 := r4.put (ys := [V.ref t1, V.ref t2, V.ref t3] ++ [V.ref t4]) g4
    clear g4 h_ls
    have h_ls : upd J18 ls (.lst ([V.ref t1, V.ref t2, V.ref t3] ++ [V.ref t4])) ls = some (.lst [V.ref t1, V.ref t2, V.ref t3, V.ref t4]) := upd_same
    generalize upd J18 ls (.lst ([V.ref t1, V.ref t2, V.ref t3] ++ [V.ref t4])) = JA at r1 r2 r3 r4 h_ls ⊢
    refine ⟨_, rfl, .inl ⟨rfl, _, SqL.of h_ls⟩, _, rfl, _, rfl, Nat.le_of_ble_eq_true rfl, fun q50 n_q50 => ?_⟩
    have s_q50 := same_new (o := .tup [V.str "set", V.int b, V.int n]) n_q50
    have h_q50 : upd JA q50 (.tup [V.str "set", V.int b, V.int n]) q50 = _ := upd_same
    generalize upd JA q50 (.tup [V.str "set", V.int b, V.int n]) = J19 at s_q50 h_q50 ⊢
    refine ⟨Nat.le_of_ble_eq_true rfl, fun q51 n_q51 => ?_⟩
    have s_q51 := same_new (o := .tup [V.str "mark", V.int 2, V.int 1]) n_q51
    have h_q51 : upd J19 q51 (.tup [V.str "mark", V.int 2, V.int 1]) q51 = _ := upd_same
    generalize upd J19 q51 (.tup [V.str "mark", V.int 2, V.int 1]) = J20 at s_q51 h_q51 ⊢
    refine ⟨Nat.le_of_ble_eq_true rfl, fun q52 n_q52 => ?_⟩
    have s_q52 := same_new (o := .tup [V.str "back"]) n_q52
    have h_q52 : upd J20 q52 (.tup [V.str "back"]) q52 = _ := upd_same
    generalize upd J20 q52 (.tup [V.str "back"]) = J21 at s_q52 h_q52 ⊢
    refine ⟨Nat.le_of_ble_eq_true rfl, fun l5 n_l5 => ?_⟩
    have s_l5 := same_new (o := .lst [V.ref q50, V.ref q51, V.ref q52]) n_l5
    have h_l5 : upd J21 l5 (.lst [V.ref q50, V.ref q51, V.ref q52]) l5 = _ := upd_same
    generalize upd J21 l5 (.lst [V.ref q50, V.ref q51, V.ref q52]) = J22 at s_l5 h_l5 ⊢
    refine ⟨Nat.le_of_ble_eq_true rfl, fun e5 n_e5 => ?_⟩
    have s_e5 := same_new (o := .tup [V.str "home"]) n_e5
    have h_e5 : upd J22 e5 (.tup [V.str "home"]) e5 = _ := upd_same
    generalize upd J22 e5 (.tup [V.str "home"]) = J23 at s_e5 h_e5 ⊢
    refine ⟨Nat.le_of_ble_eq_true rfl, fun t5 n_t5 => ?_⟩
    have s_t5 := same_new (o := .tup [V.ref l5, V.ref e5, V.int 4]) n_t5
    have h_t5 : upd J23 t5 (.tup [V.ref l5, V.ref e5, V.int 4]) t5 = _ := upd_same
    generalize upd J23 t5 (.tup [V.ref l5, V.ref e5, V.int 4]) = J24 at s_t5 h_t5 ⊢
    have p5 : P5 J24 n t5 l5 e5 [q50, q51, q52] [.two "set" b n, .jcm "mark" 2 1, .back] [V.str "home"] 4 := by
      refine ⟨h_t5, (s_t5 _ _ (s_e5 _ _ h_l5)), ⟨rfl, by simp, fun i q w hq hw => ?_⟩, (s_t5 _ _ h_e5), ?_, by decide, fun ring hring => run_mark hring n b n⟩
      · match i, hq, hw with
        | 0, hq, hw => cases hq; cases hw; exact ⟨⟨(s_t5 _ _ (s_e5 _ _ (s_l5 _ _ (s_q52 _ _ (s_q51 _ _ h_q50))))), by decide +kernel, hb, fun c => absurd c (by decide +kernel)⟩, fun c => by simp at c⟩
        | 1, hq, hw => cases hq; cases hw; exact ⟨⟨(s_t5 _ _ (s_e5 _ _ (s_l5 _ _ (s_q52 _ _ h_q51)))), by decide +kernel, by decide, by simp⟩, fun c => by simp at c⟩
        | 2, hq, hw => cases hq; cases hw; exact ⟨(s_t5 _ _ (s_e5 _ _ (s_l5 _ _ h_q52))), fun _ => by show ("back" : Str) ∈ notOn; decide +kernel⟩
        | _ + 3, hq, _ => simp at hq
      · intro y hy
        simp at hy
        subst hy
        exact .inr (.inr ⟨_, rfl⟩)
    replace r1 := r1.same (s_q50.trans (s_q51.trans (s_q52.trans (s_l5.trans (s_e5.trans s_t5)))))
    replace r2 := r2.same (s_q50.trans (s_q51.trans (s_q52.trans (s_l5.trans (s_e5.trans s_t5)))))
    replace r3 := r3.same (s_q50.trans (s_q51.trans (s_q52.trans (s_l5.trans (s_e5.trans s_t5)))))
    replace r4 := r4.same (s_q50.trans (s_q51.trans (s_q52.trans (s_l5.trans (s_e5.trans s_t5)))))
    have g5 := (s_t5 _ _ (s_e5 _ _ (s_l5 _ _ (s_q52 _ _ (s_q51 _ _ (s_q50 _ _ h_ls))))))
    have r5 : Q5 J24 n ls t5 := ⟨l5, e5, _, _, _, _, (ne_of_none (s_q52 _ _ (s_q51 _ _ (s_q50 _ _ h_ls))) n_l5).symm, p5⟩
    clear p5 s_q50 h_q50 n_q50 s_q51 h_q51 n_q51 s_q52 h_q52 n_q52 s_l5 h_l5 n_l5 s_e5 h_e5 n_e5 s_t5 h_t5 n_t5
    refine ⟨ls, [V.ref t1, V.ref t2, V.ref t3, V.ref t4], V.ref t5, rfl, rfl, g5, small9k (show 4 ≤ 9000 by decide), ?_⟩
    replace r1 := r1.put (ys := [V.ref t1, V.ref t2, V.ref t3, V.ref t4] ++ [V.ref t5]) g5
    replace r2 := r2.put (ys := [V.ref t1, V.ref t2, V.ref t3, V.ref t4] ++ [V.ref t5]) g5
    replace r3 := r3.put (ys := [V.ref t1, V.ref t2, V.ref t3, V.ref t4] ++ [V.ref t5]) g5
    replace r4 := r4.put (ys := [V.ref t1, V.ref t2, V.ref t3, V.ref t4] ++ [V.ref t5]) g5
    replace r5 := r5.put (ys := [V.ref t1, V.ref t2, V.ref t3, V.ref t4] ++ [V.ref t5]) g5
    clear g5 h_ls
    have h_ls : upd J24 ls (.lst ([V.ref t1, V.ref t2, V.ref t3, V.ref t4] ++ [V.ref t5])) ls = some (.lst ([t1, t2, t3, t4, t5].map V.ref)) := upd_same
    generalize upd J24 ls (.lst ([V.ref t1, V.ref t2, V.ref t3, V.ref t4] ++ [V.ref t5])) = J at r1 r2 r3 r4 r5 h_ls ⊢
    have all : ∀ (i : Nat) t, [t1, t2, t3, t4, t5][i]? = some t → Q5 J n ls t := fun i t h => by
      match i, h with
      | 0, h => cases h; exact r1
      | 1, h => cases h; exact r2
      | 2, h => cases h; exact r3
      | 3, h => cases h; exact r4
      | 4, h => cases h; exact r5
      | _ + 5, h => simp at h
    clear r1 r2 r3 r4 r5
    generalize [t1, t2, t3, t4, t5] = ts at all h_ls ⊢
    refine ⟨_, rfl, ls, rfl, ⟨_, SqL.of h_ls⟩, for_list (xs := ts.map V.ref) (fun i σ H6 => ∃ (v3 v4 v5 v6 : Option V), σ = [some (.int n), some (.int b), some (.ref ls), v3, v4, v5, v6] ∧ Same J H6) ?_ ?_ ?_ ?_⟩
    · exact ⟨none, none, none, none, rfl, .refl _⟩
    · rintro i σ H6 hi ⟨v3, v4, v5, v6, rfl, s6⟩
      exact SqL.of (s6 _ _ h_ls)
    · rintro i x0 σ H6 hx ⟨v3, v4, v5, v6, rfl, s6⟩
      rw [List.getElem?_map] at hx
      cases ht : ts[i]? with
      | none => rw [ht] at hx; cases hx
      | some t =>
      rw [ht] at hx
      cases hx
      obtain ⟨lr, pe, qs, ws, e, k, ne_, p⟩ := all i t ht
      have p := p.same s6
      refine ⟨t, _, rfl, SqT.of p.tr, rfl, _, _, rfl, _, _, rfl, _, _, rfl, rfl, ?_⟩
      -- the machine
      refine ⟨_, rfl, Nat.le_of_ble_eq_true rfl, fun l3 m4 => ?_⟩
      have y1 := same_new (o := .lst [V.int 0]) m4
      have e1 : upd H6 l3 (.lst [V.int 0]) l3 = _ := upd_same
      generalize upd H6 l3 (.lst [V.int 0]) = G1 at y1 e1 ⊢
      refine ⟨l3, 8, _, rfl, rfl, e1, by decide, by decide, Nat.le_of_ble_eq_true rfl, fun lb m5 => ?_⟩
      have y2 := same_new (o := .lst (List.replicate (Int.toNat 8) [V.int 0]).flatten) m5
      have e2 : upd G1 lb (.lst (List.replicate (Int.toNat 8) [V.int 0]).flatten) lb = some (.lst (bs0.map V.int)) := by rw [upd_same, box0]
      generalize upd G1 lb (.lst (List.replicate (Int.toNat 8) [V.int 0]).flatten) = G2 at y2 e2 ⊢
      refine fun lc m7 => ?_
      have y4 := same_new (o := .dK []) m7
      have e4 : upd G2 lc (.dK []) lc = _ := upd_same
      generalize upd G2 lc (.dK []) = G4 at y4 e4 ⊢
      refine ⟨Nat.le_of_ble_eq_true rfl, fun ll m8 => ?_⟩
      have y5 := same_new (o := .lst [V.int 0]) m8
      have e5 : upd G4 ll (.lst [V.int 0]) ll = some (.lst ([(0 : Int)].map V.int)) := upd_same
      generalize upd G4 ll (.lst [V.int 0]) = G5 at y5 e5 ⊢
      have t0 := y1.trans (y2.trans (y4.trans y5))
      have hlb := y5 _ _ (y4 _ _ e2)
      have hlc := y5 _ _ e4
      refine fun x dx nx ndx ne => ?_
      have s3 : ∀ {c o}, G5 c = some o → upd (upd G5 dx (.own x)) x (.ins C dx []) c = some o := fun {c o} h => by
        rw [upd_ne (ne_of_none h nx), upd_ne (ne_of_none h ndx)]
        exact h
      refine ⟨x, dx, lr, lb, lc, ll, qs.map V.ref, bs0, [0], [], fun _ => 0, rfl, upd_same, s3 (t0 _ _ p.rr), s3 hlb, rfl, s3 hlc, Rep.nil, by decide, s3 e5, by decide, fun m rung H3 hrg M SX own => ⟨rfl, ?_⟩⟩
      have t3 : Same G5 H3 := fun c o h => SX _ _ (ne_of_none h nx) (s3 h)
      have no : ∀ {c o}, G5 c = some o → ¬ Own m x c := fun {c o} h g => by
        have := own c g (ne_of_none h nx)
        rw [s3 h] at this
        cases this
      have p3 := p.same (t0.trans t3)
      have M0 : MG C H3 x m (qs.map V.ref) rung 50 zz0 := M
      have hring : ringOf rung 0 = true := by
        show (valV rung (Sum.inl 0)).isSome = true
        rw [hrg 0]
        decide
      obtain ⟨zF, hrun, zh, zw, zp⟩ := p.run (ringOf rung) hring
      have S0 : Stands qs.length zz0 := ⟨.inr ⟨0, rfl, p.W.pos⟩, fun p hp => absurd hp (by simp [zz0, z0])⟩
      obtain ⟨w0, ho, hw⟩ := M0.obj
      refine ⟨_, rfl, x, m.dx, _, rfl, ho, f_no no_ending, x, _, _, rfl, ⟨m, _, rung, M0⟩, fun v hv => ?_⟩
      cases (show v = .non from hv)
      refine ⟨rfl, _, rfl, ?_⟩
      refine iteN (by decide) ?_
      have hk4 := p.k4
      refine ⟨_, rfl, x, m.dx, _, rfl, ho, f_no no_run, _, rfl, _, rfl, _, _, rfl, rfl, x, m, qs, ws, rung, 50, k + n, zz0, vs2 (by omega), M0, p3.W, S0, by rw [hrun]; show 50 + k ≤ 900; omega, fun H4 f4 M4 S4 => ?_⟩
      rw [hrun] at M4 S4 ⊢
      have M4 : MG C H4 x m (qs.map V.ref) rung (50 + k) zF := M4
      refine ⟨_, rfl, rfl, _, rfl, ?_⟩
      refine iteN (by simp) ?_
      have t4 : Same G5 H4 := fun c o h => f4 _ _ (no h) (t3 _ _ h)
      have p4 := p.same (t0.trans t4)
      obtain ⟨w4, ho4, hw4⟩ := M4.obj
      refine ⟨_, rfl, x, m.dx, _, rfl, ho4, f_no no_ending, x, _, _, rfl, ⟨m, _, rung, M4⟩, fun v hv => ?_⟩
      rw [zw] at hv
      obtain ⟨pf, rfl, hpf⟩ : ∃ pf, v = .ref pf ∧ H4 pf = some (.tup e) := hv
      refine ⟨_, rfl, ⟨pf, pe, e, rfl, rfl, hpf, p4.en, p.sc⟩, _, rfl, ?_⟩
      refine iteN (by decide) ?_
      refine ⟨_, rfl, x, m.dx, _, rfl, ho4, f_no no_deep, x, _, _, rfl, ⟨m, _, rung, M4⟩, ?_⟩
      refine ⟨rfl, _, rfl, ?_⟩
      rw [zp]
      refine iteN (by decide) ?_
      refine ⟨_, rfl, x, m, qs.map V.ref, rung, 50 + k, zF, rfl, M4, .inr ⟨zh, fun H5 s5 => ?_⟩⟩
      refine ⟨rfl, _, rfl, ?_⟩
      refine iteN (by decide) ?_
      exact ⟨_, _, _, _, rfl, s6.trans (t0.trans (t4.trans s5))⟩
    · rintro σ H6 ⟨v3, v4, v5, v6, rfl, s6⟩
      exact kk _
end
end My


set_option Elab.async false
set_option linter.all false
set_option maxRecDepth 100000
set_option maxHeartbeats 4000000
namespace L2
open PySem PySem.Spec PyProof.Rows
/-! ### a display of texts -/
def strV : List Expr → List V
  | .Constant (.str x) _ _ :: r => V.str x :: strV r
  | _ => []
def isStrs : List Expr → Bool
  | [] => true
  | .Constant (.str _) _ _ :: r => isStrs r
  | _ => false
theorem pa_strs {X : Cx} : ∀ {es : List Expr}, isStrs es = true → PA X es (fun _ H Q => Q (strV es) H)
  | [], _ => pa_nil
  | .Constant (.str x) j p :: r, h => by
    have ih := pa_strs (X := X) (es := r) h
    exact pa_cons (pe_str (x := x)) ih
end L2
namespace My
open PySem L2
section
variable {P : Program} {w : World} {K : PySem.W.Frag} {mg : Str → Option Value} {base : Heap}
theorem scLaw : FnScope ["_law_script", "_law_words", "_law_rows", "_law_boxes", "_law_cells", "_law_bells", "_law_machine", "_law_state", "_law_turn"] ["_law_script"] (defScope sLaw) := ⟨rfl, rfl, rfl, by decide +kernel, rfl, by decide +kernel, by decide +kernel⟩
def words0 : List Str := ["stop", "back", "halt", "set", "more", "copy", "add", "less", "load", "keep"]
def s0r : Stmt := (defBody sLaw).getD 0 (.Pass ⟨0, 0, 0, 0⟩)
def es0r : List Expr := match s0r with
  | .Assign _ (.List es _) _ => es
  | _ => []
def p0a : Pos := match s0r with
  | .Assign [.Name _ p] _ _ => p
  | _ => ⟨0, 0, 0, 0⟩
def p0b : Pos := match s0r with
  | .Assign _ (.List _ p) _ => p
  | _ => ⟨0, 0, 0, 0⟩
def p0c : Pos := match s0r with
  | .Assign _ _ p => p
  | _ => ⟨0, 0, 0, 0⟩
theorem raw_eq : s0r = .Assign [.Name "_law_words" p0a] (.List es0r p0b) p0c := rfl
theorem raw_strs : isStrs es0r = true := rfl
theorem raw_val : strV es0r = words0.map V.str := rfl
@[irreducible] def s0 : Stmt := s0r
@[irreducible] def es0 : List Expr := es0r
theorem s0_raw : s0 = s0r := by unfold s0; rfl
theorem es0_raw : es0 = es0r := by unfold es0; rfl
theorem s0_eq : s0 = .Assign [.Name "_law_words" p0a] (.List es0 p0b) p0c := by rw [s0_raw, es0_raw]; exact raw_eq
theorem es0_strs : isStrs es0 = true := by rw [es0_raw]; exact raw_strs
theorem es0_val : strV es0 = words0.map V.str := by rw [es0_raw]; exact raw_val
theorem ps_words {X : Cx} {i : Nat} {x : Str} {es : List Expr} {pos' lp pos : Pos} (hN : X.N.Nodup) (hi : X.N[i]? = some x) (hx : Loc X.env.scope x) (hes : isStrs es = true) (hf : X.fn x = true ∨ X.env.scope.names.lookup x = some .local) : PS X (.Assign [.Name x pos'] (.List es lp) pos) (tAsg (tLst fun _ H Q => Q (strV es) H) (gName i)) :=
  ps_set hN hi hx (pe_lst (pa_strs hes)) rfl hf
def words1 : List Str := ["tell", "see", "put", "take", "jump", "zero", "below", "call", "mark", "table"]
def s1r : Stmt := (defBody sLaw).getD 1 (.Pass ⟨0, 0, 0, 0⟩)
def es1r : List Expr := match s1r with
  | .Assign _ (.BinOp _ _ (.List es _) _) _ => es
  | _ => []
def p1a : Pos := match s1r with
  | .Assign [.Name _ p] _ _ => p
  | _ => ⟨0, 0, 0, 0⟩
def p1b : Pos := match s1r with
  | .Assign _ (.BinOp _ _ (.List _ p) _) _ => p
  | _ => ⟨0, 0, 0, 0⟩
def p1c : Pos := match s1r with
  | .Assign _ _ p => p
  | _ => ⟨0, 0, 0, 0⟩
def p1d : Pos := match s1r with
  | .Assign _ (.BinOp (.Name _ p) _ _ _) _ => p
  | _ => ⟨0, 0, 0, 0⟩
def p1e : Pos := match s1r with
  | .Assign _ (.BinOp _ _ _ p) _ => p
  | _ => ⟨0, 0, 0, 0⟩
theorem raw1_eq : s1r = .Assign [.Name "_law_words" p1a] (.BinOp (.Name "_law_words" p1d) .Add (.List es1r p1b) p1e) p1c := rfl
theorem raw1_strs : isStrs es1r = true := rfl
theorem raw1_val : strV es1r = words1.map V.str := rfl
@[irreducible] def s1 : Stmt := s1r
@[irreducible] def es1 : List Expr := es1r
theorem s1_raw : s1 = s1r := by unfold s1; rfl
theorem es1_raw : es1 = es1r := by unfold es1; rfl
theorem s1_eq : s1 = .Assign [.Name "_law_words" p1a] (.BinOp (.Name "_law_words" p1d) .Add (.List es1 p1b) p1e) p1c := by rw [s1_raw, es1_raw]; exact raw1_eq
theorem es1_strs : isStrs es1 = true := by rw [es1_raw]; exact raw1_strs
theorem es1_val : strV es1 = words1.map V.str := by rw [es1_raw]; exact raw1_val
theorem raw_body : defBody sLaw = s0r :: s1r :: (defBody sLaw).drop 2 := rfl
theorem body_eq : defBody sLaw = s0 :: s1 :: (defBody sLaw).drop 2 := by rw [s0_raw, s1_raw]; exact raw_body
noncomputable def ps_words2 {X : Cx} {i : Nat} {x : Str} {es : List Expr} {ws : List Str} {pos' lp pos p3 p4 : Pos} (hN : X.N.Nodup) (hi : X.N[i]? = some x) (hx : Loc X.env.scope x) (hes : isStrs es = true) (hv : strV es = ws.map V.str) (hl : Vis X.env.scope x) (hd : (x == ("__debug__" : Str)) = false) (hcd : (x == ("__classdict__" : Str)) = false) (hf : X.fn x = true ∨ X.env.scope.names.lookup x = some .local) : PSigma fun t : TS => PS X (.Assign [.Name x pos'] (.BinOp (.Name x p3) .Add (.List es lp) p4) pos) t :=
  have h1 : PA X es (fun _ H Q => Q (ws.map V.str) H) := by
    rw [← hv]
    exact pa_strs hes
  ⟨_, ps_set hN hi hx (pe_op op_cat (pe_var hi hl hd hcd) (pe_lst h1)) rfl hf⟩
end
section
variable {P : Program} {w : World} {K : PySem.W.Frag} {mg : Str → Option Value} {base : Heap}
noncomputable def law_ps1 {f : Addr} (cdv : Value) (A : Around) (outer : List Env) (s : Shared) (H : Hp) (E : XK) : PSigma fun t : TS => PS (cxOf CX0 P w K mg base ["_law_script", "_law_words", "_law_rows", "_law_boxes", "_law_cells", "_law_bells", "_law_machine", "_law_state", "_law_turn"] "law" (defScope sLaw) f cdv A outer s H E).nox (.Assign [.Name "_law_words" p1a] (.BinOp (.Name "_law_words" p1d) .Add (.List es1 p1b) p1e) p1c) t :=
  ps_words2 (i := 1) scLaw.nd rfl (Or.inl rfl) es1_strs es1_val (Or.inl rfl) (by decide) (by decide) (.inl rfl)
theorem law_ps1' {f : Addr} (cdv : Value) (A : Around) (outer : List Env) (s : Shared) (H : Hp) (E : XK) : PS (cxOf CX0 P w K mg base ["_law_script", "_law_words", "_law_rows", "_law_boxes", "_law_cells", "_law_bells", "_law_machine", "_law_state", "_law_turn"] "law" (defScope sLaw) f cdv A outer s H E).nox s1 (law_ps1 (P := P) (w := w) (K := K) (mg := mg) (base := base) (f := f) cdv A outer s H E).1 := by
  rw [s1_eq]
  exact (law_ps1 cdv A outer s H E).2
theorem law_ps0 {f : Addr} (cdv : Value) (A : Around) (outer : List Env) (s : Shared) (H : Hp) (E : XK) : PS (cxOf CX0 P w K mg base ["_law_script", "_law_words", "_law_rows", "_law_boxes", "_law_cells", "_law_bells", "_law_machine", "_law_state", "_law_turn"] "law" (defScope sLaw) f cdv A outer s H E).nox s0 (tAsg (tLst fun _ H Q => Q (words0.map V.str) H) (gName 1)) := by
  rw [s0_eq, ← es0_val]
  exact ps_words scLaw.nd rfl (Or.inl rfl) es0_strs (.inl rfl)
/-- a body's term, shut off: Lean opens the type of PSs to see whether it is a function's -/
structure PW (X : Cx) (b : List Stmt) (t : TS) : Prop where
  out : PSs X b t
theorem law_cons2 {X : Cx} {t t1 t' : TS} {b rest : List Stmt} {s0 s1 : Stmt} (hb : b = s0 :: s1 :: rest) (h0 : PS X s0 t) (h1 : PS X s1 t1) (h : PSs X rest t') : PW X b (tSeq t (tSeq t1 t')) := ⟨by
  rw [hb]
  exact pss_cons h0 (pss_cons h1 h)⟩
theorem wrap {X : Cx} {b : List Stmt} {t : TS} {R : TS → Prop} (h : PW X b t) (hr : R t) : ∃ t, PSs X b t ∧ R t := ⟨t, h.out, hr⟩
end
end My


set_option Elab.async false
set_option linter.all false
set_option maxRecDepth 100000
set_option maxHeartbeats 4000000
namespace My
open PySem L2
section
variable {P : Program} {w : World} {K : PySem.W.Frag} {mg : Str → Option Value} {base : Heap}
noncomputable def restTerm2 {f C fP fB fS fA fT fC fR fO fN fI fending : Addr} {fdP fdB fdS fdA fdT fdC fdR fdO fdN fdI fdending : FuncData} (T : Txt K mg)
    (GP : FnOk P w K mg base CX0 2 fP fdP ["_law_script", "_law_at", "_law_most", "_law_words"] (spProg (K := K))) (kP : PySem.W.keepIn K (.ref fP) = true) (bP : Binds K fdP ["_law_script", "_law_at", "_law_most", "_law_words"] []) (mP : mg "_law_program" = some (.ref fP))
    (GB : FnOk P w K mg base CX0 2 fB fdB ["_law_script", "_law_at"] (spBegin (K := K))) (kB : PySem.W.keepIn K (.ref fB) = true) (bB : Binds K fdB ["_law_script", "_law_at"] []) (mB : mg "_law_beginning" = some (.ref fB))
    (GS : FnOk P w K mg base CX0 1 fS fdS ["_law_boxes", "_law_cells"] spStart) (kS : PySem.W.keepIn K (.ref fS) = true) (bS : Binds K fdS ["_law_boxes", "_law_cells"] []) (mS : mg "_law_start" = some (.ref fS))
    (GA : FnOk P w K mg base CX0 3 fA fdA ["_law_machine", "_law_state"] (spAlike C)) (kA : PySem.W.keepIn K (.ref fA) = true) (bA : Binds K fdA ["_law_machine", "_law_state"] []) (mA : mg "_law_alike" = some (.ref fA))
    (GT : FnOk P w K mg base CX0 3 fT fdT ["_law_rows", "_law_bells", "_law_state"] spStepL) (kT : PySem.W.keepIn K (.ref fT) = true) (bT : Binds K fdT ["_law_rows", "_law_bells", "_law_state"] []) (mT : mg "_law_step" = some (.ref fT))
    (GC : FnOk P w K mg base CX0 1 fC fdC ["_law_script", "_law_k"] (spCell (K := K))) (kC : PySem.W.keepIn K (.ref fC) = true) (bC : Binds K fdC ["_law_script", "_law_k"] []) (mC_ : mg "_law_cell_at" = some (.ref fC))
    (GR : FnOk P w K mg base CX0 4 fR fdR ["_law_machine"] (spRefused C)) (kR : PySem.W.keepIn K (.ref fR) = true) (bR : Binds K fdR ["_law_machine"] []) (mR : mg "_law_refused" = some (.ref fR))
    (GO : FnOk P w K mg base CX0 5 fO fdO ["_law_machine", "_law_state", "_law_most"] (spOver C)) (kO : PySem.W.keepIn K (.ref fO) = true) (bO : Binds K fdO ["_law_machine", "_law_state", "_law_most"] []) (mO : mg "_law_over" = some (.ref fO))
    (GN : FnOk P w K mg base CX0 5 fN fdN ["_law_number_here", "_law_box"] spOnce) (kN : PySem.W.keepIn K (.ref fN) = true) (bN : Binds K fdN ["_law_number_here", "_law_box"] []) (mN : mg "_law_at_once" = some (.ref fN))
    (TM : MTx K mg C) (mC : mg "Machine" = some (.ref C)) (Mk : Mk K C fI) (GI : FnOk P w K mg base CX0 1 fI fdI ["self", "rows", "boxes", "cells", "bells"] (spInit C)) (bI : Binds K fdI ["self", "rows", "boxes", "cells", "bells"] [])
    (Mending : Meth K C "ending" fending) (Gending : FnOk P w K mg base CX0 1 fending fdending ["self"] (spEnding C)) (bending : Binds K fdending ["self"] [])
    (cdv : Value) (A : Around) (outer : List Env) (s : Shared) (H : Hp) (E : XK) (hr : Room 5 (A.deeper (PyProof.Rows.envOfC "law" (defScope sLaw) s.heap.objs.size f cdv))) : PSigma fun t : TS => PSs (cxOf CX0 P w K mg base ["_law_script", "_law_words", "_law_rows", "_law_boxes", "_law_cells", "_law_bells", "_law_machine", "_law_state", "_law_turn"] "law" (defScope sLaw) f cdv A outer s H E).nox ((defBody sLaw).drop 7) t :=
  have hu : (A.deeper (PyProof.Rows.envOfC "law" (defScope sLaw) s.heap.objs.size f cdv)).units + 1 < cLine := hu_of hr
  have hr4 : Room 4 (A.deeper (PyProof.Rows.envOfC "law" (defScope sLaw) s.heap.objs.size f cdv)) := hr.mono (by decide)
  have hr3 : Room 3 (A.deeper (PyProof.Rows.envOfC "law" (defScope sLaw) s.heap.objs.size f cdv)) := hr.mono (by decide)
  have hr2 : Room 2 (A.deeper (PyProof.Rows.envOfC "law" (defScope sLaw) s.heap.objs.size f cdv)) := hr.mono (by decide)
  have hr1 : Room 1 (A.deeper (PyProof.Rows.envOfC "law" (defScope sLaw) s.heap.objs.size f cdv)) := hr.mono (by decide)
  ⟨_, (pss_cons (ps_if (pw_and (pt_cmpR op_isN (pe_dget hu (pv 7) pe_str (fun _ _ => rfl)) pe_non (nomark _)) (pw_and1 (pt_not (pt_val (pe_call GO hr (by rfl) mO kO bO .nil pass0 (pa_cons (pv 6) (pa_cons (pv 7) (pa_cons (pe_op op_mod (pe_call GC hr1 (by rfl) mC_ kC bC .nil pass0 (pa_cons (pv 0) (pa_cons pe_int pa_nil))) (pe_op op_pow pe_int pe_int)) pa_nil)))))))).pt (pss_one (ps_ret pe_bl)) pss_nil)
    (pss_one (ps_ret (pe_and (pe_call GA hr3 (by rfl) mA kA bA .nil pass0 (pa_cons (pv 6) (pa_cons (pv 7) pa_nil))) (pe_one (pe_call GN hr (by rfl) mN kN bN .nil pass0 (pa_cons (pe_op op_mod (pe_call GC hr1 (by rfl) mC_ kC bC .nil pass0 (pa_cons (pv 0) (pa_cons pe_int pa_nil))) (pe_op op_pow pe_int pe_int)) (pa_cons (pe_op op_mod (pe_call GC hr1 (by rfl) mC_ kC bC .nil pass0 (pa_cons (pv 0) (pa_cons pe_int pa_nil))) pe_int) pa_nil))))))))⟩
noncomputable def restTerm1 {f C fP fB fS fA fT fC fR fO fN fI fending : Addr} {fdP fdB fdS fdA fdT fdC fdR fdO fdN fdI fdending : FuncData} (T : Txt K mg)
    (GP : FnOk P w K mg base CX0 2 fP fdP ["_law_script", "_law_at", "_law_most", "_law_words"] (spProg (K := K))) (kP : PySem.W.keepIn K (.ref fP) = true) (bP : Binds K fdP ["_law_script", "_law_at", "_law_most", "_law_words"] []) (mP : mg "_law_program" = some (.ref fP))
    (GB : FnOk P w K mg base CX0 2 fB fdB ["_law_script", "_law_at"] (spBegin (K := K))) (kB : PySem.W.keepIn K (.ref fB) = true) (bB : Binds K fdB ["_law_script", "_law_at"] []) (mB : mg "_law_beginning" = some (.ref fB))
    (GS : FnOk P w K mg base CX0 1 fS fdS ["_law_boxes", "_law_cells"] spStart) (kS : PySem.W.keepIn K (.ref fS) = true) (bS : Binds K fdS ["_law_boxes", "_law_cells"] []) (mS : mg "_law_start" = some (.ref fS))
    (GA : FnOk P w K mg base CX0 3 fA fdA ["_law_machine", "_law_state"] (spAlike C)) (kA : PySem.W.keepIn K (.ref fA) = true) (bA : Binds K fdA ["_law_machine", "_law_state"] []) (mA : mg "_law_alike" = some (.ref fA))
    (GT : FnOk P w K mg base CX0 3 fT fdT ["_law_rows", "_law_bells", "_law_state"] spStepL) (kT : PySem.W.keepIn K (.ref fT) = true) (bT : Binds K fdT ["_law_rows", "_law_bells", "_law_state"] []) (mT : mg "_law_step" = some (.ref fT))
    (GC : FnOk P w K mg base CX0 1 fC fdC ["_law_script", "_law_k"] (spCell (K := K))) (kC : PySem.W.keepIn K (.ref fC) = true) (bC : Binds K fdC ["_law_script", "_law_k"] []) (mC_ : mg "_law_cell_at" = some (.ref fC))
    (GR : FnOk P w K mg base CX0 4 fR fdR ["_law_machine"] (spRefused C)) (kR : PySem.W.keepIn K (.ref fR) = true) (bR : Binds K fdR ["_law_machine"] []) (mR : mg "_law_refused" = some (.ref fR))
    (GO : FnOk P w K mg base CX0 5 fO fdO ["_law_machine", "_law_state", "_law_most"] (spOver C)) (kO : PySem.W.keepIn K (.ref fO) = true) (bO : Binds K fdO ["_law_machine", "_law_state", "_law_most"] []) (mO : mg "_law_over" = some (.ref fO))
    (GN : FnOk P w K mg base CX0 5 fN fdN ["_law_number_here", "_law_box"] spOnce) (kN : PySem.W.keepIn K (.ref fN) = true) (bN : Binds K fdN ["_law_number_here", "_law_box"] []) (mN : mg "_law_at_once" = some (.ref fN))
    (TM : MTx K mg C) (mC : mg "Machine" = some (.ref C)) (Mk : Mk K C fI) (GI : FnOk P w K mg base CX0 1 fI fdI ["self", "rows", "boxes", "cells", "bells"] (spInit C)) (bI : Binds K fdI ["self", "rows", "boxes", "cells", "bells"] [])
    (Mending : Meth K C "ending" fending) (Gending : FnOk P w K mg base CX0 1 fending fdending ["self"] (spEnding C)) (bending : Binds K fdending ["self"] [])
    (cdv : Value) (A : Around) (outer : List Env) (s : Shared) (H : Hp) (E : XK) (hr : Room 5 (A.deeper (PyProof.Rows.envOfC "law" (defScope sLaw) s.heap.objs.size f cdv))) : PSigma fun t : TS => PSs (cxOf CX0 P w K mg base ["_law_script", "_law_words", "_law_rows", "_law_boxes", "_law_cells", "_law_bells", "_law_machine", "_law_state", "_law_turn"] "law" (defScope sLaw) f cdv A outer s H E).nox ((defBody sLaw).drop 6) t :=
  have hu : (A.deeper (PyProof.Rows.envOfC "law" (defScope sLaw) s.heap.objs.size f cdv)).units + 1 < cLine := hu_of hr
  have hr4 : Room 4 (A.deeper (PyProof.Rows.envOfC "law" (defScope sLaw) s.heap.objs.size f cdv)) := hr.mono (by decide)
  have hr3 : Room 3 (A.deeper (PyProof.Rows.envOfC "law" (defScope sLaw) s.heap.objs.size f cdv)) := hr.mono (by decide)
  have hr2 : Room 2 (A.deeper (PyProof.Rows.envOfC "law" (defScope sLaw) s.heap.objs.size f cdv)) := hr.mono (by decide)
  have hr1 : Room 1 (A.deeper (PyProof.Rows.envOfC "law" (defScope sLaw) s.heap.objs.size f cdv)) := hr.mono (by decide)
  ⟨_, (pss_cons (ps_for PassesOwn.never rfl (pi_range1 rfl T.range (pa_cons pe_int pa_nil)) (pg_name (i := 8) scLaw.nd rfl (Or.inl rfl)) (pss_one (ps_if (pt_cmpR op_notN (pe_dget hu (pv 7) pe_str (fun _ _ => rfl)) pe_non (nomark _)) (pss_cons (ps_if (pt_cmpR op_notN (pe_meth0 (pv 6) TM.cl Mending Gending hr1 bending .nil pass0) pe_non (nomark _)) (pss_one (ps_ret pe_bl)) pss_nil)
      (pss_cons (ps_expr (pe_call GT hr3 (by rfl) mT kT bT .nil pass0 (pa_cons (pv 2) (pa_cons (pv 5) (pa_cons (pv 7) pa_nil)))))
      (pss_one (ps_if (pt_cmpR op_ne (pe_call GR hr4 (by rfl) mR kR bR .nil pass0 (pa_cons (pv 6) pa_nil)) pe_str (nomark _)) (pss_one (ps_ret pe_bl)) pss_nil)))) pss_nil)))
    (restTerm2 T GP kP bP mP GB kB bB mB GS kS bS mS GA kA bA mA GT kT bT mT GC kC bC mC_ GR kR bR mR GO kO bO mO GN kN bN mN TM mC Mk GI bI Mending Gending bending cdv A outer s H E hr).2)⟩
noncomputable def restTerm {f C fP fB fS fA fT fC fR fO fN fI fending : Addr} {fdP fdB fdS fdA fdT fdC fdR fdO fdN fdI fdending : FuncData} (T : Txt K mg)
    (GP : FnOk P w K mg base CX0 2 fP fdP ["_law_script", "_law_at", "_law_most", "_law_words"] (spProg (K := K))) (kP : PySem.W.keepIn K (.ref fP) = true) (bP : Binds K fdP ["_law_script", "_law_at", "_law_most", "_law_words"] []) (mP : mg "_law_program" = some (.ref fP))
    (GB : FnOk P w K mg base CX0 2 fB fdB ["_law_script", "_law_at"] (spBegin (K := K))) (kB : PySem.W.keepIn K (.ref fB) = true) (bB : Binds K fdB ["_law_script", "_law_at"] []) (mB : mg "_law_beginning" = some (.ref fB))
    (GS : FnOk P w K mg base CX0 1 fS fdS ["_law_boxes", "_law_cells"] spStart) (kS : PySem.W.keepIn K (.ref fS) = true) (bS : Binds K fdS ["_law_boxes", "_law_cells"] []) (mS : mg "_law_start" = some (.ref fS))
    (GA : FnOk P w K mg base CX0 3 fA fdA ["_law_machine", "_law_state"] (spAlike C)) (kA : PySem.W.keepIn K (.ref fA) = true) (bA : Binds K fdA ["_law_machine", "_law_state"] []) (mA : mg "_law_alike" = some (.ref fA))
    (GT : FnOk P w K mg base CX0 3 fT fdT ["_law_rows", "_law_bells", "_law_state"] spStepL) (kT : PySem.W.keepIn K (.ref fT) = true) (bT : Binds K fdT ["_law_rows", "_law_bells", "_law_state"] []) (mT : mg "_law_step" = some (.ref fT))
    (GC : FnOk P w K mg base CX0 1 fC fdC ["_law_script", "_law_k"] (spCell (K := K))) (kC : PySem.W.keepIn K (.ref fC) = true) (bC : Binds K fdC ["_law_script", "_law_k"] []) (mC_ : mg "_law_cell_at" = some (.ref fC))
    (GR : FnOk P w K mg base CX0 4 fR fdR ["_law_machine"] (spRefused C)) (kR : PySem.W.keepIn K (.ref fR) = true) (bR : Binds K fdR ["_law_machine"] []) (mR : mg "_law_refused" = some (.ref fR))
    (GO : FnOk P w K mg base CX0 5 fO fdO ["_law_machine", "_law_state", "_law_most"] (spOver C)) (kO : PySem.W.keepIn K (.ref fO) = true) (bO : Binds K fdO ["_law_machine", "_law_state", "_law_most"] []) (mO : mg "_law_over" = some (.ref fO))
    (GN : FnOk P w K mg base CX0 5 fN fdN ["_law_number_here", "_law_box"] spOnce) (kN : PySem.W.keepIn K (.ref fN) = true) (bN : Binds K fdN ["_law_number_here", "_law_box"] []) (mN : mg "_law_at_once" = some (.ref fN))
    (TM : MTx K mg C) (mC : mg "Machine" = some (.ref C)) (Mk : Mk K C fI) (GI : FnOk P w K mg base CX0 1 fI fdI ["self", "rows", "boxes", "cells", "bells"] (spInit C)) (bI : Binds K fdI ["self", "rows", "boxes", "cells", "bells"] [])
    (Mending : Meth K C "ending" fending) (Gending : FnOk P w K mg base CX0 1 fending fdending ["self"] (spEnding C)) (bending : Binds K fdending ["self"] [])
    (cdv : Value) (A : Around) (outer : List Env) (s : Shared) (H : Hp) (E : XK) (hr : Room 5 (A.deeper (PyProof.Rows.envOfC "law" (defScope sLaw) s.heap.objs.size f cdv))) : PSigma fun t : TS => PSs (cxOf CX0 P w K mg base ["_law_script", "_law_words", "_law_rows", "_law_boxes", "_law_cells", "_law_bells", "_law_machine", "_law_state", "_law_turn"] "law" (defScope sLaw) f cdv A outer s H E).nox ((defBody sLaw).drop 2) t :=
  have hu : (A.deeper (PyProof.Rows.envOfC "law" (defScope sLaw) s.heap.objs.size f cdv)).units + 1 < cLine := hu_of hr
  have hr4 : Room 4 (A.deeper (PyProof.Rows.envOfC "law" (defScope sLaw) s.heap.objs.size f cdv)) := hr.mono (by decide)
  have hr3 : Room 3 (A.deeper (PyProof.Rows.envOfC "law" (defScope sLaw) s.heap.objs.size f cdv)) := hr.mono (by decide)
  have hr2 : Room 2 (A.deeper (PyProof.Rows.envOfC "law" (defScope sLaw) s.heap.objs.size f cdv)) := hr.mono (by decide)
  have hr1 : Room 1 (A.deeper (PyProof.Rows.envOfC "law" (defScope sLaw) s.heap.objs.size f cdv)) := hr.mono (by decide)
  ⟨_, (pss_cons (ps_set (i := 2) scLaw.nd rfl (Or.inl rfl) (pe_call GP hr2 (by rfl) mP kP bP .nil pass0 (pa_cons (pv 0) (pa_cons pe_int (pa_cons pe_int (pa_cons (pv 1) pa_nil))))))
    (pss_cons (ps_asg (pe_call GB hr2 (by rfl) mB kB bB .nil pass0 (pa_cons (pv 0) (pa_cons pe_int pa_nil))) (pg_tup (n := 3) rfl (pgs_cons (pg_name (i := 3) scLaw.nd rfl (Or.inl rfl)) (pgs_cons (pg_name (i := 4) scLaw.nd rfl (Or.inl rfl)) (pgs_cons (pg_name (i := 5) scLaw.nd rfl (Or.inl rfl)) pgs_nil)))))
    (pss_cons (ps_set (i := 6) scLaw.nd rfl (Or.inl rfl) (pe_make Mk GI hr2 rfl mC bI .nil pass0 (pa_cons (pv 2) (pa_cons (pv 3) (pa_cons (pv 4) (pa_cons (pv 5) pa_nil))))))
    (pss_cons (ps_set (i := 7) scLaw.nd rfl (Or.inl rfl) (pe_call GS hr1 (by rfl) mS kS bS .nil pass0 (pa_cons (pv 3) (pa_cons (pv 4) pa_nil))))
    (restTerm1 T GP kP bP mP GB kB bB mB GS kS bS mS GA kA bA mA GT kT bT mT GC kC bC mC_ GR kR bR mR GO kO bO mO GN kN bN mN TM mC Mk GI bI Mending Gending bending cdv A outer s H E hr).2))))⟩
/-- what was there before the run is as it was -/
def Past (H0 H : Hp) (x a : Addr) (m : MA) (l : LA) : Prop := ∀ c o, H0 c = some o → ¬ Own m x c ∧ ¬ LOwn l a c ∧ H c = some o
theorem Past.same {H0 H H' : Hp} {x a : Addr} {m : MA} {l : LA} (h : Past H0 H x a m l) (s : Same H H') : Past H0 H' x a m l := fun c o e => ⟨(h c o e).1, (h c o e).2.1, s _ _ (h c o e).2.2⟩
theorem Past.out {H0 H : Hp} {x a : Addr} {m : MA} {l : LA} (h : Past H0 H x a m l) : Same H0 H := fun c o e => (h c o e).2.2
theorem Past.next3 {H0 H H1 H2 : Hp} {x a : Addr} {m : MA} {l l' : LA} (h : Past H0 H x a m l) (nx : LNext H H1 a l l') (f : Fr m x H1 H2) : Past H0 H2 x a m l' := fun c o e => by
  obtain ⟨h1, h2, h3⟩ := h c o e
  refine ⟨h1, ?_, f _ _ h1 (nx.kp _ _ h3 (.inl h2))⟩
  unfold LOwn
  rw [nx.e4, nx.e5, nx.e6]
  exact h2
theorem Past.fr {H0 H H1 : Hp} {x a : Addr} {m : MA} {l : LA} (h : Past H0 H x a m l) (f : Fr m x H H1) : Past H0 H1 x a m l := fun c o e => ⟨(h c o e).1, (h c o e).2.1, f _ _ (h c o e).1 (h c o e).2.2⟩
theorem going {ring : Int → Bool} {r : Rw} {h : Int} {z : Zt} (e : z.how = none) : (stepZ ring r h z).how = none ∨ (stepZ ring r h z).here = .non := by
  cases r with
  | stop => exact .inr rfl
  | halt v => exact .inr rfl
  | back =>
    rcases List.eq_nil_or_concat z.pile with e' | ⟨r, p, e'⟩
    · rw [back_none e']
      exact .inr rfl
    · have e' : z.pile = r ++ [p] := by simpa using e'
      rw [back_at e']
      exact .inl e
  | two u b v =>
    left
    simp only [stepZ]
    split
    · exact e
    split
    · exact e
    split
    · exact e
    · exact e
  | tell b => exact .inl e
  | jcm u t f =>
    left
    simp only [stepZ]
    split
    · exact e
    split
    · exact e
    split
    · exact e
    · exact e
  | zb u b t f => exact .inl e
  | table b ts => exact .inl e
theorem ints2 {a b c : Int} (h : a = b) : [V.int a, V.int c] = [V.int b, V.int c] := by rw [h]
theorem vs3 {x y : Addr} {a b : Int} (h : a = b) : [V.ref x, V.ref y, V.int a] = [V.ref x, V.ref y, V.int b] := by rw [h]
def spLaw : Sp := fun vs H Q _ => ∃ (a : Addr) (ns : List Int), vs = [.ref a] ∧ SqL K H a (ns.map V.int) ∧ ns.length ≤ 63 ∧ ∀ H', Q (.bl true) H'
theorem ok_law {f C fP fB fS fA fT fC fR fO fN fI fending : Addr} {fdP fdB fdS fdA fdT fdC fdR fdO fdN fdI fdending : FuncData} {fd : FuncData} (F : Fun K "law" "law" sLaw f fd) (T : Txt K mg)
    (GP : FnOk P w K mg base CX0 2 fP fdP ["_law_script", "_law_at", "_law_most", "_law_words"] (spProg (K := K))) (kP : PySem.W.keepIn K (.ref fP) = true) (bP : Binds K fdP ["_law_script", "_law_at", "_law_most", "_law_words"] []) (mP : mg "_law_program" = some (.ref fP))
    (GB : FnOk P w K mg base CX0 2 fB fdB ["_law_script", "_law_at"] (spBegin (K := K))) (kB : PySem.W.keepIn K (.ref fB) = true) (bB : Binds K fdB ["_law_script", "_law_at"] []) (mB : mg "_law_beginning" = some (.ref fB))
    (GS : FnOk P w K mg base CX0 1 fS fdS ["_law_boxes", "_law_cells"] spStart) (kS : PySem.W.keepIn K (.ref fS) = true) (bS : Binds K fdS ["_law_boxes", "_law_cells"] []) (mS : mg "_law_start" = some (.ref fS))
    (GA : FnOk P w K mg base CX0 3 fA fdA ["_law_machine", "_law_state"] (spAlike C)) (kA : PySem.W.keepIn K (.ref fA) = true) (bA : Binds K fdA ["_law_machine", "_law_state"] []) (mA : mg "_law_alike" = some (.ref fA))
    (GT : FnOk P w K mg base CX0 3 fT fdT ["_law_rows", "_law_bells", "_law_state"] spStepL) (kT : PySem.W.keepIn K (.ref fT) = true) (bT : Binds K fdT ["_law_rows", "_law_bells", "_law_state"] []) (mT : mg "_law_step" = some (.ref fT))
    (GC : FnOk P w K mg base CX0 1 fC fdC ["_law_script", "_law_k"] (spCell (K := K))) (kC : PySem.W.keepIn K (.ref fC) = true) (bC : Binds K fdC ["_law_script", "_law_k"] []) (mC_ : mg "_law_cell_at" = some (.ref fC))
    (GR : FnOk P w K mg base CX0 4 fR fdR ["_law_machine"] (spRefused C)) (kR : PySem.W.keepIn K (.ref fR) = true) (bR : Binds K fdR ["_law_machine"] []) (mR : mg "_law_refused" = some (.ref fR))
    (GO : FnOk P w K mg base CX0 5 fO fdO ["_law_machine", "_law_state", "_law_most"] (spOver C)) (kO : PySem.W.keepIn K (.ref fO) = true) (bO : Binds K fdO ["_law_machine", "_law_state", "_law_most"] []) (mO : mg "_law_over" = some (.ref fO))
    (GN : FnOk P w K mg base CX0 5 fN fdN ["_law_number_here", "_law_box"] spOnce) (kN : PySem.W.keepIn K (.ref fN) = true) (bN : Binds K fdN ["_law_number_here", "_law_box"] []) (mN : mg "_law_at_once" = some (.ref fN))
    (TM : MTx K mg C) (mC : mg "Machine" = some (.ref C)) (Mk : Mk K C fI) (GI : FnOk P w K mg base CX0 1 fI fdI ["self", "rows", "boxes", "cells", "bells"] (spInit C)) (bI : Binds K fdI ["self", "rows", "boxes", "cells", "bells"] [])
    (Mending : Meth K C "ending" fending) (Gending : FnOk P w K mg base CX0 1 fending fdending ["self"] (spEnding C)) (bending : Binds K fdending ["self"] []) : FnOk P w K mg base CX0 6 f fd ["_law_script"] (spLaw (K := K)) := by
  refine F.ok scLaw (fun vs H Q E h => ?_) (fun cdv A outer s H vs Q E hr h => ?_)
  · obtain ⟨a, ns, rfl, _⟩ := h
    rfl
  · obtain ⟨sc, ns, rfl, hS, hns, kk⟩ := h
    have hterm := law_cons2 body_eq (law_ps0 cdv A outer s H E) (law_ps1' cdv A outer s H E) (restTerm T GP kP bP mP GB kB bB mB GS kS bS mS GA kA bA mA GT kT bT mT GC kC bC mC_ GR kR bR mR GO kO bO mO GN kN bN mN TM mC Mk GI bI Mending Gending bending cdv A outer s H E hr).2
    refine wrap hterm ?_
    clear hterm
    refine ⟨Nat.le_of_ble_eq_true rfl, fun l0 n0 => ?_⟩
    have z0' := same_new (o := .lst (words0.map V.str)) n0
    have h0 : upd H l0 (.lst (words0.map V.str)) l0 = _ := upd_same
    generalize upd H l0 (.lst (words0.map V.str)) = Hx at z0' h0 ⊢
    refine ⟨_, rfl, Nat.le_of_ble_eq_true rfl, fun l1 n1 => ?_⟩
    have z1 := same_new (o := .lst (words1.map V.str)) n1
    have h1 : upd Hx l1 (.lst (words1.map V.str)) l1 = _ := upd_same
    have h0' := z1 _ _ h0
    generalize upd Hx l1 (.lst (words1.map V.str)) = Hy at z1 h1 h0' ⊢
    refine ⟨l0, l1, _, _, rfl, rfl, h0', h1, Nat.le_of_ble_eq_true rfl, fun lw nw => ?_⟩
    have z2 := same_new (o := .lst (words0.map V.str ++ words1.map V.str)) nw
    have hlw : upd Hy lw (.lst (words0.map V.str ++ words1.map V.str)) lw = some (.lst ((words0 ++ words1).map V.str)) := by rw [upd_same, List.map_append]
    generalize upd Hy lw (.lst (words0.map V.str ++ words1.map V.str)) = Hz at z2 hlw ⊢
    have s0 := z0'.trans (z1.trans z2)
    refine ⟨_, rfl, _, rfl, sc, ns, 1, 10, lw, words0 ++ words1, rfl, s0.seq hS, by decide, by decide, by decide, hlw, by decide, by decide +kernel, fun lr rows H1 s1 nlr hlr hpos hle hok => ?_⟩
    have t1 := s0.trans s1
    refine ⟨_, rfl, sc, ns, 0, rfl, t1.seq hS, by decide, fun q lb lc ll bs bells d cf H2 s2 nlb nlc nll nbl hq hlb b8 hlc hrep hdl hll hbl => ?_⟩
    refine ⟨q, _, rfl, SqT.of hq, rfl, _, _, rfl, _, _, rfl, _, _, rfl, rfl, ?_⟩
    have hlr2 := s2 _ _ hlr
    have hS2 : SqL K H2 sc (ns.map V.int) := (t1.trans s2).seq hS
    refine ⟨_, rfl, _, rfl, _, rfl, _, rfl, fun x dx nx ndx ne => ?_⟩
    have s3 : ∀ {c o}, H2 c = some o → upd (upd H2 dx (.own x)) x (.ins C dx []) c = some o := fun {c o} h => by
      rw [upd_ne (ne_of_none h nx), upd_ne (ne_of_none h ndx)]
      exact h
    refine ⟨x, dx, lr, lb, lc, ll, rows.map V.ref, bs, bells, d, cf, rfl, upd_same, s3 hlr2, s3 hlb, b8, s3 hlc, hrep, by omega, s3 hll, by omega, fun m rung H3 hrg M SX own => ⟨rfl, ?_⟩⟩
    have t3' : Same H2 H3 := fun c o h => SX _ _ (ne_of_none h nx) (s3 h)
    have no : ∀ {c o}, H2 c = some o → ¬ Own m x c := fun {c o} h g => by
      have := own c g (ne_of_none h nx)
      rw [s3 h] at this
      cases this
    refine ⟨_, rfl, _, rfl, lb, lc, bs, d, cf, rfl, t3' _ _ hlb, b8, t3' _ _ hlc, hrep, by omega, fun a l H4 s4 nl L0 => ?_⟩
    have nol : ∀ {c o}, H3 c = some o → ¬ LReg l a c := fun {c o} h g => by rw [nl c g] at h; cases h
    have b0 : Both C H4 x a lr ll m l rows bells 50 (z0 bs cf) := by
      refine ⟨⟨rung, funext fun j => hrg j, M.same s4⟩, L0, s4 _ _ (t3' _ _ hlr2), s4 _ _ (t3' _ _ hll), fun i q h => ?_, ⟨.inr ⟨0, rfl, hpos⟩, fun p hp => absurd hp (by simp [z0])⟩, Zok.start, fun c h g => ?_, no hlr2, no hll, fun g => nol (t3' _ _ hlr2) (lown_reg g), fun g => nol (t3' _ _ hll) (lown_reg g)⟩
      · obtain ⟨u, ⟨ts, h1, h2, h3, h4⟩, h5⟩ := hok i q h
        obtain ⟨r, r1, r2⟩ := row_is h1 h4 h2
        exact ⟨r, r1.tups (.of (s2.trans (t3'.trans s4))), fun e => by rw [r2]; exact h5 e⟩
      · obtain ⟨o, ho⟩ := M.here_ c h
        exact nol ho g
    -- the script stands as it stood
    have scr : ∀ {H9 : Hp} {l' : LA}, Past H2 H9 x a m l' → SqL K H9 sc (ns.map V.int) := fun p => p.out.seq hS2
    have p0 : Past H2 H4 x a m l := fun c o e => ⟨no e, fun g => nol (t3' _ _ e) (lown_reg g), s4 _ _ (t3' _ _ e)⟩
    refine ⟨60, rfl, by decide, by decide, for_range (n := 60) (fun i σ H6 => ∃ (v : Option V) (l : LA) (z : Zt), σ = [some (.ref sc), some (.ref lw), some (.ref lr), some (.ref lb), some (.ref lc), some (.ref ll), some (.ref x), some (.ref a), v] ∧ Past H2 H6 x a m l ∧ Both C H6 x a lr ll m l rows bells (50 + i) z ∧ (z.how = none ∨ z.here = .non)) ?_ ?_ ?_⟩
    · exact ⟨none, l, _, rfl, p0, b0, .inl rfl⟩
    · rintro i σ H6 hi ⟨v, l, z, rfl, p, b, hg⟩
      obtain ⟨rung, hrg, M⟩ := b.M
      obtain ⟨w1, hl, hw1⟩ := b.L.st
      refine ⟨_, rfl, a, _, rfl, dget hl l_row, rfl, _, rfl, ?_⟩
      rcases b.S.1 with hn | ⟨r, hh, hlt⟩
      · refine iteN (by rw [hn]; decide) ?_
        exact ⟨_, l, z, rfl, p, b.more (by omega), hg⟩
      · refine iteP (by rw [hh]; simp) ?_
        have hw0 : z.how = none := hg.resolve_right (by rw [hh]; simp)
        obtain ⟨w0, ho, hw⟩ := M.obj
        have hq := List.getElem?_eq_getElem hlt
        obtain ⟨rw, hR, hwd⟩ := b.ok r _ hq
        have hqv : (rows.map V.ref)[r]? = some (.ref rows[r]) := by rw [List.getElem?_map, hq]; rfl
        refine ⟨_, rfl, x, m.dx, _, rfl, ho, f_no no_ending, x, z, _, rfl, ⟨m, _, rung, M⟩, fun v hv => ?_⟩
        rw [hw0] at hv
        cases (show v = .non from hv)
        refine ⟨rfl, _, rfl, ?_⟩
        refine iteN (by decide) ?_
        refine ⟨_, rfl, _, rfl, _, rfl, lr, ll, a, rows[r], l, 50 + i, z, r, rows.length, rw, bells, rows.map V.ref, rfl, b.L, by omega, hh, b.rr, hqv, hR, b.rb, fun l' H8 nx8 L8 => ?_⟩
        have M8 := M.keeps nx8.kp (fun c h g => b.dd c h (lown_reg g))
        refine ⟨_, rfl, x, m, rows.map V.ref, rung, 50 + i, z, rfl, M8, .inl ⟨rows[r], r, rows.length, rw, by omega, hh, hqv, hR.tups nx8.kp.tups, fun H9 f9 M9 => ?_⟩⟩
        refine ⟨rfl, _, rfl, ?_⟩
        refine iteN (by decide) ?_
        exact ⟨_, l', _, rfl, p.next3 nx8 f9, b.step3 hrg M hlt hR hwd nx8 L8 f9 M9, going hw0⟩
    · rintro σ H6 ⟨v, l, z, rfl, p, b, hg⟩
      rcases b.S.1 with hn | ⟨r, hh, hlt⟩
      · obtain ⟨w1, hl, hw1⟩ := b.L.st
        refine ⟨_, rfl, a, _, rfl, dget hl l_row, rfl, _, rfl, ?_⟩
        refine iteP (by rw [hn]; decide) ?_
        refine ⟨_, rfl, _, rfl, _, rfl, sc, ns, 0, rfl, scr p, by decide, fun c => ?_⟩
        refine ⟨10, 12, rfl, rfl, ⟨by decide, by decide, by decide⟩, c, _, rfl, rfl, (by show (0 : Int) < 10 ^ Int.toNat 12; decide), ?_⟩
        have hc12 : (10 : Int) ^ Int.toNat 12 = 1000000000000 := by decide
        rw [hc12]
        refine ⟨x, a, lr, ll, m, l, rows, bells, 50 + 60, (c % 1000000000000).toNat, z, vs3 (by omega), b, hpos, hn, fun H7 b7 f7 => ?_⟩
        refine ⟨_, rfl, ?_⟩
        refine iteN (by decide) ?_
        have p7 := p.fr f7
        obtain ⟨rungF, hrgF, MF⟩ := b7.M
        refine ⟨_, rfl, _, rfl, x, a, m, l, rows.map V.ref, rungF, _, _, z, rfl, MF, b7.L, b7.Z, fun H9 s9 => ?_⟩
        have h9 := scr (p7.same s9)
        refine ⟨_, rfl, iteP rfl ?_⟩
        refine ⟨_, rfl, sc, ns, 12, rfl, h9, by decide, fun c => ?_⟩
        refine ⟨10, 6, rfl, rfl, ⟨by decide, by decide, by decide⟩, c, _, rfl, rfl, (by show (0 : Int) < 10 ^ Int.toNat 6; decide), ?_⟩
        refine ⟨_, rfl, sc, ns, 13, rfl, h9, by decide, fun c2 => ⟨_, _, rfl, rfl, (by show (0 : Int) < 8; decide), ?_⟩⟩
        have hc6 : (10 : Int) ^ Int.toNat 6 = 1000000 := by decide
        rw [hc6]
        exact ⟨(c % 1000000).toNat, c2 % 8, ints2 (by omega), ⟨by omega, by omega⟩, by omega, fun H8 => kk _⟩
        
      · obtain ⟨w1, hl, hw1⟩ := b.L.st
        refine ⟨_, rfl, a, _, rfl, dget hl l_row, rfl, _, rfl, ?_⟩
        refine iteN (by rw [hh]; simp) ?_
        obtain ⟨rungF, hrgF, MF⟩ := b.M
        refine ⟨_, rfl, _, rfl, x, a, m, l, rows.map V.ref, rungF, _, _, z, rfl, MF, b.L, b.Z, fun H9 s9 => ?_⟩
        have h9 := scr (p.same s9)
        refine ⟨_, rfl, iteP rfl ?_⟩
        refine ⟨_, rfl, sc, ns, 12, rfl, h9, by decide, fun c => ?_⟩
        refine ⟨10, 6, rfl, rfl, ⟨by decide, by decide, by decide⟩, c, _, rfl, rfl, (by show (0 : Int) < 10 ^ Int.toNat 6; decide), ?_⟩
        refine ⟨_, rfl, sc, ns, 13, rfl, h9, by decide, fun c2 => ⟨_, _, rfl, rfl, (by show (0 : Int) < 8; decide), ?_⟩⟩
        have hc6 : (10 : Int) ^ Int.toNat 6 = 1000000 := by decide
        rw [hc6]
        exact ⟨(c % 1000000).toNat, c2 % 8, ints2 (by omega), ⟨by omega, by omega⟩, by omega, fun H8 => kk _⟩
        
end
end My


set_option Elab.async false
set_option linter.all false
set_option maxRecDepth 100000
set_option maxHeartbeats 8000000
namespace PySem.W.Fast
def tw10161374671729713883 : Nat := 0
def tw14275949414962935076 : Nat := 0
def tw5945864505564797167 : Nat := 0
def tw8955553855751518741 : Nat := 0
def tw3722521984545777370 : Nat := 0
def tw14832458784275891465 : Nat := 0
def tw5204706488368787029 : Nat := 0
def tw16144331794132891645 : Nat := 0
def tw13109543825048827909 : Nat := 0
def tw6057707039636498673 : Nat := 0
def tw8876076207701617111 : Nat := 0
def tw886979454669346802 : Nat := 0
end PySem.W.Fast
namespace My
open PySem L2
theorem kit_ib (K : PySem.W.Frag) : PySem.W.kitOne K (.type "int") (.type "bool") = some false := by
  unfold PySem.W.kitOne
  rw [if_neg (by decide)]
  show (if PySem.W.kitMeta "bool" = true then (fastBuiltinMro "int").map (·.contains (Value.type "bool")) else none) = some false
  rw [if_pos (by decide +kernel)]
  decide +kernel
theorem kit_nb (K : PySem.W.Frag) : PySem.W.kitOne K (.type "NoneType") (.type "bool") = some false := by
  unfold PySem.W.kitOne
  rw [if_neg (by decide)]
  show (if PySem.W.kitMeta "bool" = true then (fastBuiltinMro "NoneType").map (·.contains (Value.type "bool")) else none) = some false
  rw [if_pos (by decide +kernel)]
  decide +kernel
/-! ### what the top has written, and the law's own head -/
theorem all_mk {l : PySem.W.OpenLaw} {w : World} {K : PySem.W.Frag} {h : Heap} {mg : Str → Option Value} {fa f0 f1 f2 f3 f4 f5 f6 f7 f8 f9 f10 f11 f12 f13 f14 f15 f16 f17 f18 f19 f20 f21 f22 f23 f24 f25 f26 f27 f28 f29 f30 f31 f32 f33 f34 f35 f36 f37 : Addr} (X : K.In h) (G : h.Ns mainGlobals mg) (hfa : mg "law" = some (.ref fa))
    {od0 an0 od1 an1 od2 an2 od3 an3 od4 an4 od5 an5 od6 an6 od7 an7 od8 an8 od9 an9 od10 an10 od11 an11 od12 an12 od13 an13 od14 an14 od15 an15 od16 an16 od17 an17 od18 an18 od19 an19 od20 an20 od21 an21 od22 an22 od23 an23 od24 an24 od25 an25 od26 an26 od27 an27 od28 an28 od29 an29 od30 an30 od31 an31 od32 an32 od33 an33 od34 an34 od35 an35 od36 an36 od37 an37 : Option Addr} {sl0 sl1 sl2 sl3 sl4 sl5 sl6 sl7 sl8 sl9 sl10 sl11 sl12 sl13 sl14 sl15 sl16 sl17 sl18 sl19 sl20 sl21 sl22 sl23 sl24 sl25 sl26 sl27 sl28 sl29 sl30 sl31 sl32 sl33 sl34 sl35 sl36 sl37 : Array (Option Value)} {oc0 kV0 dc0 pm0 cd0 ct0 oc1 kV1 dc1 pm1 cd1 ct1 oc2 kV2 dc2 pm2 cd2 ct2 oc3 kV3 dc3 pm3 cd3 ct3 oc4 kV4 dc4 pm4 cd4 ct4 oc5 kV5 dc5 pm5 cd5 ct5 oc6 kV6 dc6 pm6 cd6 ct6 oc7 kV7 dc7 pm7 cd7 ct7 oc8 kV8 dc8 pm8 cd8 ct8 oc9 kV9 dc9 pm9 cd9 ct9 oc10 kV10 dc10 pm10 cd10 ct10 oc11 kV11 dc11 pm11 cd11 ct11 oc12 kV12 dc12 pm12 cd12 ct12 oc13 kV13 dc13 pm13 cd13 ct13 oc14 kV14 dc14 pm14 cd14 ct14 oc15 kV15 dc15 pm15 cd15 ct15 oc16 kV16 dc16 pm16 cd16 ct16 oc17 kV17 dc17 pm17 cd17 ct17 oc18 kV18 dc18 pm18 cd18 ct18 oc19 kV19 dc19 pm19 cd19 ct19 oc20 kV20 dc20 pm20 cd20 ct20 oc21 kV21 dc21 pm21 cd21 ct21 oc22 kV22 dc22 pm22 cd22 ct22 oc23 kV23 dc23 pm23 cd23 ct23 oc24 kV24 dc24 pm24 cd24 ct24 oc25 kV25 dc25 pm25 cd25 ct25 oc26 kV26 dc26 pm26 cd26 ct26 oc27 kV27 dc27 pm27 cd27 ct27 oc28 kV28 dc28 pm28 cd28 ct28 oc29 kV29 dc29 pm29 cd29 ct29 oc30 kV30 dc30 pm30 cd30 ct30 oc31 kV31 dc31 pm31 cd31 ct31 oc32 kV32 dc32 pm32 cd32 ct32 oc33 kV33 dc33 pm33 cd33 ct33 oc34 kV34 dc34 pm34 cd34 ct34 oc35 kV35 dc35 pm35 cd35 ct35 oc36 kV36 dc36 pm36 cd36 ct36 oc37 kV37 dc37 pm37 cd37 ct37 : Value}
    (a0 : PySem.W.nsIn K mainGlobals "end" = some (some (.ref f0))) (l0 : K.lookup f0 = some ⟨oc0, od0, .func (PySem.W.fnOf "end" "end" (defArgs sEnd) (defBody sEnd) (defScope sEnd) .none kV0 dc0 pm0 an0 cd0 ct0), sl0⟩) (c0 : PySem.W.codeIn K cd0 "end" = true) (k0 : PySem.W.keepIn K (.ref f0) = true)
    (a1 : PySem.W.nsIn K mainGlobals "without_noughts" = some (some (.ref f1))) (l1 : K.lookup f1 = some ⟨oc1, od1, .func (PySem.W.fnOf "without_noughts" "without_noughts" (defArgs sNought) (defBody sNought) (defScope sNought) .none kV1 dc1 pm1 an1 cd1 ct1), sl1⟩) (c1 : PySem.W.codeIn K cd1 "without_noughts" = true) (k1 : PySem.W.keepIn K (.ref f1) = true)
    (a2 : PySem.W.nsIn K mainGlobals "do_stop" = some (some (.ref f2))) (l2 : K.lookup f2 = some ⟨oc2, od2, .func (PySem.W.fnOf "do_stop" "do_stop" (defArgs d_stop) (defBody d_stop) (defScope d_stop) .none kV2 dc2 pm2 an2 cd2 ct2), sl2⟩) (c2 : PySem.W.codeIn K cd2 "do_stop" = true) (k2 : PySem.W.keepIn K (.ref f2) = true)
    (a3 : PySem.W.nsIn K mainGlobals "do_halt" = some (some (.ref f3))) (l3 : K.lookup f3 = some ⟨oc3, od3, .func (PySem.W.fnOf "do_halt" "do_halt" (defArgs d_halt) (defBody d_halt) (defScope d_halt) .none kV3 dc3 pm3 an3 cd3 ct3), sl3⟩) (c3 : PySem.W.codeIn K cd3 "do_halt" = true) (k3 : PySem.W.keepIn K (.ref f3) = true)
    (a4 : PySem.W.nsIn K mainGlobals "do_back" = some (some (.ref f4))) (l4 : K.lookup f4 = some ⟨oc4, od4, .func (PySem.W.fnOf "do_back" "do_back" (defArgs d_back) (defBody d_back) (defScope d_back) .none kV4 dc4 pm4 an4 cd4 ct4), sl4⟩) (c4 : PySem.W.codeIn K cd4 "do_back" = true) (k4 : PySem.W.keepIn K (.ref f4) = true)
    (a5 : PySem.W.nsIn K mainGlobals "do_set" = some (some (.ref f5))) (l5 : K.lookup f5 = some ⟨oc5, od5, .func (PySem.W.fnOf "do_set" "do_set" (defArgs d_set) (defBody d_set) (defScope d_set) .none kV5 dc5 pm5 an5 cd5 ct5), sl5⟩) (c5 : PySem.W.codeIn K cd5 "do_set" = true) (k5 : PySem.W.keepIn K (.ref f5) = true)
    (a6 : PySem.W.nsIn K mainGlobals "do_more" = some (some (.ref f6))) (l6 : K.lookup f6 = some ⟨oc6, od6, .func (PySem.W.fnOf "do_more" "do_more" (defArgs d_more) (defBody d_more) (defScope d_more) .none kV6 dc6 pm6 an6 cd6 ct6), sl6⟩) (c6 : PySem.W.codeIn K cd6 "do_more" = true) (k6 : PySem.W.keepIn K (.ref f6) = true)
    (a7 : PySem.W.nsIn K mainGlobals "do_copy" = some (some (.ref f7))) (l7 : K.lookup f7 = some ⟨oc7, od7, .func (PySem.W.fnOf "do_copy" "do_copy" (defArgs d_copy) (defBody d_copy) (defScope d_copy) .none kV7 dc7 pm7 an7 cd7 ct7), sl7⟩) (c7 : PySem.W.codeIn K cd7 "do_copy" = true) (k7 : PySem.W.keepIn K (.ref f7) = true)
    (a8 : PySem.W.nsIn K mainGlobals "do_add" = some (some (.ref f8))) (l8 : K.lookup f8 = some ⟨oc8, od8, .func (PySem.W.fnOf "do_add" "do_add" (defArgs d_add) (defBody d_add) (defScope d_add) .none kV8 dc8 pm8 an8 cd8 ct8), sl8⟩) (c8 : PySem.W.codeIn K cd8 "do_add" = true) (k8 : PySem.W.keepIn K (.ref f8) = true)
    (a9 : PySem.W.nsIn K mainGlobals "do_less" = some (some (.ref f9))) (l9 : K.lookup f9 = some ⟨oc9, od9, .func (PySem.W.fnOf "do_less" "do_less" (defArgs d_less) (defBody d_less) (defScope d_less) .none kV9 dc9 pm9 an9 cd9 ct9), sl9⟩) (c9 : PySem.W.codeIn K cd9 "do_less" = true) (k9 : PySem.W.keepIn K (.ref f9) = true)
    (a10 : PySem.W.nsIn K mainGlobals "do_load" = some (some (.ref f10))) (l10 : K.lookup f10 = some ⟨oc10, od10, .func (PySem.W.fnOf "do_load" "do_load" (defArgs d_load) (defBody d_load) (defScope d_load) .none kV10 dc10 pm10 an10 cd10 ct10), sl10⟩) (c10 : PySem.W.codeIn K cd10 "do_load" = true) (k10 : PySem.W.keepIn K (.ref f10) = true)
    (a11 : PySem.W.nsIn K mainGlobals "do_keep" = some (some (.ref f11))) (l11 : K.lookup f11 = some ⟨oc11, od11, .func (PySem.W.fnOf "do_keep" "do_keep" (defArgs d_keep) (defBody d_keep) (defScope d_keep) .none kV11 dc11 pm11 an11 cd11 ct11), sl11⟩) (c11 : PySem.W.codeIn K cd11 "do_keep" = true) (k11 : PySem.W.keepIn K (.ref f11) = true)
    (a12 : PySem.W.nsIn K mainGlobals "do_tell" = some (some (.ref f12))) (l12 : K.lookup f12 = some ⟨oc12, od12, .func (PySem.W.fnOf "do_tell" "do_tell" (defArgs d_tell) (defBody d_tell) (defScope d_tell) .none kV12 dc12 pm12 an12 cd12 ct12), sl12⟩) (c12 : PySem.W.codeIn K cd12 "do_tell" = true) (k12 : PySem.W.keepIn K (.ref f12) = true)
    (a13 : PySem.W.nsIn K mainGlobals "do_see" = some (some (.ref f13))) (l13 : K.lookup f13 = some ⟨oc13, od13, .func (PySem.W.fnOf "do_see" "do_see" (defArgs d_see) (defBody d_see) (defScope d_see) .none kV13 dc13 pm13 an13 cd13 ct13), sl13⟩) (c13 : PySem.W.codeIn K cd13 "do_see" = true) (k13 : PySem.W.keepIn K (.ref f13) = true)
    (a14 : PySem.W.nsIn K mainGlobals "do_put" = some (some (.ref f14))) (l14 : K.lookup f14 = some ⟨oc14, od14, .func (PySem.W.fnOf "do_put" "do_put" (defArgs d_put) (defBody d_put) (defScope d_put) .none kV14 dc14 pm14 an14 cd14 ct14), sl14⟩) (c14 : PySem.W.codeIn K cd14 "do_put" = true) (k14 : PySem.W.keepIn K (.ref f14) = true)
    (a15 : PySem.W.nsIn K mainGlobals "do_take" = some (some (.ref f15))) (l15 : K.lookup f15 = some ⟨oc15, od15, .func (PySem.W.fnOf "do_take" "do_take" (defArgs d_take) (defBody d_take) (defScope d_take) .none kV15 dc15 pm15 an15 cd15 ct15), sl15⟩) (c15 : PySem.W.codeIn K cd15 "do_take" = true) (k15 : PySem.W.keepIn K (.ref f15) = true)
    (a16 : PySem.W.nsIn K mainGlobals "do_jump" = some (some (.ref f16))) (l16 : K.lookup f16 = some ⟨oc16, od16, .func (PySem.W.fnOf "do_jump" "do_jump" (defArgs d_jump) (defBody d_jump) (defScope d_jump) .none kV16 dc16 pm16 an16 cd16 ct16), sl16⟩) (c16 : PySem.W.codeIn K cd16 "do_jump" = true) (k16 : PySem.W.keepIn K (.ref f16) = true)
    (a17 : PySem.W.nsIn K mainGlobals "do_zero" = some (some (.ref f17))) (l17 : K.lookup f17 = some ⟨oc17, od17, .func (PySem.W.fnOf "do_zero" "do_zero" (defArgs d_zero) (defBody d_zero) (defScope d_zero) .none kV17 dc17 pm17 an17 cd17 ct17), sl17⟩) (c17 : PySem.W.codeIn K cd17 "do_zero" = true) (k17 : PySem.W.keepIn K (.ref f17) = true)
    (a18 : PySem.W.nsIn K mainGlobals "do_below" = some (some (.ref f18))) (l18 : K.lookup f18 = some ⟨oc18, od18, .func (PySem.W.fnOf "do_below" "do_below" (defArgs d_below) (defBody d_below) (defScope d_below) .none kV18 dc18 pm18 an18 cd18 ct18), sl18⟩) (c18 : PySem.W.codeIn K cd18 "do_below" = true) (k18 : PySem.W.keepIn K (.ref f18) = true)
    (a19 : PySem.W.nsIn K mainGlobals "do_call" = some (some (.ref f19))) (l19 : K.lookup f19 = some ⟨oc19, od19, .func (PySem.W.fnOf "do_call" "do_call" (defArgs d_call) (defBody d_call) (defScope d_call) .none kV19 dc19 pm19 an19 cd19 ct19), sl19⟩) (c19 : PySem.W.codeIn K cd19 "do_call" = true) (k19 : PySem.W.keepIn K (.ref f19) = true)
    (a20 : PySem.W.nsIn K mainGlobals "do_mark" = some (some (.ref f20))) (l20 : K.lookup f20 = some ⟨oc20, od20, .func (PySem.W.fnOf "do_mark" "do_mark" (defArgs d_mark) (defBody d_mark) (defScope d_mark) .none kV20 dc20 pm20 an20 cd20 ct20), sl20⟩) (c20 : PySem.W.codeIn K cd20 "do_mark" = true) (k20 : PySem.W.keepIn K (.ref f20) = true)
    (a21 : PySem.W.nsIn K mainGlobals "do_table" = some (some (.ref f21))) (l21 : K.lookup f21 = some ⟨oc21, od21, .func (PySem.W.fnOf "do_table" "do_table" (defArgs d_table) (defBody d_table) (defScope d_table) .none kV21 dc21 pm21 an21 cd21 ct21), sl21⟩) (c21 : PySem.W.codeIn K cd21 "do_table" = true) (k21 : PySem.W.keepIn K (.ref f21) = true)
    (a22 : PySem.W.nsIn K mainGlobals "_law_cell_at" = some (some (.ref f22))) (l22 : K.lookup f22 = some ⟨oc22, od22, .func (PySem.W.fnOf "_law_cell_at" "_law_cell_at" (defArgs sCell) (defBody sCell) (defScope sCell) .none kV22 dc22 pm22 an22 cd22 ct22), sl22⟩) (c22 : PySem.W.codeIn K cd22 "_law_cell_at" = true) (k22 : PySem.W.keepIn K (.ref f22) = true)
    (a23 : PySem.W.nsIn K mainGlobals "_law_draws" = some (some (.ref f23))) (l23 : K.lookup f23 = some ⟨oc23, od23, .func (PySem.W.fnOf "_law_draws" "_law_draws" (defArgs sDraws) (defBody sDraws) (defScope sDraws) .none kV23 dc23 pm23 an23 cd23 ct23), sl23⟩) (c23 : PySem.W.codeIn K cd23 "_law_draws" = true) (k23 : PySem.W.keepIn K (.ref f23) = true)
    (a24 : PySem.W.nsIn K mainGlobals "_law_row" = some (some (.ref f24))) (l24 : K.lookup f24 = some ⟨oc24, od24, .func (PySem.W.fnOf "_law_row" "_law_row" (defArgs sRow) (defBody sRow) (defScope sRow) .none kV24 dc24 pm24 an24 cd24 ct24), sl24⟩) (c24 : PySem.W.codeIn K cd24 "_law_row" = true) (k24 : PySem.W.keepIn K (.ref f24) = true)
    (a25 : PySem.W.nsIn K mainGlobals "_law_program" = some (some (.ref f25))) (l25 : K.lookup f25 = some ⟨oc25, od25, .func (PySem.W.fnOf "_law_program" "_law_program" (defArgs sProg) (defBody sProg) (defScope sProg) .none kV25 dc25 pm25 an25 cd25 ct25), sl25⟩) (c25 : PySem.W.codeIn K cd25 "_law_program" = true) (k25 : PySem.W.keepIn K (.ref f25) = true)
    (a26 : PySem.W.nsIn K mainGlobals "_law_beginning" = some (some (.ref f26))) (l26 : K.lookup f26 = some ⟨oc26, od26, .func (PySem.W.fnOf "_law_beginning" "_law_beginning" (defArgs sBegin) (defBody sBegin) (defScope sBegin) .none kV26 dc26 pm26 an26 cd26 ct26), sl26⟩) (c26 : PySem.W.codeIn K cd26 "_law_beginning" = true) (k26 : PySem.W.keepIn K (.ref f26) = true)
    (a27 : PySem.W.nsIn K mainGlobals "_law_start" = some (some (.ref f27))) (l27 : K.lookup f27 = some ⟨oc27, od27, .func (PySem.W.fnOf "_law_start" "_law_start" (defArgs sStart) (defBody sStart) (defScope sStart) .none kV27 dc27 pm27 an27 cd27 ct27), sl27⟩) (c27 : PySem.W.codeIn K cd27 "_law_start" = true) (k27 : PySem.W.keepIn K (.ref f27) = true)
    (a28 : PySem.W.nsIn K mainGlobals "_law_given" = some (some (.ref f28))) (l28 : K.lookup f28 = some ⟨oc28, od28, .func (PySem.W.fnOf "_law_given" "_law_given" (defArgs sGiven) (defBody sGiven) (defScope sGiven) .none kV28 dc28 pm28 an28 cd28 ct28), sl28⟩) (c28 : PySem.W.codeIn K cd28 "_law_given" = true) (k28 : PySem.W.keepIn K (.ref f28) = true)
    (a29 : PySem.W.nsIn K mainGlobals "_law_number" = some (some (.ref f29))) (l29 : K.lookup f29 = some ⟨oc29, od29, .func (PySem.W.fnOf "_law_number" "_law_number" (defArgs sNumber) (defBody sNumber) (defScope sNumber) .none kV29 dc29 pm29 an29 cd29 ct29), sl29⟩) (c29 : PySem.W.codeIn K cd29 "_law_number" = true) (k29 : PySem.W.keepIn K (.ref f29) = true)
    (a30 : PySem.W.nsIn K mainGlobals "_law_straight" = some (some (.ref f30))) (l30 : K.lookup f30 = some ⟨oc30, od30, .func (PySem.W.fnOf "_law_straight" "_law_straight" (defArgs sStraight) (defBody sStraight) (defScope sStraight) .none kV30 dc30 pm30 an30 cd30 ct30), sl30⟩) (c30 : PySem.W.codeIn K cd30 "_law_straight" = true) (k30 : PySem.W.keepIn K (.ref f30) = true)
    (a31 : PySem.W.nsIn K mainGlobals "_law_goal" = some (some (.ref f31))) (l31 : K.lookup f31 = some ⟨oc31, od31, .func (PySem.W.fnOf "_law_goal" "_law_goal" (defArgs sGoal) (defBody sGoal) (defScope sGoal) .none kV31 dc31 pm31 an31 cd31 ct31), sl31⟩) (c31 : PySem.W.codeIn K cd31 "_law_goal" = true) (k31 : PySem.W.keepIn K (.ref f31) = true)
    (a32 : PySem.W.nsIn K mainGlobals "_law_step" = some (some (.ref f32))) (l32 : K.lookup f32 = some ⟨oc32, od32, .func (PySem.W.fnOf "_law_step" "_law_step" (defArgs sStepL) (defBody sStepL) (defScope sStepL) .none kV32 dc32 pm32 an32 cd32 ct32), sl32⟩) (c32 : PySem.W.codeIn K cd32 "_law_step" = true) (k32 : PySem.W.keepIn K (.ref f32) = true)
    (a33 : PySem.W.nsIn K mainGlobals "_law_alike" = some (some (.ref f33))) (l33 : K.lookup f33 = some ⟨oc33, od33, .func (PySem.W.fnOf "_law_alike" "_law_alike" (defArgs sAlike) (defBody sAlike) (defScope sAlike) .none kV33 dc33 pm33 an33 cd33 ct33), sl33⟩) (c33 : PySem.W.codeIn K cd33 "_law_alike" = true) (k33 : PySem.W.keepIn K (.ref f33) = true)
    (a34 : PySem.W.nsIn K mainGlobals "_law_refused" = some (some (.ref f34))) (l34 : K.lookup f34 = some ⟨oc34, od34, .func (PySem.W.fnOf "_law_refused" "_law_refused" (defArgs sRefused) (defBody sRefused) (defScope sRefused) .none kV34 dc34 pm34 an34 cd34 ct34), sl34⟩) (c34 : PySem.W.codeIn K cd34 "_law_refused" = true) (k34 : PySem.W.keepIn K (.ref f34) = true)
    (a35 : PySem.W.nsIn K mainGlobals "_law_over" = some (some (.ref f35))) (l35 : K.lookup f35 = some ⟨oc35, od35, .func (PySem.W.fnOf "_law_over" "_law_over" (defArgs sOver) (defBody sOver) (defScope sOver) .none kV35 dc35 pm35 an35 cd35 ct35), sl35⟩) (c35 : PySem.W.codeIn K cd35 "_law_over" = true) (k35 : PySem.W.keepIn K (.ref f35) = true)
    (a36 : PySem.W.nsIn K mainGlobals "_law_at_once" = some (some (.ref f36))) (l36 : K.lookup f36 = some ⟨oc36, od36, .func (PySem.W.fnOf "_law_at_once" "_law_at_once" (defArgs sOnce) (defBody sOnce) (defScope sOnce) .none kV36 dc36 pm36 an36 cd36 ct36), sl36⟩) (c36 : PySem.W.codeIn K cd36 "_law_at_once" = true) (k36 : PySem.W.keepIn K (.ref f36) = true)
    (a37 : PySem.W.nsIn K mainGlobals "law" = some (some (.ref f37))) (l37 : K.lookup f37 = some ⟨oc37, od37, .func (PySem.W.fnOf "law" "law" (defArgs sLaw) (defBody sLaw) (defScope sLaw) .none kV37 dc37 pm37 an37 cd37 ct37), sl37⟩) (c37 : PySem.W.codeIn K cd37 "law" = true) (k37 : PySem.W.keepIn K (.ref f37) = true)
    (z_len : PySem.W.nsIn K mainGlobals "len" = some none)
    (z_list : PySem.W.nsIn K mainGlobals "list" = some none)
    (z_int : PySem.W.nsIn K mainGlobals "int" = some none)
    (z_range : PySem.W.nsIn K mainGlobals "range" = some none)
    (z_tuple : PySem.W.nsIn K mainGlobals "tuple" = some none)
    (z_isinstance : PySem.W.nsIn K mainGlobals "isinstance" = some none)
    (z_dict : PySem.W.nsIn K mainGlobals "dict" = some none)
    (z_bool : PySem.W.nsIn K mainGlobals "bool" = some none)
    (z_ValueError : PySem.W.nsIn K mainGlobals "ValueError" = some none)
    {C : Addr} (aC : PySem.W.nsIn K mainGlobals "Machine" = some (some (.ref C)))
    {g0 : Addr} {odg0 ang0 : Option Addr} {slg0 : Array (Option Value)} {ocg0 kVg0 dcg0 pmg0 cdg0 ctg0 : Value} (ag0 : PySem.W.findIn K (.ref C) "__init__" = some (some (.ref g0))) (ig0 : PySem.W.isFn K (.ref g0) = true) (lg0 : K.lookup g0 = some ⟨ocg0, odg0, .func (PySem.W.fnOf "__init__" "Machine.__init__" (defArgs sInit) (defBody sInit) (defScope sInit) .none kVg0 dcg0 pmg0 ang0 cdg0 ctg0), slg0⟩) (cg0 : PySem.W.codeIn K cdg0 "Machine.__init__" = true) (kg0 : PySem.W.keepIn K (.ref g0) = true)
    {g1 : Addr} {odg1 ang1 : Option Addr} {slg1 : Array (Option Value)} {ocg1 kVg1 dcg1 pmg1 cdg1 ctg1 : Value} (ag1 : PySem.W.findIn K (.ref C) "row" = some (some (.ref g1))) (ig1 : PySem.W.isFn K (.ref g1) = true) (lg1 : K.lookup g1 = some ⟨ocg1, odg1, .func (PySem.W.fnOf "row" "Machine.row" (defArgs sRowM) (defBody sRowM) (defScope sRowM) .none kVg1 dcg1 pmg1 ang1 cdg1 ctg1), slg1⟩) (cg1 : PySem.W.codeIn K cdg1 "Machine.row" = true) (kg1 : PySem.W.keepIn K (.ref g1) = true)
    {g2 : Addr} {odg2 ang2 : Option Addr} {slg2 : Array (Option Value)} {ocg2 kVg2 dcg2 pmg2 cdg2 ctg2 : Value} (ag2 : PySem.W.findIn K (.ref C) "ending" = some (some (.ref g2))) (ig2 : PySem.W.isFn K (.ref g2) = true) (lg2 : K.lookup g2 = some ⟨ocg2, odg2, .func (PySem.W.fnOf "ending" "Machine.ending" (defArgs sEnding) (defBody sEnding) (defScope sEnding) .none kVg2 dcg2 pmg2 ang2 cdg2 ctg2), slg2⟩) (cg2 : PySem.W.codeIn K cdg2 "Machine.ending" = true) (kg2 : PySem.W.keepIn K (.ref g2) = true)
    {g3 : Addr} {odg3 ang3 : Option Addr} {slg3 : Array (Option Value)} {ocg3 kVg3 dcg3 pmg3 cdg3 ctg3 : Value} (ag3 : PySem.W.findIn K (.ref C) "boxes" = some (some (.ref g3))) (ig3 : PySem.W.isFn K (.ref g3) = true) (lg3 : K.lookup g3 = some ⟨ocg3, odg3, .func (PySem.W.fnOf "boxes" "Machine.boxes" (defArgs sBoxes) (defBody sBoxes) (defScope sBoxes) .none kVg3 dcg3 pmg3 ang3 cdg3 ctg3), slg3⟩) (cg3 : PySem.W.codeIn K cdg3 "Machine.boxes" = true) (kg3 : PySem.W.keepIn K (.ref g3) = true)
    {g4 : Addr} {odg4 ang4 : Option Addr} {slg4 : Array (Option Value)} {ocg4 kVg4 dcg4 pmg4 cdg4 ctg4 : Value} (ag4 : PySem.W.findIn K (.ref C) "cells" = some (some (.ref g4))) (ig4 : PySem.W.isFn K (.ref g4) = true) (lg4 : K.lookup g4 = some ⟨ocg4, odg4, .func (PySem.W.fnOf "cells" "Machine.cells" (defArgs sCells) (defBody sCells) (defScope sCells) .none kVg4 dcg4 pmg4 ang4 cdg4 ctg4), slg4⟩) (cg4 : PySem.W.codeIn K cdg4 "Machine.cells" = true) (kg4 : PySem.W.keepIn K (.ref g4) = true)
    {g5 : Addr} {odg5 ang5 : Option Addr} {slg5 : Array (Option Value)} {ocg5 kVg5 dcg5 pmg5 cdg5 ctg5 : Value} (ag5 : PySem.W.findIn K (.ref C) "asides" = some (some (.ref g5))) (ig5 : PySem.W.isFn K (.ref g5) = true) (lg5 : K.lookup g5 = some ⟨ocg5, odg5, .func (PySem.W.fnOf "asides" "Machine.asides" (defArgs sAsides) (defBody sAsides) (defScope sAsides) .none kVg5 dcg5 pmg5 ang5 cdg5 ctg5), slg5⟩) (cg5 : PySem.W.codeIn K cdg5 "Machine.asides" = true) (kg5 : PySem.W.keepIn K (.ref g5) = true)
    {g6 : Addr} {odg6 ang6 : Option Addr} {slg6 : Array (Option Value)} {ocg6 kVg6 dcg6 pmg6 cdg6 ctg6 : Value} (ag6 : PySem.W.findIn K (.ref C) "told" = some (some (.ref g6))) (ig6 : PySem.W.isFn K (.ref g6) = true) (lg6 : K.lookup g6 = some ⟨ocg6, odg6, .func (PySem.W.fnOf "told" "Machine.told" (defArgs sTold) (defBody sTold) (defScope sTold) .none kVg6 dcg6 pmg6 ang6 cdg6 ctg6), slg6⟩) (cg6 : PySem.W.codeIn K cdg6 "Machine.told" = true) (kg6 : PySem.W.keepIn K (.ref g6) = true)
    {g7 : Addr} {odg7 ang7 : Option Addr} {slg7 : Array (Option Value)} {ocg7 kVg7 dcg7 pmg7 cdg7 ctg7 : Value} (ag7 : PySem.W.findIn K (.ref C) "seen" = some (some (.ref g7))) (ig7 : PySem.W.isFn K (.ref g7) = true) (lg7 : K.lookup g7 = some ⟨ocg7, odg7, .func (PySem.W.fnOf "seen" "Machine.seen" (defArgs sSeen) (defBody sSeen) (defScope sSeen) .none kVg7 dcg7 pmg7 ang7 cdg7 ctg7), slg7⟩) (cg7 : PySem.W.codeIn K cdg7 "Machine.seen" = true) (kg7 : PySem.W.keepIn K (.ref g7) = true)
    {g8 : Addr} {odg8 ang8 : Option Addr} {slg8 : Array (Option Value)} {ocg8 kVg8 dcg8 pmg8 cdg8 ctg8 : Value} (ag8 : PySem.W.findIn K (.ref C) "deep" = some (some (.ref g8))) (ig8 : PySem.W.isFn K (.ref g8) = true) (lg8 : K.lookup g8 = some ⟨ocg8, odg8, .func (PySem.W.fnOf "deep" "Machine.deep" (defArgs sDeep) (defBody sDeep) (defScope sDeep) .none kVg8 dcg8 pmg8 ang8 cdg8 ctg8), slg8⟩) (cg8 : PySem.W.codeIn K cdg8 "Machine.deep" = true) (kg8 : PySem.W.keepIn K (.ref g8) = true)
    {g9 : Addr} {odg9 ang9 : Option Addr} {slg9 : Array (Option Value)} {ocg9 kVg9 dcg9 pmg9 cdg9 ctg9 : Value} (ag9 : PySem.W.findIn K (.ref C) "passed" = some (some (.ref g9))) (ig9 : PySem.W.isFn K (.ref g9) = true) (lg9 : K.lookup g9 = some ⟨ocg9, odg9, .func (PySem.W.fnOf "passed" "Machine.passed" (defArgs sPassed) (defBody sPassed) (defScope sPassed) .none kVg9 dcg9 pmg9 ang9 cdg9 ctg9), slg9⟩) (cg9 : PySem.W.codeIn K cdg9 "Machine.passed" = true) (kg9 : PySem.W.keepIn K (.ref g9) = true)
    {g10 : Addr} {odg10 ang10 : Option Addr} {slg10 : Array (Option Value)} {ocg10 kVg10 dcg10 pmg10 cdg10 ctg10 : Value} (ag10 : PySem.W.findIn K (.ref C) "step" = some (some (.ref g10))) (ig10 : PySem.W.isFn K (.ref g10) = true) (lg10 : K.lookup g10 = some ⟨ocg10, odg10, .func (PySem.W.fnOf "step" "Machine.step" (defArgs sStep) (defBody sStep) (defScope sStep) .none kVg10 dcg10 pmg10 ang10 cdg10 ctg10), slg10⟩) (cg10 : PySem.W.codeIn K cdg10 "Machine.step" = true) (kg10 : PySem.W.keepIn K (.ref g10) = true)
    {g11 : Addr} {odg11 ang11 : Option Addr} {slg11 : Array (Option Value)} {ocg11 kVg11 dcg11 pmg11 cdg11 ctg11 : Value} (ag11 : PySem.W.findIn K (.ref C) "run" = some (some (.ref g11))) (ig11 : PySem.W.isFn K (.ref g11) = true) (lg11 : K.lookup g11 = some ⟨ocg11, odg11, .func (PySem.W.fnOf "run" "Machine.run" (defArgs sRunM) (defBody sRunM) (defScope sRunM) .none kVg11 dcg11 pmg11 ang11 cdg11 ctg11), slg11⟩) (cg11 : PySem.W.codeIn K cdg11 "Machine.run" = true) (kg11 : PySem.W.keepIn K (.ref g11) = true)
    (pg : PySem.W.plainGet K C Str.empty = true) (hd : PySem.W.hasDictIn K C = true) (po : PySem.W.plainOver K C = true) (sa : PySem.W.findIn K (.ref C) "__setattr__" = some (some (.builtin "object.__setattr__"))) (mkc : PySem.W.makesIn K C = true) (kc : PySem.W.keepIn K (.ref C) = true)
    (n_program : PySem.W.findIn K (.ref C) "program" = some none)
    (n_in_boxes : PySem.W.findIn K (.ref C) "in_boxes" = some none)
    (n_in_cells : PySem.W.findIn K (.ref C) "in_cells" = some none)
    (n_in_asides : PySem.W.findIn K (.ref C) "in_asides" = some none)
    (n_rung : PySem.W.findIn K (.ref C) "rung" = some none)
    (n_told_numbers : PySem.W.findIn K (.ref C) "told_numbers" = some none)
    (n_seen_numbers : PySem.W.findIn K (.ref C) "seen_numbers" = some none)
    (n_pile : PySem.W.findIn K (.ref C) "pile" = some none)
    (n_marks_done : PySem.W.findIn K (.ref C) "marks_done" = some none)
    (n_here : PySem.W.findIn K (.ref C) "here" = some none)
    (n_how_ended : PySem.W.findIn K (.ref C) "how_ended" = some none)
    {pD : Addr} {esD : Array DictEntry} {nD : Nat} (aD : PySem.W.nsIn K mainGlobals "DEEDS" = some (some (.ref pD))) (lD : K.lookup pD = some ⟨.type "dict", none, .dict esD nD, #[]⟩) (kD : PySem.W.KeysLit w.params esD.toList) (oD : (pD == sysModules) = false)
    (e_stop : PySem.W.nsIn K pD "stop" = some (some (.ref f2)))
    (e_halt : PySem.W.nsIn K pD "halt" = some (some (.ref f3)))
    (e_back : PySem.W.nsIn K pD "back" = some (some (.ref f4)))
    (e_set : PySem.W.nsIn K pD "set" = some (some (.ref f5)))
    (e_more : PySem.W.nsIn K pD "more" = some (some (.ref f6)))
    (e_copy : PySem.W.nsIn K pD "copy" = some (some (.ref f7)))
    (e_add : PySem.W.nsIn K pD "add" = some (some (.ref f8)))
    (e_less : PySem.W.nsIn K pD "less" = some (some (.ref f9)))
    (e_load : PySem.W.nsIn K pD "load" = some (some (.ref f10)))
    (e_keep : PySem.W.nsIn K pD "keep" = some (some (.ref f11)))
    (e_tell : PySem.W.nsIn K pD "tell" = some (some (.ref f12)))
    (e_see : PySem.W.nsIn K pD "see" = some (some (.ref f13)))
    (e_put : PySem.W.nsIn K pD "put" = some (some (.ref f14)))
    (e_take : PySem.W.nsIn K pD "take" = some (some (.ref f15)))
    (e_jump : PySem.W.nsIn K pD "jump" = some (some (.ref f16)))
    (e_zero : PySem.W.nsIn K pD "zero" = some (some (.ref f17)))
    (e_below : PySem.W.nsIn K pD "below" = some (some (.ref f18)))
    (e_call : PySem.W.nsIn K pD "call" = some (some (.ref f19)))
    (e_mark : PySem.W.nsIn K pD "mark" = some (some (.ref f20)))
    (e_table : PySem.W.nsIn K pD "table" = some (some (.ref f21)))
    {cEnded : Addr} (xEnded : PySem.W.nsIn K mainGlobals "Ended" = some (some (.ref cEnded)))
    {cRowError : Addr} (xRowError : PySem.W.nsIn K mainGlobals "RowError" = some (some (.ref cRowError)))
    {cNoLine : Addr} (xNoLine : PySem.W.nsIn K mainGlobals "NoLine" = some (some (.ref cNoLine)))
    {cNoPaper : Addr} (xNoPaper : PySem.W.nsIn K mainGlobals "NoPaper" = some (some (.ref cNoPaper)))
    {cNoRows : Addr} (xNoRows : PySem.W.nsIn K mainGlobals "NoRows" = some (some (.ref cNoRows)))
    {cNoWish : Addr} (xNoWish : PySem.W.nsIn K mainGlobals "NoWish" = some (some (.ref cNoWish)))
    {cTooMuch : Addr} (xTooMuch : PySem.W.nsIn K mainGlobals "TooMuch" = some (some (.ref cTooMuch)))
    {cdE : ClassData} (xq : PySem.W.excIn K cEnded bmVE "ValueError.__new__" = true) (xga : PySem.W.findIn K (.ref cEnded) "__getattribute__" = some (some (.builtin "BaseException.__getattribute__"))) (xgh : PySem.W.findIn K (.ref cEnded) "__getattr__" = some none) (xcl : PySem.W.findIn K (.ref cEnded) "__class__" = some (some (.builtin "object.__class__"))) (xgt : PySem.W.specialIn K (.builtin "object.__class__") "__get__" = some (some (.builtin "getset_descriptor.__get__"))) (xtk : PySem.W.takesIn K (.builtin "object.__class__") = some true) (xob : PySem.W.mroIn K cEnded (.type "object") = some true) (xbx : PySem.W.mroIn K cEnded (.type "BaseException") = some true) (xci : PySem.W.clsIn K cEnded = some cdE) (xexm : PySem.W.exmOne K (.ref cEnded) (.ref cRowError) = some true) (xoth : PySem.W.kitAny K (.ref cEnded) [.ref cNoLine, .ref cNoPaper, .ref cNoRows, .ref cNoWish, .ref cTooMuch] = some false) (xown : PySem.W.kitOne K (.ref cEnded) (.ref cEnded) = some true) (xval : PySem.W.kitOne K (.ref cEnded) (.type "ValueError") = some true)
    : ∃ fd : FuncData, (∀ (s : Shared) (v : Value), BindsTo s fd ⟨[v], []⟩ [("_law_script", v)]) ∧ ∀ base : Heap, K.In base → base.Ns mainGlobals mg → FnOk l.prog w K mg base CX0 6 fa fd ["_law_script"] (spLaw (K := K)) := by
  have e := hfa.symm.trans (PySem.W.mg_of X G a37)
  cases e
  have F0 := fun_mk (st := sEnd) l0 c0 k0
  have b0 := F0.binds (ps := ["machine", "how"]) fun _ _ _ _ _ _ us hl => match us, hl with | [_, _], _ => rfl
  have m0 := PySem.W.mg_of X G a0
  have F1 := fun_mk (st := sNought) l1 c1 k1
  have b1 := F1.binds (ps := ["numbers"]) fun _ _ _ _ _ _ us hl => match us, hl with | [_], _ => rfl
  have m1 := PySem.W.mg_of X G a1
  have F2 := fun_mk (st := d_stop) l2 c2 k2
  have b2 := F2.binds (ps := ["machine", "row"]) fun _ _ _ _ _ _ us hl => match us, hl with | [_, _], _ => rfl
  have m2 := PySem.W.mg_of X G a2
  have F3 := fun_mk (st := d_halt) l3 c3 k3
  have b3 := F3.binds (ps := ["machine", "row"]) fun _ _ _ _ _ _ us hl => match us, hl with | [_, _], _ => rfl
  have m3 := PySem.W.mg_of X G a3
  have F4 := fun_mk (st := d_back) l4 c4 k4
  have b4 := F4.binds (ps := ["machine", "row"]) fun _ _ _ _ _ _ us hl => match us, hl with | [_, _], _ => rfl
  have m4 := PySem.W.mg_of X G a4
  have F5 := fun_mk (st := d_set) l5 c5 k5
  have b5 := F5.binds (ps := ["machine", "row"]) fun _ _ _ _ _ _ us hl => match us, hl with | [_, _], _ => rfl
  have m5 := PySem.W.mg_of X G a5
  have F6 := fun_mk (st := d_more) l6 c6 k6
  have b6 := F6.binds (ps := ["machine", "row"]) fun _ _ _ _ _ _ us hl => match us, hl with | [_, _], _ => rfl
  have m6 := PySem.W.mg_of X G a6
  have F7 := fun_mk (st := d_copy) l7 c7 k7
  have b7 := F7.binds (ps := ["machine", "row"]) fun _ _ _ _ _ _ us hl => match us, hl with | [_, _], _ => rfl
  have m7 := PySem.W.mg_of X G a7
  have F8 := fun_mk (st := d_add) l8 c8 k8
  have b8 := F8.binds (ps := ["machine", "row"]) fun _ _ _ _ _ _ us hl => match us, hl with | [_, _], _ => rfl
  have m8 := PySem.W.mg_of X G a8
  have F9 := fun_mk (st := d_less) l9 c9 k9
  have b9 := F9.binds (ps := ["machine", "row"]) fun _ _ _ _ _ _ us hl => match us, hl with | [_, _], _ => rfl
  have m9 := PySem.W.mg_of X G a9
  have F10 := fun_mk (st := d_load) l10 c10 k10
  have b10 := F10.binds (ps := ["machine", "row"]) fun _ _ _ _ _ _ us hl => match us, hl with | [_, _], _ => rfl
  have m10 := PySem.W.mg_of X G a10
  have F11 := fun_mk (st := d_keep) l11 c11 k11
  have b11 := F11.binds (ps := ["machine", "row"]) fun _ _ _ _ _ _ us hl => match us, hl with | [_, _], _ => rfl
  have m11 := PySem.W.mg_of X G a11
  have F12 := fun_mk (st := d_tell) l12 c12 k12
  have b12 := F12.binds (ps := ["machine", "row"]) fun _ _ _ _ _ _ us hl => match us, hl with | [_, _], _ => rfl
  have m12 := PySem.W.mg_of X G a12
  have F13 := fun_mk (st := d_see) l13 c13 k13
  have b13 := F13.binds (ps := ["machine", "row"]) fun _ _ _ _ _ _ us hl => match us, hl with | [_, _], _ => rfl
  have m13 := PySem.W.mg_of X G a13
  have F14 := fun_mk (st := d_put) l14 c14 k14
  have b14 := F14.binds (ps := ["machine", "row"]) fun _ _ _ _ _ _ us hl => match us, hl with | [_, _], _ => rfl
  have m14 := PySem.W.mg_of X G a14
  have F15 := fun_mk (st := d_take) l15 c15 k15
  have b15 := F15.binds (ps := ["machine", "row"]) fun _ _ _ _ _ _ us hl => match us, hl with | [_, _], _ => rfl
  have m15 := PySem.W.mg_of X G a15
  have F16 := fun_mk (st := d_jump) l16 c16 k16
  have b16 := F16.binds (ps := ["machine", "row"]) fun _ _ _ _ _ _ us hl => match us, hl with | [_, _], _ => rfl
  have m16 := PySem.W.mg_of X G a16
  have F17 := fun_mk (st := d_zero) l17 c17 k17
  have b17 := F17.binds (ps := ["machine", "row"]) fun _ _ _ _ _ _ us hl => match us, hl with | [_, _], _ => rfl
  have m17 := PySem.W.mg_of X G a17
  have F18 := fun_mk (st := d_below) l18 c18 k18
  have b18 := F18.binds (ps := ["machine", "row"]) fun _ _ _ _ _ _ us hl => match us, hl with | [_, _], _ => rfl
  have m18 := PySem.W.mg_of X G a18
  have F19 := fun_mk (st := d_call) l19 c19 k19
  have b19 := F19.binds (ps := ["machine", "row"]) fun _ _ _ _ _ _ us hl => match us, hl with | [_, _], _ => rfl
  have m19 := PySem.W.mg_of X G a19
  have F20 := fun_mk (st := d_mark) l20 c20 k20
  have b20 := F20.binds (ps := ["machine", "row"]) fun _ _ _ _ _ _ us hl => match us, hl with | [_, _], _ => rfl
  have m20 := PySem.W.mg_of X G a20
  have F21 := fun_mk (st := d_table) l21 c21 k21
  have b21 := F21.binds (ps := ["machine", "row"]) fun _ _ _ _ _ _ us hl => match us, hl with | [_, _], _ => rfl
  have m21 := PySem.W.mg_of X G a21
  have F22 := fun_mk (st := sCell) l22 c22 k22
  have b22 := F22.binds (ps := ["_law_script", "_law_k"]) fun _ _ _ _ _ _ us hl => match us, hl with | [_, _], _ => rfl
  have m22 := PySem.W.mg_of X G a22
  have F23 := fun_mk (st := sDraws) l23 c23 k23
  have b23 := F23.binds (ps := ["_law_cell", "_law_k", "_law_many"]) fun _ _ _ _ _ _ us hl => match us, hl with | [_, _, _], _ => rfl
  have m23 := PySem.W.mg_of X G a23
  have F24 := fun_mk (st := sRow) l24 c24 k24
  have b24 := F24.binds (ps := ["_law_xs", "_law_size", "_law_words"]) fun _ _ _ _ _ _ us hl => match us, hl with | [_, _, _], _ => rfl
  have m24 := PySem.W.mg_of X G a24
  have F25 := fun_mk (st := sProg) l25 c25 k25
  have b25 := F25.binds (ps := ["_law_script", "_law_at", "_law_most", "_law_words"]) fun _ _ _ _ _ _ us hl => match us, hl with | [_, _, _, _], _ => rfl
  have m25 := PySem.W.mg_of X G a25
  have F26 := fun_mk (st := sBegin) l26 c26 k26
  have b26 := F26.binds (ps := ["_law_script", "_law_at"]) fun _ _ _ _ _ _ us hl => match us, hl with | [_, _], _ => rfl
  have m26 := PySem.W.mg_of X G a26
  have F27 := fun_mk (st := sStart) l27 c27 k27
  have b27 := F27.binds (ps := ["_law_boxes", "_law_cells"]) fun _ _ _ _ _ _ us hl => match us, hl with | [_, _], _ => rfl
  have m27 := PySem.W.mg_of X G a27
  have F28 := fun_mk (st := sGiven) l28 c28 k28
  have b28 := F28.binds (ps := ["_law_table", "_law_at", "_law_number_here"]) fun _ _ _ _ _ _ us hl => match us, hl with | [_, _, _], _ => rfl
  have m28 := PySem.W.mg_of X G a28
  have F29 := fun_mk (st := sNumber) l29 c29 k29
  have b29 := F29.binds (ps := ["_law_state", "_law_row_here"]) fun _ _ _ _ _ _ us hl => match us, hl with | [_, _], _ => rfl
  have m29 := PySem.W.mg_of X G a29
  have F30 := fun_mk (st := sStraight) l30 c30 k30
  have b30 := F30.binds (ps := ["_law_state", "_law_row_here"]) fun _ _ _ _ _ _ us hl => match us, hl with | [_, _], _ => rfl
  have m30 := PySem.W.mg_of X G a30
  have F31 := fun_mk (st := sGoal) l31 c31 k31
  have b31 := F31.binds (ps := ["_law_state", "_law_row_here", "_law_bells"]) fun _ _ _ _ _ _ us hl => match us, hl with | [_, _, _], _ => rfl
  have m31 := PySem.W.mg_of X G a31
  have F32 := fun_mk (st := sStepL) l32 c32 k32
  have b32 := F32.binds (ps := ["_law_rows", "_law_bells", "_law_state"]) fun _ _ _ _ _ _ us hl => match us, hl with | [_, _, _], _ => rfl
  have m32 := PySem.W.mg_of X G a32
  have F33 := fun_mk (st := sAlike) l33 c33 k33
  have b33 := F33.binds (ps := ["_law_machine", "_law_state"]) fun _ _ _ _ _ _ us hl => match us, hl with | [_, _], _ => rfl
  have m33 := PySem.W.mg_of X G a33
  have F34 := fun_mk (st := sRefused) l34 c34 k34
  have b34 := F34.binds (ps := ["_law_machine"]) fun _ _ _ _ _ _ us hl => match us, hl with | [_], _ => rfl
  have m34 := PySem.W.mg_of X G a34
  have F35 := fun_mk (st := sOver) l35 c35 k35
  have b35 := F35.binds (ps := ["_law_machine", "_law_state", "_law_most"]) fun _ _ _ _ _ _ us hl => match us, hl with | [_, _, _], _ => rfl
  have m35 := PySem.W.mg_of X G a35
  have F36 := fun_mk (st := sOnce) l36 c36 k36
  have b36 := F36.binds (ps := ["_law_number_here", "_law_box"]) fun _ _ _ _ _ _ us hl => match us, hl with | [_, _], _ => rfl
  have m36 := PySem.W.mg_of X G a36
  have F37 := fun_mk (st := sLaw) l37 c37 k37
  have T : Txt K mg := ⟨PySem.W.mg_none_of X G z_len, PySem.W.mg_none_of X G z_list, PySem.W.mg_none_of X G z_int, PySem.W.mg_none_of X G z_range, PySem.W.mg_none_of X G z_tuple, PySem.W.mg_none_of X G z_isinstance, PySem.W.mg_none_of X G z_dict, PySem.W.mg_none_of X G z_bool, kit_ib K⟩
  refine ⟨PySem.W.fnOf "law" "law" (defArgs sLaw) (defBody sLaw) (defScope sLaw) .none kV37 dc37 pm37 an37 cd37 ct37, fun s v => .of_eq rfl, fun base _ _ => ?_⟩
  have FM0 := fun_mk (st := sInit) lg0 cg0 kg0
  have bm0 := FM0.binds (ps := ["self", "rows", "boxes", "cells", "bells"]) fun _ _ _ _ _ _ us hl => match us, hl with | [_, _, _, _, _], _ => rfl
  have FM1 := fun_mk (st := sRowM) lg1 cg1 kg1
  have bm1 := FM1.binds (ps := ["self"]) fun _ _ _ _ _ _ us hl => match us, hl with | [_], _ => rfl
  have FM2 := fun_mk (st := sEnding) lg2 cg2 kg2
  have bm2 := FM2.binds (ps := ["self"]) fun _ _ _ _ _ _ us hl => match us, hl with | [_], _ => rfl
  have FM3 := fun_mk (st := sBoxes) lg3 cg3 kg3
  have bm3 := FM3.binds (ps := ["self"]) fun _ _ _ _ _ _ us hl => match us, hl with | [_], _ => rfl
  have FM4 := fun_mk (st := sCells) lg4 cg4 kg4
  have bm4 := FM4.binds (ps := ["self"]) fun _ _ _ _ _ _ us hl => match us, hl with | [_], _ => rfl
  have FM5 := fun_mk (st := sAsides) lg5 cg5 kg5
  have bm5 := FM5.binds (ps := ["self"]) fun _ _ _ _ _ _ us hl => match us, hl with | [_], _ => rfl
  have FM6 := fun_mk (st := sTold) lg6 cg6 kg6
  have bm6 := FM6.binds (ps := ["self"]) fun _ _ _ _ _ _ us hl => match us, hl with | [_], _ => rfl
  have FM7 := fun_mk (st := sSeen) lg7 cg7 kg7
  have bm7 := FM7.binds (ps := ["self"]) fun _ _ _ _ _ _ us hl => match us, hl with | [_], _ => rfl
  have FM8 := fun_mk (st := sDeep) lg8 cg8 kg8
  have bm8 := FM8.binds (ps := ["self"]) fun _ _ _ _ _ _ us hl => match us, hl with | [_], _ => rfl
  have FM9 := fun_mk (st := sPassed) lg9 cg9 kg9
  have bm9 := FM9.binds (ps := ["self"]) fun _ _ _ _ _ _ us hl => match us, hl with | [_], _ => rfl
  have FM10 := fun_mk (st := sStep) lg10 cg10 kg10
  have bm10 := FM10.binds (ps := ["self"]) fun _ _ _ _ _ _ us hl => match us, hl with | [_], _ => rfl
  have FM11 := fun_mk (st := sRunM) lg11 cg11 kg11
  have bm11 := FM11.binds (ps := ["self", "most"]) fun _ _ _ _ _ _ us hl => match us, hl with | [_, _], _ => rfl
  have MT : MTx K mg C := ⟨⟨pg, hd, po, sa⟩, n_program, n_in_boxes, n_in_cells, n_in_asides, n_rung, n_told_numbers, n_seen_numbers, n_pile, n_marks_done, n_here, n_how_ended⟩
  have GE := ok_end (P := l.prog) (w := w) (base := base) F0 MT
  have GNo := ok_nought (P := l.prog) (w := w) (base := base) F1 T
  have GCa := ok_call (P := l.prog) (w := w) (base := base) F19 MT
  have DD : Deeds l.prog w K mg base C pD := ⟨⟨f2, _, ⟨esD, nD, lD, kD, oD, _, e_stop, rfl⟩, ok_stop F2 MT GE F0.kp b0 m0, b2, F2.kp⟩, ⟨f3, _, ⟨esD, nD, lD, kD, oD, _, e_halt, rfl⟩, ok_halt F3 MT GE F0.kp b0 m0, b3, F3.kp⟩, ⟨f4, _, ⟨esD, nD, lD, kD, oD, _, e_back, rfl⟩, ok_back F4 MT GE F0.kp b0 m0 T.len, b4, F4.kp⟩, ⟨f5, _, ⟨esD, nD, lD, kD, oD, _, e_set, rfl⟩, (ok_set (P := l.prog) (base := base) F5 MT).mono (by decide), b5, F5.kp⟩, ⟨f6, _, ⟨esD, nD, lD, kD, oD, _, e_more, rfl⟩, (ok_more (P := l.prog) (base := base) F6 MT).mono (by decide), b6, F6.kp⟩, ⟨f7, _, ⟨esD, nD, lD, kD, oD, _, e_copy, rfl⟩, (ok_copy (P := l.prog) (base := base) F7 MT).mono (by decide), b7, F7.kp⟩, ⟨f8, _, ⟨esD, nD, lD, kD, oD, _, e_add, rfl⟩, (ok_add (P := l.prog) (base := base) F8 MT).mono (by decide), b8, F8.kp⟩, ⟨f9, _, ⟨esD, nD, lD, kD, oD, _, e_less, rfl⟩, (ok_less (P := l.prog) (base := base) F9 MT).mono (by decide), b9, F9.kp⟩, ⟨f10, _, ⟨esD, nD, lD, kD, oD, _, e_load, rfl⟩, (ok_load (P := l.prog) (base := base) F10 MT).mono (by decide), b10, F10.kp⟩, ⟨f11, _, ⟨esD, nD, lD, kD, oD, _, e_keep, rfl⟩, (ok_keep (P := l.prog) (base := base) F11 MT).mono (by decide), b11, F11.kp⟩, ⟨f12, _, ⟨esD, nD, lD, kD, oD, _, e_tell, rfl⟩, (ok_tell (P := l.prog) (base := base) F12 MT).mono (by decide), b12, F12.kp⟩, ⟨f13, _, ⟨esD, nD, lD, kD, oD, _, e_see, rfl⟩, (ok_see (P := l.prog) (base := base) F13 MT).mono (by decide), b13, F13.kp⟩, ⟨f14, _, ⟨esD, nD, lD, kD, oD, _, e_put, rfl⟩, (ok_put (P := l.prog) (base := base) F14 MT).mono (by decide), b14, F14.kp⟩, ⟨f15, _, ⟨esD, nD, lD, kD, oD, _, e_take, rfl⟩, (ok_take (P := l.prog) (base := base) F15 MT).mono (by decide), b15, F15.kp⟩, ⟨f16, _, ⟨esD, nD, lD, kD, oD, _, e_jump, rfl⟩, (ok_jump (P := l.prog) (base := base) F16 MT).mono (by decide), b16, F16.kp⟩, ⟨f17, _, ⟨esD, nD, lD, kD, oD, _, e_zero, rfl⟩, (ok_zero (P := l.prog) (base := base) F17 MT).mono (by decide), b17, F17.kp⟩, ⟨f18, _, ⟨esD, nD, lD, kD, oD, _, e_below, rfl⟩, (ok_below (P := l.prog) (base := base) F18 MT).mono (by decide), b18, F18.kp⟩, ⟨f19, _, ⟨esD, nD, lD, kD, oD, _, e_call, rfl⟩, (ok_call (P := l.prog) (base := base) F19 MT).mono (by decide), b19, F19.kp⟩, ⟨f20, _, ⟨esD, nD, lD, kD, oD, _, e_mark, rfl⟩, ok_mark F20 MT GCa F19.kp b19 m19, b20, F20.kp⟩, ⟨f21, _, ⟨esD, nD, lD, kD, oD, _, e_table, rfl⟩, (ok_table (P := l.prog) (base := base) F21 MT T.len).mono (by decide), b21, F21.kp⟩⟩
  have AA : Acc l.prog w K mg base C := ⟨MT, kit_nb K, ⟨g1, _, ⟨ag1, ig1, kg1⟩, ok_Here FM1 T MT, bm1⟩, ⟨g2, _, ⟨ag2, ig2, kg2⟩, ok_Ending FM2 T MT, bm2⟩, ⟨g3, _, ⟨ag3, ig3, kg3⟩, ok_Boxes FM3 T MT, bm3⟩, ⟨g4, _, ⟨ag4, ig4, kg4⟩, ok_Cells FM4 T MT GNo F1.kp b1 m1, bm4⟩, ⟨g5, _, ⟨ag5, ig5, kg5⟩, ok_Asides FM5 T MT GNo F1.kp b1 m1, bm5⟩, ⟨g6, _, ⟨ag6, ig6, kg6⟩, ok_Told FM6 T MT, bm6⟩, ⟨g7, _, ⟨ag7, ig7, kg7⟩, ok_Seen FM7 T MT, bm7⟩, ⟨g8, _, ⟨ag8, ig8, kg8⟩, ok_Deep FM8 T MT, bm8⟩, ⟨g9, _, ⟨ag9, ig9, kg9⟩, ok_Passed FM9 T MT, bm9⟩⟩
  have GC := ok_cell (P := l.prog) (w := w) (base := base) F22 T
  have GDr := ok_draws (P := l.prog) (w := w) (base := base) F23 T
  have GPr := ok_prog (P := l.prog) (w := w) (base := base) F25 T F22 b22 m22 F23 b23 m23 F24 b24 m24
  have GBe := ok_begin (P := l.prog) (w := w) (base := base) F26 T GDr F23.kp b23 m23 GC F22.kp b22 m22
  have GSt := ok_start (P := l.prog) (w := w) (base := base) F27 T
  have GGi := ok_given (P := l.prog) (w := w) (base := base) F28 T
  have GNu := ok_number (P := l.prog) (w := w) (base := base) F29 T
  have GSg := ok_straight (P := l.prog) (w := w) (base := base) F30 T GGi F28.kp b28 m28 GNu F29.kp b29 m29
  have GGo := ok_goal (P := l.prog) (w := w) (base := base) F31 T
  have GSl := ok_stepL (P := l.prog) (w := w) (base := base) F32 T GGo F31.kp b31 m31 GSg F30.kp b30 m30
  have GAl := ok_alike (P := l.prog) (w := w) (base := base) F33 T AA
  have YX : Xs K mg cEnded cRowError cNoLine cNoPaper cNoRows cNoWish cTooMuch := ⟨PySem.W.mg_of X G xEnded, PySem.W.mg_of X G xRowError, PySem.W.mg_of X G xNoLine, PySem.W.mg_of X G xNoPaper, PySem.W.mg_of X G xNoRows, PySem.W.mg_of X G xNoWish, PySem.W.mg_of X G xTooMuch, PySem.W.mg_none_of X G z_ValueError, ⟨xq⟩, ⟨xga, xgh, xcl, xgt, xtk, xob, xbx, by rw [xci]; rfl⟩, xexm, xoth, xown, xval⟩
  have GRn := ok_runM (P := l.prog) (w := w) (base := base) FM11 MT ⟨ag10, ig10, kg10⟩ (ok_step FM10 MT (PySem.W.mg_of X G aD) DD) bm10
  have GSE := ok_stepE (P := l.prog) (w := w) (base := base) FM10 MT YX
  have GRe := ok_refused (P := l.prog) (w := w) (base := base) F34 T MT YX ⟨ag10, ig10, kg10⟩ (ok_step FM10 MT (PySem.W.mg_of X G aD) DD) GSE bm10
  have GOv := ok_over (P := l.prog) (w := w) (base := base) F35 T MT ⟨ag11, ig11, kg11⟩ GRn bm11 ⟨ag1, ig1, kg1⟩ (ok_Here FM1 T MT) bm1 GRe F34.kp b34 m34 GAl F33.kp b33 m33
  have GOn := ok_once (P := l.prog) (w := w) (base := base) F36 T MT (PySem.W.mg_of X G aC) ⟨mkc, ag0, ig0, kc⟩ (ok_init FM0 T MT) bm0 ⟨ag11, ig11, kg11⟩ GRn bm11 ⟨ag8, ig8, kg8⟩ (ok_Deep FM8 T MT) bm8 ⟨ag2, ig2, kg2⟩ (ok_Ending FM2 T MT) bm2 GRe F34.kp b34 m34
  exact ok_law F37 T GPr F25.kp b25 m25 GBe F26.kp b26 m26 GSt F27.kp b27 m27 GAl F33.kp b33 m33 GSl F32.kp b32 m32 GC F22.kp b22 m22 GRe F34.kp b34 m34 GOv F35.kp b35 m35 GOn F36.kp b36 m36 MT (PySem.W.mg_of X G aC) ⟨mkc, ag0, ig0, kc⟩ (ok_init FM0 T MT) bm0 ⟨ag2, ig2, kg2⟩ (ok_Ending FM2 T MT) bm2
theorem walk {l : PySem.W.OpenLaw} {q : Program} {loose : List Str} {XP : (Str → Option Value) → Heap → Prop} {YP : World → Heap → Prop} {d : DefRec} {K : Params → PySem.W.Frag} (hn : l.most = some 63) (hdf : d.params.defaults = [])
    (hY : ∀ (w : World) (h : Heap), YP w h → (K w.params).In h)
    (F : ∀ (w : World) (mg : Str → Option Value) (fa : Addr) (h : Heap), (K w.params).In h → h.Ns mainGlobals mg → mg d.name = some (.ref fa) →
      ∃ fd : FuncData, (∀ (s : Shared) (u : Value), BindsTo s fd ⟨[u], []⟩ [("_law_script", u)]) ∧ ∀ base : Heap, (K w.params).In base → base.Ns mainGlobals mg → FnOk l.prog w (K w.params) mg base CX0 6 fa fd ["_law_script"] (spLaw (K := K w.params))) :
    PySem.W.WalkO q loose XP YP l.row.toRowW d [] (fun f vs => PySem.call f vs) :=
  L2.walk_of (n := 63) (k := 6) (x := "_law_script") (CX := fun _ => CX0) (sp := fun w => spLaw (K := K w.params)) hn (by decide) hdf ⟨rfl, by decide, by decide⟩ hY F (fun _ _ a ns hl _ hS => ⟨a, ns, rfl, hS, hl, fun _ => rfl⟩) fun _ _ _ _ _ z => z
end My
open PySem PySem.W PyProof.Rows
set_option maxRecDepth 100000 in
set_option maxHeartbeats 0 in
theorem PySem.Challenge.cw_widenrows_k25_ended_holds : PySem.Challenge.rw_widenrows_k25_ended.Holds := by
  w_on; o_law; k_head; (case hw => w_witness2)
  k_fill
  refine My.walk (l := PySem.Challenge.rw_widenrows_k25_ended) rfl rfl (fun w h Y => PySem.W.kIn_of Y) ?F
  case F =>
    intro w mg fa h KX G hmg
    refine' My.all_mk KX G hmg ?a0 ?l0 ?c0 ?k0 ?a1 ?l1 ?c1 ?k1 ?a2 ?l2 ?c2 ?k2 ?a3 ?l3 ?c3 ?k3 ?a4 ?l4 ?c4 ?k4 ?a5 ?l5 ?c5 ?k5 ?a6 ?l6 ?c6 ?k6 ?a7 ?l7 ?c7 ?k7 ?a8 ?l8 ?c8 ?k8 ?a9 ?l9 ?c9 ?k9 ?a10 ?l10 ?c10 ?k10 ?a11 ?l11 ?c11 ?k11 ?a12 ?l12 ?c12 ?k12 ?a13 ?l13 ?c13 ?k13 ?a14 ?l14 ?c14 ?k14 ?a15 ?l15 ?c15 ?k15 ?a16 ?l16 ?c16 ?k16 ?a17 ?l17 ?c17 ?k17 ?a18 ?l18 ?c18 ?k18 ?a19 ?l19 ?c19 ?k19 ?a20 ?l20 ?c20 ?k20 ?a21 ?l21 ?c21 ?k21 ?a22 ?l22 ?c22 ?k22 ?a23 ?l23 ?c23 ?k23 ?a24 ?l24 ?c24 ?k24 ?a25 ?l25 ?c25 ?k25 ?a26 ?l26 ?c26 ?k26 ?a27 ?l27 ?c27 ?k27 ?a28 ?l28 ?c28 ?k28 ?a29 ?l29 ?c29 ?k29 ?a30 ?l30 ?c30 ?k30 ?a31 ?l31 ?c31 ?k31 ?a32 ?l32 ?c32 ?k32 ?a33 ?l33 ?c33 ?k33 ?a34 ?l34 ?c34 ?k34 ?a35 ?l35 ?c35 ?k35 ?a36 ?l36 ?c36 ?k36 ?a37 ?l37 ?c37 ?k37 ?z_len ?z_list ?z_int ?z_range ?z_tuple ?z_isinstance ?z_dict ?z_bool ?z_ValueError ?aC ?ag0 ?ig0 ?lg0 ?cg0 ?kg0 ?ag1 ?ig1 ?lg1 ?cg1 ?kg1 ?ag2 ?ig2 ?lg2 ?cg2 ?kg2 ?ag3 ?ig3 ?lg3 ?cg3 ?kg3 ?ag4 ?ig4 ?lg4 ?cg4 ?kg4 ?ag5 ?ig5 ?lg5 ?cg5 ?kg5 ?ag6 ?ig6 ?lg6 ?cg6 ?kg6 ?ag7 ?ig7 ?lg7 ?cg7 ?kg7 ?ag8 ?ig8 ?lg8 ?cg8 ?kg8 ?ag9 ?ig9 ?lg9 ?cg9 ?kg9 ?ag10 ?ig10 ?lg10 ?cg10 ?kg10 ?ag11 ?ig11 ?lg11 ?cg11 ?kg11 ?pg ?hd ?po ?sa ?mkc ?kc ?n_program ?n_in_boxes ?n_in_cells ?n_in_asides ?n_rung ?n_told_numbers ?n_seen_numbers ?n_pile ?n_marks_done ?n_here ?n_how_ended ?aD ?lD ?kD ?oD ?e_stop ?e_halt ?e_back ?e_set ?e_more ?e_copy ?e_add ?e_less ?e_load ?e_keep ?e_tell ?e_see ?e_put ?e_take ?e_jump ?e_zero ?e_below ?e_call ?e_mark ?e_table ?xEnded ?xRowError ?xNoLine ?xNoPaper ?xNoRows ?xNoWish ?xTooMuch ?xq ?xga ?xgh ?xcl ?xgt ?xtk ?xob ?xbx ?xci ?xexm ?xoth ?xown ?xval
    (case a0 => k_is)
    (case l0 => k_is)
    (case c0 => k_is)
    (case k0 => k_is)
    (case a1 => k_is)
    (case l1 => k_is)
    (case c1 => k_is)
    (case k1 => k_is)
    (case a2 => k_is)
    (case l2 => k_is)
    (case c2 => k_is)
    (case k2 => k_is)
    (case a3 => k_is)
    (case l3 => k_is)
    (case c3 => k_is)
    (case k3 => k_is)
    (case a4 => k_is)
    (case l4 => k_is)
    (case c4 => k_is)
    (case k4 => k_is)
    (case a5 => k_is)
    (case l5 => k_is)
    (case c5 => k_is)
    (case k5 => k_is)
    (case a6 => k_is)
    (case l6 => k_is)
    (case c6 => k_is)
    (case k6 => k_is)
    (case a7 => k_is)
    (case l7 => k_is)
    (case c7 => k_is)
    (case k7 => k_is)
    (case a8 => k_is)
    (case l8 => k_is)
    (case c8 => k_is)
    (case k8 => k_is)
    (case a9 => k_is)
    (case l9 => k_is)
    (case c9 => k_is)
    (case k9 => k_is)
    (case a10 => k_is)
    (case l10 => k_is)
    (case c10 => k_is)
    (case k10 => k_is)
    (case a11 => k_is)
    (case l11 => k_is)
    (case c11 => k_is)
    (case k11 => k_is)
    (case a12 => k_is)
    (case l12 => k_is)
    (case c12 => k_is)
    (case k12 => k_is)
    (case a13 => k_is)
    (case l13 => k_is)
    (case c13 => k_is)
    (case k13 => k_is)
    (case a14 => k_is)
    (case l14 => k_is)
    (case c14 => k_is)
    (case k14 => k_is)
    (case a15 => k_is)
    (case l15 => k_is)
    (case c15 => k_is)
    (case k15 => k_is)
    (case a16 => k_is)
    (case l16 => k_is)
    (case c16 => k_is)
    (case k16 => k_is)
    (case a17 => k_is)
    (case l17 => k_is)
    (case c17 => k_is)
    (case k17 => k_is)
    (case a18 => k_is)
    (case l18 => k_is)
    (case c18 => k_is)
    (case k18 => k_is)
    (case a19 => k_is)
    (case l19 => k_is)
    (case c19 => k_is)
    (case k19 => k_is)
    (case a20 => k_is)
    (case l20 => k_is)
    (case c20 => k_is)
    (case k20 => k_is)
    (case a21 => k_is)
    (case l21 => k_is)
    (case c21 => k_is)
    (case k21 => k_is)
    (case a22 => k_is)
    (case l22 => k_is)
    (case c22 => k_is)
    (case k22 => k_is)
    (case a23 => k_is)
    (case l23 => k_is)
    (case c23 => k_is)
    (case k23 => k_is)
    (case a24 => k_is)
    (case l24 => k_is)
    (case c24 => k_is)
    (case k24 => k_is)
    (case a25 => k_is)
    (case l25 => k_is)
    (case c25 => k_is)
    (case k25 => k_is)
    (case a26 => k_is)
    (case l26 => k_is)
    (case c26 => k_is)
    (case k26 => k_is)
    (case a27 => k_is)
    (case l27 => k_is)
    (case c27 => k_is)
    (case k27 => k_is)
    (case a28 => k_is)
    (case l28 => k_is)
    (case c28 => k_is)
    (case k28 => k_is)
    (case a29 => k_is)
    (case l29 => k_is)
    (case c29 => k_is)
    (case k29 => k_is)
    (case a30 => k_is)
    (case l30 => k_is)
    (case c30 => k_is)
    (case k30 => k_is)
    (case a31 => k_is)
    (case l31 => k_is)
    (case c31 => k_is)
    (case k31 => k_is)
    (case a32 => k_is)
    (case l32 => k_is)
    (case c32 => k_is)
    (case k32 => k_is)
    (case a33 => k_is)
    (case l33 => k_is)
    (case c33 => k_is)
    (case k33 => k_is)
    (case a34 => k_is)
    (case l34 => k_is)
    (case c34 => k_is)
    (case k34 => k_is)
    (case a35 => k_is)
    (case l35 => k_is)
    (case c35 => k_is)
    (case k35 => k_is)
    (case a36 => k_is)
    (case l36 => k_is)
    (case c36 => k_is)
    (case k36 => k_is)
    (case a37 => k_is)
    (case l37 => k_is)
    (case c37 => k_is)
    (case k37 => k_is)
    (case z_len => k_is)
    (case z_list => k_is)
    (case z_int => k_is)
    (case z_range => k_is)
    (case z_tuple => k_is)
    (case z_isinstance => k_is)
    (case z_dict => k_is)
    (case z_bool => k_is)
    (case z_ValueError => k_is)
    (case aC => k_is)
    (case ag0 => k_is)
    (case ig0 => k_is)
    (case lg0 => k_is)
    (case cg0 => k_is)
    (case kg0 => k_is)
    (case ag1 => k_is)
    (case ig1 => k_is)
    (case lg1 => k_is)
    (case cg1 => k_is)
    (case kg1 => k_is)
    (case ag2 => k_is)
    (case ig2 => k_is)
    (case lg2 => k_is)
    (case cg2 => k_is)
    (case kg2 => k_is)
    (case ag3 => k_is)
    (case ig3 => k_is)
    (case lg3 => k_is)
    (case cg3 => k_is)
    (case kg3 => k_is)
    (case ag4 => k_is)
    (case ig4 => k_is)
    (case lg4 => k_is)
    (case cg4 => k_is)
    (case kg4 => k_is)
    (case ag5 => k_is)
    (case ig5 => k_is)
    (case lg5 => k_is)
    (case cg5 => k_is)
    (case kg5 => k_is)
    (case ag6 => k_is)
    (case ig6 => k_is)
    (case lg6 => k_is)
    (case cg6 => k_is)
    (case kg6 => k_is)
    (case ag7 => k_is)
    (case ig7 => k_is)
    (case lg7 => k_is)
    (case cg7 => k_is)
    (case kg7 => k_is)
    (case ag8 => k_is)
    (case ig8 => k_is)
    (case lg8 => k_is)
    (case cg8 => k_is)
    (case kg8 => k_is)
    (case ag9 => k_is)
    (case ig9 => k_is)
    (case lg9 => k_is)
    (case cg9 => k_is)
    (case kg9 => k_is)
    (case ag10 => k_is)
    (case ig10 => k_is)
    (case lg10 => k_is)
    (case cg10 => k_is)
    (case kg10 => k_is)
    (case ag11 => k_is)
    (case ig11 => k_is)
    (case lg11 => k_is)
    (case cg11 => k_is)
    (case kg11 => k_is)
    (case pg => k_is)
    (case hd => k_is)
    (case po => k_is)
    (case sa => k_is)
    (case mkc => k_is)
    (case kc => k_is)
    (case n_program => k_is)
    (case n_in_boxes => k_is)
    (case n_in_cells => k_is)
    (case n_in_asides => k_is)
    (case n_rung => k_is)
    (case n_told_numbers => k_is)
    (case n_seen_numbers => k_is)
    (case n_pile => k_is)
    (case n_marks_done => k_is)
    (case n_here => k_is)
    (case n_how_ended => k_is)
    (case aD => k_is)
    (case lD => k_is)
    (case kD => k_keys)
    (case oD => first | exact rfl | decide | k_is)
    (case e_stop => k_is)
    (case e_halt => k_is)
    (case e_back => k_is)
    (case e_set => k_is)
    (case e_more => k_is)
    (case e_copy => k_is)
    (case e_add => k_is)
    (case e_less => k_is)
    (case e_load => k_is)
    (case e_keep => k_is)
    (case e_tell => k_is)
    (case e_see => k_is)
    (case e_put => k_is)
    (case e_take => k_is)
    (case e_jump => k_is)
    (case e_zero => k_is)
    (case e_below => k_is)
    (case e_call => k_is)
    (case e_mark => k_is)
    (case e_table => k_is)
    (case xEnded => k_is)
    (case xRowError => k_is)
    (case xNoLine => k_is)
    (case xNoPaper => k_is)
    (case xNoRows => k_is)
    (case xNoWish => k_is)
    (case xTooMuch => k_is)
    (case xq => k_exc)
    (case xga => k_is)
    (case xgh => k_is)
    (case xcl => k_is)
    (case xgt => k_is)
    (case xtk => k_is)
    (case xob => k_is)
    (case xbx => k_is)
    (case xci => k_is)
    (case xexm => kts_exm)
    (case xoth => kit_is)
    (case xown => kit_is)
    (case xval => kit_is)
#print axioms PySem.Challenge.cw_widenrows_k25_ended_holds

