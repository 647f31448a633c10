import PyProof.Rows.All
import Wide.All
import OpenK.AllK
import Wide.FinOn
import Lean
import PyProof.EqAt
import PyProof.EqKinds
import PyProof.TupleCall
import PyProof.NeKinds
import PyProof.ListRange
import KE.KDictSum
import Wide.Seal
import PyProof.EnumIter
import PyProof.EnumFor
import PyProof.EnumMake
import PyProof.EnumStmt
import PyProof.ConsumeWalk
import KE.KPairComp
import PyProof.DictItemsLoops
import KE.KEqDict
import PyProof.AttrMissSeq
import PyProof.CollectWalk
import OpenK.KTop
import PyProof.TupleOps
import PyProof.ListMulRoad
import PyProof.FactsAll.tuple_2
import PyProof.StrBlock2
import PyProof.Rows.SortWalk
import KE.KFind
import PyProof.StationsW
import PyProof.Rows.OwnQ
import OpenK.KOwn
import KE.KTryMore
import PyProof.NsDelKeeps
import PyProof.ExcArgsOwn
import PyProof.ExcAttrAll.ValueError
import PyProof.InstStoreFacts
import PyProof.ExcBaseAll.ValueError
import PyProof.Rows.FStr
import OpenK.KCls
import KE.LcSums
import PyProof.Cells
import PyProof.Rows.TupAdd
import PyProof.ZipIter
import PyProof.TupleIter
import PyProof.WalksMore
import KE.KTurns
import PyProof.FactsAll.tuple_0
import PyProof.FactsAll.tuple_3
import PySem.Challenge.RW_widenrows_k16_distances_at_their_bounds
set_option Elab.async false
set_option linter.all false
set_option maxRecDepth 100000
/-! THE HAND LAYER, for ints, bools, texts, own classes, LISTS and tuples (index, slices, in, append, pop ..), calls, loops. Paste it whole ahead of your own text; what your proof does not reach may be deleted. -/
namespace L2
open PySem PySem.Spec PyProof.Rows

/-- a key: an int or a str -/
abbrev Key := Sum Int Str
def keyIs : Key → Value → Bool
  | .inl k, v => Value.isInt k v
  | .inr x, v => Value.isStrOf x v
def keyH (w : World) : Key → Int
  | .inl k => hashInt k
  | .inr x => hashStr w x
theorem keyIs_shape : ∀ {k : Key} {v : Value}, keyIs k v = true → (∃ i t, k = Sum.inl i ∧ v = Value.int i t) ∨ (∃ x t, k = Sum.inr x ∧ v = Value.str x t)
  | .inl i, v, h => by
    obtain ⟨t, e⟩ := Value.isInt_shape (k := i) (v := v) h
    exact .inl ⟨i, t, rfl, e⟩
  | .inr x, v, h => by
    obtain ⟨t, e⟩ := Value.isStrOf_shape (x := x) (v := v) h
    exact .inr ⟨x, t, rfl, e⟩
theorem keyIs_int (i : Int) (t : Tok) : keyIs (.inl i) (.int i t) = true := by simp [keyIs, Value.isInt]
theorem keyIs_str (x : Str) (t : Tok) : keyIs (.inr x) (.str x t) = true := by simp [keyIs, Value.isStrOf]
theorem key_ll (a b : Int) : decide ((Sum.inl a : Key) = Sum.inl b) = (a == b) := by
  by_cases e : a = b
  · subst e; simp
  · have h : ¬ (Sum.inl a : Key) = Sum.inl b := fun q => e (Sum.inl.inj q)
    rw [decide_eq_false h]
    exact (beq_eq_false_iff_ne.mpr e).symm
theorem key_rr (a b : Str) : decide ((Sum.inr a : Key) = Sum.inr b) = decide (a = b) := by
  by_cases e : a = b
  · subst e; simp
  · have h : ¬ (Sum.inr a : Key) = Sum.inr b := fun q => e (Sum.inr.inj q)
    rw [decide_eq_false h, decide_eq_false e]
theorem key_lr (a : Int) (b : Str) : decide ((Sum.inl a : Key) = Sum.inr b) = false := decide_eq_false (fun q => nomatch q)
theorem key_rl (a : Str) (b : Int) : decide ((Sum.inr a : Key) = Sum.inl b) = false := decide_eq_false (fun q => nomatch q)

def mixKind (prog : Program) (w : World) : PySem.KeyKind prog w Key where
  is := keyIs
  hash := keyH w
  inj := fun v a b ha hb => by
    rcases keyIs_shape ha with ⟨i, t, rfl, rfl⟩ | ⟨x, t, rfl, rfl⟩
    · rcases keyIs_shape hb with ⟨j, u, rfl, e⟩ | ⟨y, u, rfl, e⟩
      · injection e with e1 _; rw [e1]
      · exact nomatch e
    · rcases keyIs_shape hb with ⟨j, u, rfl, e⟩ | ⟨y, u, rfl, e⟩
      · exact nomatch e
      · injection e with e1 _; rw [e1]
  byValue := fun k v h => by
    rcases keyIs_shape h with ⟨i, t, rfl, rfl⟩ | ⟨x, t, rfl, rfl⟩ <;> rfl
  pyHash := fun hv h => by
    rcases keyIs_shape hv with ⟨i, t, rfl, rfl⟩ | ⟨x, t, rfl, rfl⟩
    · exact wpAny_pyHash_int h
    · exact wpAny_pyHash_str h
  eqBool := fun hu hv h => by
    rcases keyIs_shape hu with ⟨i, t, rfl, rfl⟩ | ⟨x, t, rfl, rfl⟩
    · rcases keyIs_shape hv with ⟨j, u, rfl, rfl⟩ | ⟨y, u, rfl, rfl⟩
      · rw [key_ll] at h; exact wpAny_eqBool_int h
      · rw [key_lr] at h; exact SeqAt.EqAt.int_str i t y u _ _ _ _ h
    · rcases keyIs_shape hv with ⟨j, u, rfl, rfl⟩ | ⟨y, u, rfl, rfl⟩
      · rw [key_rl] at h; exact SeqAt.EqAt.str_int x t j u _ _ _ _ h
      · rw [key_rr] at h; exact wpAny_eqBool_str h
  «strs» := fun k x t v h => by
    rcases keyIs_shape h with ⟨i, u, rfl, e⟩ | ⟨y, u, rfl, e⟩
    · exact nomatch e
    · injection e with e1 _
      subst e1
      cases v <;> rfl

theorem mixKind_int (prog : Program) (w : World) (i : Int) (t : Tok) : (mixKind prog w).is (.inl i) (.int i t) = true := keyIs_int i t
theorem mixKind_str (prog : Program) (w : World) (x : Str) (t : Tok) : (mixKind prog w).is (.inr x) (.str x t) = true := keyIs_str x t
end L2

namespace L2
open PySem PySem.Spec PyProof.Rows

/-- a value, without the heap -/
inductive V where
  | non | bl (b : Bool) | int (i : Int) | str (x : Str) | byt (b : Array UInt8) | flt (b : UInt64) | ref (a : Addr) | ty (n : String)
  deriving DecidableEq

def RelV : V → Value → Prop
  | .non, u => u = Value.none
  | .bl b, u => u = Value.bool b
  | .int i, u => ∃ t, u = Value.int i t
  | .str x, u => ∃ t, u = Value.str x t
  | .byt b, u => ∃ t, u = Value.bytes b t
  | .flt b, u => ∃ t, u = Value.float b t
  | .ref a, u => u = Value.ref a
  | .ty n, u => u = Value.type n

abbrev Vals : List V → List Value → Prop := Paired RelV
theorem Vals.length {xs : List V} {us : List Value} (r : Vals xs us) : xs.length = us.length := Paired.length r
theorem Vals.get : ∀ {xs : List V} {us : List Value} {i : Nat} {x : V}, Vals xs us → xs[i]? = some x → ∃ u, us[i]? = some u ∧ RelV x u
  | _, _, _, _, .nil, e => by simp at e
  | _, _, 0, _, .cons r _, e => by simp at e; subst e; exact ⟨_, rfl, r⟩
  | _, _, i + 1, x, .cons _ t, e => by
    obtain ⟨u, h1, h2⟩ := Vals.get (i := i) (x := x) t (by simpa using e)
    exact ⟨u, by simpa using h1, h2⟩
theorem Vals.set {x : V} {u : Value} (r : RelV x u) : ∀ {xs : List V} {us : List Value} (i : Nat), Vals xs us → Vals (xs.set i x) (us.set i u)
  | _, _, _, .nil => .nil
  | _, _, 0, .cons _ t => .cons r t
  | _, _, i + 1, .cons q t => .cons q (Vals.set r i t)
theorem Vals.append : ∀ {xs ys : List V} {us ws : List Value}, Vals xs us → Vals ys ws → Vals (xs ++ ys) (us ++ ws)
  | _, _, _, _, .nil, s => s
  | _, _, _, _, .cons r t, s => .cons r (Vals.append t s)
theorem Vals.take : ∀ {xs : List V} {us : List Value} (n : Nat), Vals xs us → Vals (xs.take n) (us.take n)
  | _, _, 0, _ => .nil
  | _, _, _ + 1, .nil => .nil
  | _, _, n + 1, .cons r t => .cons r (Vals.take n t)
theorem Vals.drop : ∀ {xs : List V} {us : List Value} (n : Nat), Vals xs us → Vals (xs.drop n) (us.drop n)
  | _, _, 0, r => r
  | _, _, _ + 1, .nil => .nil
  | _, _, n + 1, .cons _ t => Vals.drop n t

def RelO : Option V → Option Value → Prop
  | some v, some u => RelV v u
  | none, none => True
  | _, _ => False
def KV {κ : Type} : List (κ × V) → List (κ × Value) → Prop := Paired fun (p : κ × V) (q : κ × Value) => p.1 = q.1 ∧ RelV p.2 q.2

/-- a key of a dict (00_mix): an int or a text -/
def kV : Key → V
  | .inl i => .int i
  | .inr x => .str x

/-- what stands at a tracked address -/
inductive HO where
  /-- a list -/
  | lst (xs : List V)
  /-- a tuple (never changes) -/
  | tup (xs : List V)
  /-- a dict whose keys are ints and texts; one whose keys are tuples of ints and texts (the empty one is both) -/
  | dK (kvs : List (Key × V)) | dT (kvs : List (List Key × V))
  /-- a set of ints: its members, its size -/
  | set (S : Int → Bool) (n : Nat)
  /-- an instance of the class at C, its dict at dx, its attributes -/
  | ins (C dx : Addr) (fs : List (Str × V))
  /-- the dict of the instance at x -/
  | own (x : Addr)
  /-- the dict of an exception -/
  | xd (fs : List (Str × V))
  /-- a bound method, f of x -/
  | met (f x : Addr)
  /-- a range object lo, lo + 1, .. below hi -/
  | rng (lo hi : Int)
  /-- a thing that is known to the object (the script; a dict while a loop walks it): read, never written while it is so -/
  | frz (o : Obj) (u : HO)
  /-- a code object's table -/
  | tbl (ps : Array Value)
  /-- any other thing, by what is true of its one object (a def of one's own: SetO a S n := HO.ext fun h => ..) -/
  | ext (φ : Heap → Prop)

abbrev Hp := Addr → Option HO
def upd (H : Hp) (a : Addr) (o : HO) : Hp := fun b => if b = a then some o else H b
theorem upd_same {H : Hp} {a : Addr} {o : HO} : upd H a o a = some o := by unfold upd; rw [if_pos rfl]
theorem upd_ne {H : Hp} {a b : Addr} {o : HO} (h : b ≠ a) : upd H a o b = H b := by unfold upd; rw [if_neg h]
/-- two objects of different content stand apart -/
theorem ne_of {H : Hp} {a b : Addr} {o u : HO} (h : H a = some o) (h' : H b = some u) (d : o ≠ u) : a ≠ b := by
  intro e; subst e; rw [h] at h'; exact d (Option.some.inj h')
theorem ne_of_none {H : Hp} {a b : Addr} {o : HO} (h : H a = some o) (h' : H b = none) : a ≠ b := by
  intro e; subst e; rw [h] at h'; cases h'

section
variable (P : Program) (w : World)
def ObjOk (H : Hp) (h : Heap) (a : Addr) : HO → Prop
  | .lst xs => xs.length ≤ sizeLine ∧ ∃ (its : List Value) (n : Nat), Vals xs its ∧ h.get? a = some { cls := .type "list", data := .seq its.toArray n }
  | .tup xs => xs.length ≤ sizeLine ∧ ∃ its : List Value, Vals xs its ∧ IsTup h a its.toArray
  | .dK kvs => kvs.length ≤ sizeLine ∧ (a == sysModules) = false ∧ ∃ vs, KV kvs vs ∧ h.DictOf (mixKind P w) a vs
  | .dT kvs => kvs.length ≤ sizeLine ∧ (a == sysModules) = false ∧ ∃ xs : List (List Key × Addr × Value),
      Paired (fun (p : List Key × V) (q : List Key × Addr × Value) => p.1 = q.1 ∧ H q.2.1 = some (.tup (p.1.map kV)) ∧ RelV p.2 q.2.2) kvs xs ∧
      ∃ o es ep, h.get? a = some o ∧ o.ExactDict ∧ o.data = .dict es ep ∧ es.toList = xs.map (entryOfKey (tupleKind (mixKind P w))) ∧ (xs.map (·.1)).Nodup
  | .set S n => h.SetOf (intKind P w) a S n
  | .ins C dx fs => H dx = some (.own a) ∧ fs.length ≤ 1000 ∧ dx ≠ a ∧ h.get? a = some (PySem.W.instObj C dx) ∧
      ∃ mA, h.Ns1 dx mA ∧ (∀ f, RelO (fs.lookup f) (mA f)) ∧ PySem.Within mA (fs.map (·.1))
  | .own _ => ∃ o, h.get? a = some o
  | .xd fs => ∃ mA, h.Ns1 a mA ∧ ∀ f, RelO (fs.lookup f) (mA f)
  | .rng lo hi => ∃ t u v, h.get? a = some { cls := .type "range", data := .fields #[.int lo t, .int hi u, .int 1 v] }
  | .frz o u => h.get? a = some o ∧ ObjOk H h a u
  | .tbl ps => h.get? a = some { cls := .none, data := .fields ps }
  | .met f x => h.get? a = some (PySem.W.methodObj (.ref f) (.ref x))
  | .ext φ => φ h ∧ (∃ o, h.get? a = some o) ∧ ∀ h1 h2 : Heap, φ h1 → (∀ o, h1.get? a = some o → h2.get? a = some o) → φ h2
/-- the abstract heap is held -/
def HOk (H : Hp) (h : Heap) : Prop := ∀ a o, H a = some o → ObjOk P w H h a o
end

section
variable {P : Program} {w : World} {H H' : Hp} {h h' : Heap} {a : Addr} {o : HO}
theorem ObjOk.lt (x : ObjOk P w H h a o) : a < h.objs.size := by
  cases o with
  | lst xs => obtain ⟨_, _, _, _, e⟩ := x; exact Heap.lt_size e
  | tup xs => obtain ⟨_, _, _, p⟩ := x; exact p.lt
  | dK kvs => obtain ⟨_, _, _, _, o, _, _, e, _⟩ := x; exact Heap.lt_size e
  | dT kvs => obtain ⟨_, _, _, _, o, _, _, e, _⟩ := x; exact Heap.lt_size e
  | set S n => obtain ⟨o, _, _, _, e, _⟩ := x; exact Heap.lt_size e
  | ins C dx fs => obtain ⟨_, _, _, e, _⟩ := x; exact Heap.lt_size e
  | own y => obtain ⟨_, e⟩ := x; exact Heap.lt_size e
  | xd fs => obtain ⟨_, ⟨_, _, _, e, _⟩, _⟩ := x; exact Heap.lt_size e
  | rng lo hi => obtain ⟨_, _, _, e⟩ := x; exact Heap.lt_size e
  | frz ob u => obtain ⟨e, _⟩ := x; exact Heap.lt_size e
  | tbl ps => exact Heap.lt_size (show h.get? a = some _ from x)
  | met f y => exact Heap.lt_size (show h.get? a = some _ from x)
  | ext φ => obtain ⟨_, ⟨_, e⟩, _⟩ := x; exact Heap.lt_size e
theorem Paired.mapP {α β : Type} {F G : α → β → Prop} : ∀ {l₁ : List α} {l₂ : List β}, Paired F l₁ l₂ → (∀ a b, F a b → G a b) → Paired G l₁ l₂
  | _, _, .nil, _ => .nil
  | _, _, .cons r t, f => .cons (f _ _ r) (Paired.mapP t f)
/-- what an object's description leans on: its own object, its own dict, the tuples -/
theorem ObjOk.stay (x : ObjOk P w H h a o) (k : ∀ b u, (b = a ∨ H b = some (.own a)) → h.get? b = some u → h'.get? b = some u)
    (ho : ∀ b, H b = some (.own a) → H' b = some (.own a)) (ht : ∀ b xs, H b = some (.tup xs) → H' b = some (.tup xs)) : ObjOk P w H' h' a o := by
  induction o with
  | lst xs => obtain ⟨z, its, n, r, e⟩ := x; exact ⟨z, its, n, r, k _ _ (.inl rfl) e⟩
  | tup xs => obtain ⟨z, its, r, ob, e, c⟩ := x; exact ⟨z, its, r, ob, k _ _ (.inl rfl) e, c⟩
  | dK kvs => obtain ⟨z, y, vs, r, ob, es, ep, e, c⟩ := x; exact ⟨z, y, vs, r, ob, es, ep, k _ _ (.inl rfl) e, c⟩
  | dT kvs =>
    obtain ⟨z, y, xs, r, ob, es, ep, e, c⟩ := x
    exact ⟨z, y, xs, Paired.mapP r fun p q z => ⟨z.1, ht _ _ z.2.1, z.2.2⟩, ob, es, ep, k _ _ (.inl rfl) e, c⟩
  | set S n => obtain ⟨ob, es, ep, t, e, c⟩ := x; exact ⟨ob, es, ep, t, k _ _ (.inl rfl) e, c⟩
  | ins C dx fs =>
    obtain ⟨d, z, ne, e, mA, ⟨od, es, ep, e2, c⟩, r⟩ := x
    exact ⟨ho _ d, z, ne, k _ _ (.inl rfl) e, mA, ⟨od, es, ep, k _ _ (.inr d) e2, c⟩, r⟩
  | own y => obtain ⟨ob, e⟩ := x; exact ⟨ob, k _ _ (.inl rfl) e⟩
  | xd fs => obtain ⟨mA, ⟨od, es, ep, e, c⟩, r⟩ := x; exact ⟨mA, ⟨od, es, ep, k _ _ (.inl rfl) e, c⟩, r⟩
  | rng lo hi => obtain ⟨t, u, v, e⟩ := x; exact ⟨t, u, v, k _ _ (.inl rfl) e⟩
  | frz ob u ih => obtain ⟨e, q⟩ := x; exact ⟨k _ _ (.inl rfl) e, ih q⟩
  | tbl ps =>
    have e : h.get? a = some { cls := .none, data := .fields ps } := x
    show h'.get? a = some { cls := .none, data := .fields ps }
    exact k a _ (.inl rfl) e
  | met f y =>
    have e : h.get? a = some (PySem.W.methodObj (.ref f) (.ref y)) := x
    show h'.get? a = some (PySem.W.methodObj (.ref f) (.ref y))
    exact k a _ (.inl rfl) e
  | ext φ => obtain ⟨p, ⟨o, e⟩, st⟩ := x; exact ⟨st _ _ p fun o q => k _ _ (.inl rfl) q, ⟨o, k _ _ (.inl rfl) e⟩, st⟩
theorem HOk.lt (x : HOk P w H h) (e : H a = some o) : a < h.objs.size := (x a o e).lt
theorem HOk.fresh (x : HOk P w H h) (e : h.objs.size ≤ a) : H a = none := by
  cases q : H a with
  | none => rfl
  | some u => exact absurd (Nat.lt_of_lt_of_le (x.lt q) e) (Nat.lt_irrefl _)
/-- every object of the heap is kept -/
theorem HOk.kept (x : HOk P w H h) (k : ∀ b u, h.get? b = some u → h'.get? b = some u) : HOk P w H h' := fun a o e =>
  (x a o e).stay (fun b u _ q => k b u q) (fun _ q => q) fun _ _ q => q
/-- a new object is laid and tracked -/
theorem HOk.laid (x : HOk P w H h) (k : ∀ b u, h.get? b = some u → h'.get? b = some u) (hp : h.objs.size ≤ a) (new : ObjOk P w (upd H a o) h' a o) : HOk P w (upd H a o) h' := fun b u e => by
  have hn := x.fresh hp
  by_cases hb : b = a
  · subst hb; rw [upd_same] at e; cases e; exact new
  · rw [upd_ne hb] at e
    exact (x b u e).stay (fun c v _ q => k c v q) (fun c q => by rw [upd_ne (ne_of_none q hn)]; exact q) fun c xs q => by rw [upd_ne (ne_of_none q hn)]; exact q
end

/-- what may be read as u: it is u, or a known u -/
def Rd (H : Hp) (a : Addr) (u : HO) : Prop := H a = some u ∨ ∃ o, H a = some (.frz o u)
theorem Rd.ok {P : Program} {w : World} {H : Hp} {h : Heap} {a : Addr} {u : HO} (r : Rd H a u) (x : HOk P w H h) : ObjOk P w H h a u := by
  rcases r with r | ⟨o, r⟩
  · exact x a u r
  · obtain ⟨_, q⟩ := x a _ r
    exact q
/-- what may be written -/
def Mut : Option HO → Prop
  | some (.lst _) => True
  | some (.dK _) => True
  | some (.dT _) => True
  | some (.set _ _) => True
  | some (.ins _ _ _) => True
  | some (.ext _) => True
  | _ => False
section
variable {P : Program} {w : World} {H : Hp} {h h' : Heap} {x e : Addr} {o' : HO}
/-- the object at e is changed: x itself, or the dict of the instance x -/
theorem HOk.write (ok : HOk P w H h) (mu : Mut (H x)) (he : e = x ∨ H e = some (.own x)) (k : ∀ b u, b ≠ e → h.get? b = some u → h'.get? b = some u) (heo : ∃ u, h'.get? e = some u)
    (new : ObjOk P w (upd H x o') h' x o') : HOk P w (upd H x o') h' := fun b u q => by
  have nown : ∀ c y, H c = some (.own y) → c ≠ x := fun c y r z => by subst z; rw [r] at mu; exact mu
  have ntup : ∀ c xs, H c = some (.tup xs) → c ≠ x := fun c xs r z => by subst z; rw [r] at mu; exact mu
  by_cases hb : b = x
  · subst hb; rw [upd_same] at q; cases q; exact new
  · rw [upd_ne hb] at q
    by_cases hbe : b = e
    · have q' : H b = some (.own x) := by
        rcases he with z | z
        · exact absurd (hbe.trans z) hb
        · rw [hbe]; exact z
      rw [q] at q'; cases q'
      obtain ⟨v, hv⟩ := heo
      exact ⟨v, by rw [hbe]; exact hv⟩
    · refine (ok b u q).stay (fun c v hc r => k c v ?_ r) (fun c r => by rw [upd_ne (nown c b r)]; exact r) fun c xs r => by rw [upd_ne (ntup c xs r)]; exact r
      rcases hc with rfl | hc
      · exact hbe
      · rintro rfl
        rcases he with z | z
        · exact nown c b hc z
        · rw [hc] at z; cases z; exact hb rfl
end

/-! ### kept unless tracked; of the frames at fs (the callers') the slots may change (an exception that passes writes there); of the records at ex (iterators) nothing is said -/
structure Un (fs ex : List Addr) (H H' : Hp) (h h' : Heap) : Prop where
  keep : ∀ b o, h.get? b = some o → H b = none → b ∉ fs → b ∉ ex → h'.get? b = some o
  slot : ∀ b o, h.get? b = some o → H b = none → b ∈ fs → b ∉ ex → ∃ sl, h'.get? b = some { o with slots := sl }
  free : ∀ b o, h.get? b = some o → H b = none → b ∉ ex → H' b = none
  there : ∀ b o, h.get? b = some o → b ∉ ex → ∃ o', h'.get? b = some o'
  tups : ∀ b xs, H b = some (.tup xs) → H' b = some (.tup xs)
  frzs : ∀ b o u, H b = some (.frz o u) → H' b = some (.frz o u)
  tbls : ∀ b ps, H b = some (.tbl ps) → ∃ more, H' b = some (.tbl (ps ++ more))
section
variable {fs fs' ex ex' : List Addr} {H H1 H2 : Hp} {h h1 h2 h' : Heap} {a x e : Addr} {o : HO}
theorem Un.any (u : Un fs ex H H1 h h1) {b : Addr} {ob : Obj} (q : h.get? b = some ob) (n : H b = none) (hx : b ∉ ex) : ∃ sl, h1.get? b = some { ob with slots := sl } := by
  by_cases hb : b ∈ fs
  · exact u.slot b ob q n hb hx
  · exact ⟨ob.slots, u.keep b ob q n hb hx⟩
theorem Un.kept (k : ∀ b u, h.get? b = some u → h'.get? b = some u) : Un fs ex H H h h' :=
  ⟨fun b ob q _ _ _ => k b ob q, fun b ob q _ _ _ => ⟨ob.slots, k b ob q⟩, fun _ _ _ n _ => n, fun b ob q _ => ⟨ob, k b ob q⟩, fun _ _ q => q, fun _ _ _ q => q, fun _ ps q => ⟨#[], by rw [q]; simp⟩⟩
theorem Un.refl : Un fs ex H H h h := Un.kept fun _ _ q => q
theorem Un.laid (k : ∀ b u, h.get? b = some u → h'.get? b = some u) (hp : h.objs.size ≤ a) (hn : H a = none) : Un fs ex H (upd H a o) h h' where
  keep := fun b u q _ _ _ => k b u q
  slot := fun b u q _ _ _ => ⟨u.slots, k b u q⟩
  free := fun b u q n _ => by rw [upd_ne (Nat.ne_of_lt (Nat.lt_of_lt_of_le (Heap.lt_size q) hp))]; exact n
  there := fun b u q _ => ⟨u, k b u q⟩
  tups := fun b xs q => by rw [upd_ne (ne_of_none q hn)]; exact q
  frzs := fun b u xs q => by rw [upd_ne (ne_of_none q hn)]; exact q
  tbls := fun b ps q => ⟨#[], by rw [upd_ne (ne_of_none q hn), q]; simp⟩
theorem Un.write (mu : Mut (H x)) (he : e = x ∨ H e = some (.own x)) (k : ∀ b u, b ≠ e → h.get? b = some u → h'.get? b = some u) (heo : ∃ u, h'.get? e = some u) : Un fs ex H (upd H x o) h h' := by
  have hx : ∀ b, H b = none → b ≠ x := fun b n z => by subst z; rw [n] at mu; exact mu
  have hb : ∀ b, H b = none → b ≠ e := fun b n z => by
    subst z
    rcases he with r | r
    · exact hx b n r
    · rw [n] at r; cases r
  have hm : ∀ b u, H b = some u → ¬ Mut (some u) → b ≠ x := fun b u q nm z => by subst z; rw [q] at mu; exact nm mu
  refine ⟨fun b u q n _ _ => k b u (hb b n) q, fun b u q n _ _ => ⟨u.slots, k b u (hb b n) q⟩, fun b u q n _ => by rw [upd_ne (hx b n)]; exact n, fun b u q _ => ?_,
    fun b xs q => by rw [upd_ne (hm b _ q fun z => z)]; exact q, fun b u xs q => by rw [upd_ne (hm b _ q fun z => z)]; exact q, fun b ps q => ⟨#[], by rw [upd_ne (hm b _ q fun z => z), q]; simp⟩⟩
  by_cases hbe : b = e
  · subst hbe; exact heo
  · exact ⟨u, k b u hbe q⟩
end

/-! ### the heap without what is tracked -/
def trk (h : Heap) (H : Hp) : List Addr := (List.range h.objs.size).filter fun a => (H a).isSome
def hidT (h : Heap) (H : Hp) : Heap := PySem.W.hideAll h (trk h H)
theorem hidT_size (h : Heap) (H : Hp) : (hidT h H).objs.size = h.objs.size := PySem.W.hideAll_size _ _
theorem hidT_get {h : Heap} {H : Hp} {b : Addr} {o : Obj} (e : h.get? b = some o) (n : H b = none) : (hidT h H).get? b = some o :=
  PySem.W.hideAll_get _ e fun hm => by
    have q : (H b).isSome = true := (List.mem_filter.mp hm).2
    rw [n] at q; simp at q
theorem of_hidT {h : Heap} {H : Hp} {b : Addr} {o : Obj} (e : (hidT h H).get? b = some o) : h.get? b = some o ∧ H b = none := by
  have e' : h.get? b = some o := PySem.W.of_hideAll (trk h H) e
  refine ⟨e', ?_⟩
  cases q : H b with
  | none => rfl
  | some x =>
    have hm : b ∈ trk h H := List.mem_filter.mpr ⟨List.mem_range.mpr (Heap.lt_size e'), by simp [q]⟩
    have z : (hidT h H).get? b = none := PySem.W.hideAll_none (trk h H) hm
    rw [z] at e; cases e

/-! ### OpenK's ledger, filled with every new object but one -/
end L2

namespace L2
open PySem PySem.Spec PyProof.Rows

/-- the module's facts, over the base: the heap at the law's entry without what is tracked there -/
structure Mod (K : PySem.W.Frag) (mg : Str → Option Value) (base : Heap) : Prop where
  kin : K.In base
  glob : base.Ns mainGlobals mg
  blt : ∃ mb, base.Ns builtinsNs mb ∧ ∀ x : Str, x ≠ "__name__" → mb x = bootBuiltins x
  nolimit : base.NoLimit

/-- the context: a def's body (or a comprehension's block) running. base: fixed through the whole law; s₀, H₀: the entry; outer: the frames whose slots others may change (a def's callers); stack: all frames that run;
   ex: iterators that were made ahead of the entry and are walked here (a comprehension's); fn: the names whose cells were made at the entry (a def: all; a comprehension's block: its own); calm: not within an except suite; pn: pins that every state bears; xe: what is wanted of an exception that leaves the code -/
structure Cx where
  prog : Program
  w : World
  K : PySem.W.Frag
  mg : Str → Option Value
  base : Heap
  A : Around
  N : List Str
  s₀ : Shared
  H₀ : Hp
  env : Env
  outer : List Env
  stack : List Env
  ex : List Addr
  fn : Str → Bool
  calm : Bool
  pn : List (Addr × Obj)
  xe : Value → Shared → Prop
/-- the callers' frames -/
def frs (l : List Env) : List Addr := l.filterMap (·.frame)
abbrev Cx.fs (X : Cx) : List Addr := frs X.outer

def Vis (sc : Scope) (x : Str) : Prop := sc.names.lookup x = some .local ∨ sc.names.lookup x = some .cell ∨ sc.names.lookup x = some .free
def Loc (sc : Scope) (x : Str) : Prop := sc.names.lookup x = some .local ∨ sc.names.lookup x = some .cell
def Look (env : Env) (h : Heap) (m : Str → Option Value) (x : Str) (u : Value) : Prop :=
  (env.kindOf x = some .local ∧ m x = some u) ∨ ((env.kindOf x = some .cell ∨ env.kindOf x = some .free) ∧ ∃ c, env.cells.lookup x = some c ∧ h.IsCell c (some u))

structure Cx.Ok (X : Cx) : Prop where
  mod : Mod X.K X.mg X.base
  kind : X.env.scope.kind = .function
  glob : X.env.globals = mainGlobals
  blt : X.env.builtins = builtinsNs
  above : X.s₀.heap.objs.size ≤ X.env.locals
  inj : ∀ x y c, X.env.cells.lookup x = some c → X.env.cells.lookup y = some c → x = y
  has : ∀ x, (X.env.kindOf x = some .cell ∨ X.env.kindOf x = some .free) → ∃ c, X.env.cells.lookup x = some c
  cab : ∀ x c, X.fn x = true → X.env.cells.lookup x = some c → X.s₀.heap.objs.size ≤ c
  hd : X.calm = true → X.A.handled = none
  frames : X.A.frames = some X.stack
  stk : X.stack = X.outer ∨ (X.stack = X.env :: X.outer ∧ X.env.frame = some X.env.locals)
  exf : ∀ b ∈ X.ex, b ≠ X.env.locals ∧ ∀ x c, X.env.cells.lookup x = some c → c ≠ b
  bs : ∀ b o, X.base.get? b = some o → X.s₀.heap.get? b = some o ∧ X.H₀ b = none
  bsz : X.base.objs.size ≤ X.s₀.heap.objs.size
  noex : ∀ b o, X.base.get? b = some o → b ∉ X.ex
  exfs : ∀ b ∈ X.ex, b ∉ X.fs
  funs : X.s₀.heap.FunFrames X.base X.outer
  frf : ∀ b ∈ X.fs, X.H₀ b = none

structure Inv (X : Cx) (pins : List (Addr × Obj)) (σ : List (Option V)) (H : Hp) (s : Shared) : Prop where
  ok : X.Ok
  os : s.os = X.s₀.os
  bare : AllBare s.gens
  base : Un X.fs X.ex X.H₀ H X.s₀.heap s.heap
  loc : ∃ m, s.heap.Ns X.env.locals m ∧ ∀ (i : Nat) (x : Str) (v : V), X.N[i]? = some x → σ[i]? = some (some v) → Vis X.env.scope x → ∃ u, RelV v u ∧ Look X.env s.heap m x u
  cell : ∀ x c, X.env.cells.lookup x = some c → ∃ v, s.heap.IsCell c v
  free : H X.env.locals = none
  freeC : ∀ x c, X.env.cells.lookup x = some c → H c = none
  pin : ∀ p ∈ X.pn ++ pins, s.heap.get? p.1 = some p.2 ∧ H p.1 = none ∧ p.1 ≠ X.env.locals ∧ p.1 ∉ X.fs ∧ ∀ v, p.2.data ≠ .cell v
  hok : HOk X.prog X.w H s.heap
  len : σ.length = X.N.length

section
variable {X : Cx} {pins : List (Addr × Obj)} {σ : List (Option V)} {H H' : Hp} {s : Shared} {h' : Heap}

theorem Cx.Ok.nofr (ok : X.Ok) {b : Addr} {o : Obj} (e : X.base.get? b = some o) : b ∉ X.fs := fun hb => by
  have := (ok.funs.mem hb).1
  rw [e] at this; cases this
theorem Inv.bs (I : Inv X pins σ H s) : ∀ b o, X.base.get? b = some o → s.heap.get? b = some o ∧ H b = none := fun b o e =>
  ⟨I.base.keep b o (I.ok.bs b o e).1 (I.ok.bs b o e).2 (I.ok.nofr e) (I.ok.noex b o e), I.base.free b o (I.ok.bs b o e).1 (I.ok.bs b o e).2 (I.ok.noex b o e)⟩
theorem Inv.bk (I : Inv X pins σ H s) : ∀ b o, X.base.get? b = some o → s.heap.get? b = some o := fun b o e => (I.bs b o e).1
theorem Inv.mod (I : Inv X pins σ H s) : Mod X.K X.mg X.base := I.ok.mod
theorem Inv.kIn (I : Inv X pins σ H s) : X.K.In s.heap := I.ok.mod.kin.keeps I.bk
theorem Inv.lt (I : Inv X pins σ H s) : X.env.locals < s.heap.objs.size := let ⟨_, hn, _⟩ := I.loc; hn.lt
theorem Inv.sz (I : Inv X pins σ H s) : X.s₀.heap.objs.size ≤ s.heap.objs.size := Nat.le_trans I.ok.above (Nat.le_of_lt I.lt)
theorem Inv.nofs (I : Inv X pins σ H s) {a : Addr} (h : s.heap.objs.size ≤ a) : a ∉ X.fs := fun hb => by
  obtain ⟨_, o, ho, _⟩ := I.ok.funs.mem hb
  exact absurd (Nat.lt_of_lt_of_le (Heap.lt_size ho) (Nat.le_trans I.sz h)) (Nat.lt_irrefl _)
theorem Inv.cne (I : Inv X pins σ H s) : ∀ x c, X.env.cells.lookup x = some c → c ≠ X.env.locals := fun x c e z => by
  obtain ⟨v, o, ho, hd⟩ := I.cell x c e
  obtain ⟨m, ⟨o', es, ep, ho', hd', _⟩, _⟩ := I.loc
  rw [z, ho'] at ho; cases ho; rw [hd'] at hd; cases hd
theorem Inv.funs (I : Inv X pins σ H s) : s.heap.FunFrames X.base X.outer := by
  have all : ∀ (l : List Env), (∀ b ∈ frs l, b ∈ X.fs) → X.s₀.heap.FunFrames X.base l → s.heap.FunFrames X.base l := by
    intro l
    induction l with
    | nil => intro _ _; trivial
    | cons env r ih =>
      intro hs hl
      obtain ⟨hk, ⟨L, o, hf, hn, ho, hd⟩, hr⟩ := hl
      have hL : L ∈ X.fs := hs L (by unfold frs; rw [List.filterMap_cons, hf]; exact List.mem_cons_self)
      obtain ⟨sl, e⟩ := I.base.slot L o ho (I.ok.frf L hL) hL fun z => I.ok.exfs L z hL
      exact ⟨hk, ⟨L, _, hf, hn, e, hd⟩, ih (fun b hb => hs b (by unfold frs; rw [List.filterMap_cons, hf]; exact List.mem_cons_of_mem _ hb)) hr⟩
  exact all X.outer (fun _ hb => hb) I.ok.funs

/-- the frames that run, for a call -/
theorem Inv.stack (I : Inv X pins σ H s) : s.heap.FunFrames X.base X.stack := by
  rcases I.ok.stk with e | ⟨e, hf⟩
  · rw [e]; exact I.funs
  · rw [e]
    obtain ⟨m, hn, _⟩ := I.loc
    refine .cons (by rw [I.ok.kind]; decide) hf hn ?_ I.funs
    exact Heap.get?_none_of_le (Nat.le_trans I.ok.bsz I.ok.above)
theorem Inv.stkSub (I : Inv X pins σ H s) : ∀ b ∈ frs X.stack, b ∈ X.env.locals :: X.fs := fun b hb => by
  rcases I.ok.stk with e | ⟨e, hf⟩
  · rw [e] at hb; exact List.mem_cons_of_mem _ hb
  · rw [e] at hb
    unfold frs at hb
    rw [List.filterMap_cons, hf] at hb
    exact hb
theorem Inv.stkFree (I : Inv X pins σ H s) : ∀ b ∈ frs X.stack, H b = none := fun b hb => by
  rcases List.mem_cons.mp (I.stkSub b hb) with e | hb
  · rw [e]; exact I.free
  · obtain ⟨_, o, ho, _⟩ := I.ok.funs.mem hb
    exact I.base.free b o ho (I.ok.frf b hb) fun z => I.ok.exfs b z hb

/-- THE STEP: the untracked objects but the frame and the records at ch are kept (the callers' frames up to slots), the frame's map is kept, the new abstract heap is held -/
theorem Inv.step {g' : Array GenState} {t' : Nat} {d' : Drawn} {ch : List Addr} (I : Inv X pins σ H s)
    (hch : ∀ b ∈ ch, (b ∈ X.ex ∨ X.s₀.heap.objs.size ≤ b) ∧ b ≠ X.env.locals ∧ (∀ x c, X.env.cells.lookup x = some c → c ≠ b) ∧ ∀ p ∈ X.pn ++ pins, p.1 ≠ b)
    (keep : ∀ b o, b ≠ X.env.locals → b ∉ X.fs → b ∉ ch → s.heap.get? b = some o → H b = none → h'.get? b = some o)
    (slot : ∀ b o, b ≠ X.env.locals → b ∈ X.fs → b ∉ ch → s.heap.get? b = some o → H b = none → ∃ sl, h'.get? b = some { o with slots := sl }) (free : ∀ b o, b ∉ ch → s.heap.get? b = some o → H b = none → H' b = none)
    (there : ∀ b o, b ∉ ch → s.heap.get? b = some o → ∃ o', h'.get? b = some o')
    (tups : ∀ b xs, H b = some (.tup xs) → H' b = some (.tup xs)) (frzs : ∀ b o u, H b = some (.frz o u) → H' b = some (.frz o u)) (tbls : ∀ b ps, H b = some (.tbl ps) → ∃ more, H' b = some (.tbl (ps ++ more)))
    (ns : ∀ m, s.heap.Ns X.env.locals m → h'.Ns X.env.locals m) (hok : HOk X.prog X.w H' h') (hg : AllBare g') :
    Inv X pins σ H' { s with heap := h', gens := g', drawn := d', toks := t' } := by
  have neL : ∀ b o, X.s₀.heap.get? b = some o → b ≠ X.env.locals := fun b o e => Nat.ne_of_lt (Nat.lt_of_lt_of_le (Heap.lt_size e) I.ok.above)
  have neC : ∀ b o, X.s₀.heap.get? b = some o → b ∉ X.ex → b ∉ ch := fun b o e hx hb => by
    rcases (hch b hb).1 with z | z
    · exact hx z
    · exact absurd (Nat.lt_of_lt_of_le (Heap.lt_size e) z) (Nat.lt_irrefl _)
  have cellK : ∀ x c, X.env.cells.lookup x = some c → ∀ v, s.heap.IsCell c v → h'.IsCell c v := fun x c e v ⟨o, ho, hd⟩ => by
    have nch : c ∉ ch := fun z => (hch c z).2.2.1 x c e rfl
    by_cases hc : c ∈ X.fs
    · obtain ⟨sl, q⟩ := slot c o (I.cne x c e) hc nch ho (I.freeC x c e)
      exact ⟨_, q, hd⟩
    · exact ⟨o, keep c o (I.cne x c e) hc nch ho (I.freeC x c e), hd⟩
  refine ⟨I.ok, I.os, hg, ⟨fun b o e n hb hx => ?_, fun b o e n hb hx => ?_, fun b o e n hx => ?_, fun b o e hx => ?_, fun b xs e => tups b xs (I.base.tups b xs e), fun b o xs e => frzs b o xs (I.base.frzs b o xs e), fun b ps e => ?_⟩, ?_, fun x c e => ?_, ?_, fun x c e => ?_, fun p hp => ?_, hok, I.len⟩
  · exact keep b o (neL b o e) hb (neC b o e hx) (I.base.keep b o e n hb hx) (I.base.free b o e n hx)
  · obtain ⟨sl, e1⟩ := I.base.slot b o e n hb hx
    obtain ⟨sl', e2⟩ := slot b _ (neL b o e) hb (neC b o e hx) e1 (I.base.free b o e n hx)
    exact ⟨sl', e2⟩
  · obtain ⟨o', e1⟩ := I.base.there b o e hx
    exact free b o' (neC b o e hx) e1 (I.base.free b o e n hx)
  · obtain ⟨o', e1⟩ := I.base.there b o e hx
    exact there b o' (neC b o e hx) e1
  · obtain ⟨m1, e1⟩ := I.base.tbls b ps e
    obtain ⟨m2, e2⟩ := tbls b _ e1
    exact ⟨m1 ++ m2, by rw [e2, Array.append_assoc]⟩
  · obtain ⟨m, hn, hl⟩ := I.loc
    refine ⟨m, ns m hn, fun i x v e1 e2 e3 => ?_⟩
    obtain ⟨u, r, l⟩ := hl i x v e1 e2 e3
    refine ⟨u, r, ?_⟩
    rcases l with l | ⟨k, c, e, z⟩
    · exact .inl l
    · exact .inr ⟨k, c, e, cellK x c e _ z⟩
  · obtain ⟨v, z⟩ := I.cell x c e
    exact ⟨v, cellK x c e v z⟩
  · obtain ⟨m, ⟨o, _, _, ho, _⟩, _⟩ := I.loc
    exact free _ o (fun z => (hch _ z).2.1 rfl) ho I.free
  · obtain ⟨v, o, ho, hd⟩ := I.cell x c e
    exact free c o (fun z => (hch c z).2.2.1 x c e rfl) ho (I.freeC x c e)
  · obtain ⟨e, n, ne, nf, d⟩ := I.pin p hp
    have nch : p.1 ∉ ch := fun z => (hch p.1 z).2.2.2 p hp rfl
    exact ⟨keep p.1 p.2 ne nf nch e n, free p.1 p.2 nch e n, ne, nf, d⟩
/-- .. where the frame's own object is kept too -/
theorem Inv.un {t' : Nat} (I : Inv X pins σ H s) (u : Un X.fs [] H H' s.heap h') (hok : HOk X.prog X.w H' h') : Inv X pins σ H' { s with heap := h', toks := t' } := by
  obtain ⟨m, ⟨o, es, ep, ho, r⟩, _⟩ := id I.loc
  obtain ⟨sl, hL⟩ := u.any ho I.free (by simp)
  exact I.step (g' := s.gens) (d' := s.drawn) (ch := []) (fun _ z => nomatch z) (fun b o _ hb _ e n => u.keep b o e n hb (by simp)) (fun b o _ hb _ e n => u.slot b o e n hb (by simp)) (fun b o _ e n => u.free b o e n (by simp)) (fun b o _ e => u.there b o e (by simp)) u.tups u.frzs u.tbls (fun m' hm => by
    obtain ⟨o', es', ep', ho', r'⟩ := hm
    rw [ho] at ho'; cases ho'
    exact ⟨_, es', ep', hL, r'⟩) hok I.bare
/-- behind a call (or a comprehension's block): the slots of this frame may have changed too, the records at ch may have turned -/
theorem Inv.call {g' : Array GenState} {t' : Nat} {d' : Drawn} {ch : List Addr} (I : Inv X pins σ H s) (u : Un (frs X.stack) ch H H' s.heap h') (hok : HOk X.prog X.w H' h') (hg : AllBare g')
    (hch : ∀ b ∈ ch, (b ∈ X.ex ∨ X.s₀.heap.objs.size ≤ b) ∧ b ≠ X.env.locals ∧ (∀ x c, X.env.cells.lookup x = some c → c ≠ b) ∧ ∀ p ∈ X.pn ++ pins, p.1 ≠ b) :
    Inv X pins σ H' { s with heap := h', gens := g', drawn := d', toks := t' } := by
  obtain ⟨m, ⟨o, es, ep, ho, r⟩, _⟩ := id I.loc
  obtain ⟨sl, hL⟩ := u.any ho I.free fun z => (hch _ z).2.1 rfl
  exact I.step (ch := ch) hch (fun b o hL hb hc e n => u.keep b o e n (fun z => (List.mem_cons.mp (I.stkSub b z)).elim hL hb) hc) (fun b o _ _ hc e n => u.any e n hc) (fun b o hc e n => u.free b o e n hc) (fun b o hc e => u.there b o e hc) u.tups u.frzs u.tbls (fun m' hm => by
    obtain ⟨o', es', ep', ho', r'⟩ := hm
    rw [ho] at ho'; cases ho'
    exact ⟨_, es', ep', hL, r'⟩) hok hg
/-- an untracked record of ours (an iterator) has turned -/
theorem Inv.turned {t' : Nat} {it : Addr} (I : Inv X pins σ H s) (k : ∀ b o, b ≠ it → s.heap.get? b = some o → h'.get? b = some o) (hn : H it = none) (hL : it ≠ X.env.locals)
    (h1 : it ∈ X.ex ∨ X.s₀.heap.objs.size ≤ it) (h2 : ∀ x c, X.env.cells.lookup x = some c → c ≠ it) (h3 : ∀ p ∈ X.pn ++ pins, p.1 ≠ it) : Inv X pins σ H { s with heap := h', toks := t' } := by
  have nit : ∀ b u, H b = some u → b ≠ it := fun b u e z => by rw [z, hn] at e; cases e
  refine I.step (g' := s.gens) (d' := s.drawn) (ch := [it]) (fun b hb => ?_) (fun b o _ _ hc e _ => k b o (fun z => hc (by simp [z])) e) (fun b o _ _ hc e _ => ⟨o.slots, k b o (fun z => hc (by simp [z])) e⟩) (fun _ _ _ _ n => n)
    (fun b o hc e => ⟨o, k b o (fun z => hc (by simp [z])) e⟩) (fun _ _ e => e) (fun _ _ _ e => e) (fun b ps e => ⟨#[], by rw [e]; simp⟩) (fun m hm => ?_) (fun b u e => ?_) I.bare
  · have e : b = it := by simpa using hb
    subst e
    exact ⟨h1, hL, h2, h3⟩
  · obtain ⟨o, es, ep, ho, r⟩ := hm
    exact ⟨o, es, ep, k _ o (Ne.symm hL) ho, r⟩
  · refine (I.hok b u e).stay (fun c v hc q => k c v ?_ q) (fun _ q => q) fun _ _ q => q
    rcases hc with z | z
    · rw [z]; exact nit b u e
    · exact nit c _ z
theorem Inv.tok (I : Inv X pins σ H s) (t : Nat) : Inv X pins σ H { s with toks := t } := I.un (h' := s.heap) (t' := t) Un.refl I.hok
/-- all objects kept -/
theorem Inv.kept {t' : Nat} (I : Inv X pins σ H s) (k : ∀ b u, s.heap.get? b = some u → h'.get? b = some u) : Inv X pins σ H { s with heap := h', toks := t' } := I.un (Un.kept k) (I.hok.kept k)
/-- a new object laid and tracked -/
theorem Inv.laid {a : Addr} {o : HO} {t' : Nat} (I : Inv X pins σ H s) (k : ∀ b u, s.heap.get? b = some u → h'.get? b = some u) (hp : s.heap.objs.size ≤ a) (new : ObjOk X.prog X.w (upd H a o) h' a o) :
    Inv X pins σ (upd H a o) { s with heap := h', toks := t' } := I.un (Un.laid k hp (I.hok.fresh hp)) (I.hok.laid k hp new)
/-- an object written -/
theorem Inv.write {x e : Addr} {o : HO} {t' : Nat} (I : Inv X pins σ H s) (mu : Mut (H x)) (he : e = x ∨ H e = some (.own x)) (k : ∀ b u, b ≠ e → s.heap.get? b = some u → h'.get? b = some u) (heo : ∃ u, h'.get? e = some u)
    (new : ObjOk X.prog X.w (upd H x o) h' x o) : Inv X pins σ (upd H x o) { s with heap := h', toks := t' } := I.un (Un.write mu he k heo) (I.hok.write mu he k heo new)
theorem Inv.pins_of {pins' : List (Addr × Obj)} (I : Inv X pins σ H s) (h : ∀ p ∈ pins', s.heap.get? p.1 = some p.2 ∧ H p.1 = none ∧ p.1 ≠ X.env.locals ∧ p.1 ∉ X.fs ∧ ∀ v, p.2.data ≠ .cell v) : Inv X pins' σ H s :=
  ⟨I.ok, I.os, I.bare, I.base, I.loc, I.cell, I.free, I.freeC, fun p hp => (List.mem_append.mp hp).elim (fun z => I.pin p (List.mem_append_left _ z)) (h p), I.hok, I.len⟩

theorem nodup_ix {N : List Str} (hN : N.Nodup) {i j : Nat} {x : Str} (a : N[i]? = some x) (b : N[j]? = some x) : i = j := by
  obtain ⟨h1, e1⟩ := List.getElem?_eq_some_iff.mp a
  obtain ⟨h2, e2⟩ := List.getElem?_eq_some_iff.mp b
  exact (List.getElem_inj hN).mp (e1.trans e2.symm)

/-- a name is stored; what changed -/
theorem store_ok2 {M : Model} {A : Around} {E : Value → Shared → Prop} {i : Nat} {x : Str} {v : V} {u : Value} {Q : Unit → Shared → Prop} (I : Inv X pins σ H s) (hN : X.N.Nodup) (hi : X.N[i]? = some x) (hx : Loc X.env.scope x) (r : RelV v u)
    (h : ∀ s', Inv X pins (σ.set i (some v)) H s' → (∃ a, Heap.SameBut a s.heap s'.heap ∧ (a = X.env.locals ∨ X.env.cells.lookup x = some a)) → Q () s') (hf : X.fn x = true ∨ X.env.scope.names.lookup x = some .local := by first | exact .inl rfl | exact .inr rfl | assumption) : wpAny M A (storeName X.env x u) Q E s := by
  obtain ⟨m, hn, hl⟩ := id I.loc
  have hcls : (X.env.scope.kind == .class || (X.env.scope.kind == .module && X.env.locals != X.env.globals)) = false := by rw [I.ok.kind]; rfl
  have hiσ : i < σ.length := by rw [I.len]; exact (List.getElem?_eq_some_iff.mp hi).1
  have cne := I.cne
  have tracked : ∀ {a : Addr} {h' : Heap}, (∃ o, s.heap.get? a = some o ∧ H a = none) → Heap.SameBut a s.heap h' → HOk X.prog X.w H h' := fun {a h'} ha hs b ob e => by
    obtain ⟨_, _, hfree⟩ := ha
    refine (I.hok b ob e).stay (fun c w' hc q => (hs.2 c ?_).trans q) (fun _ q => q) fun _ _ q => q
    rintro rfl
    rcases hc with rfl | hc
    · rw [hfree] at e; cases e
    · rw [hfree] at hc; cases hc
  rcases hx with hk | hk
  · refine wpAny_storeName_local hk hn (fun h' hn' hs => ?_) hcls
    obtain ⟨oL, _, _, hoL, _⟩ := id hn
    refine h _ ⟨I.ok, I.os, I.bare, ⟨fun b o e n hb hx => ?_, fun b o e n hb hx => ?_, I.base.free, fun b o e hx => ?_, I.base.tups, I.base.frzs, I.base.tbls⟩, ⟨_, hn', fun j y v' e1 e2 e3 => ?_⟩, fun y c e => ?_, I.free, I.freeC, fun p hp => ?_, tracked ⟨oL, hoL, I.free⟩ hs, by simpa using I.len⟩ ⟨_, hs, .inl rfl⟩
    · exact (hs.2 b (Nat.ne_of_lt (Nat.lt_of_lt_of_le (Heap.lt_size e) I.ok.above))).trans (I.base.keep b o e n hb hx)
    · obtain ⟨sl, e1⟩ := I.base.slot b o e n hb hx
      exact ⟨sl, (hs.2 b (Nat.ne_of_lt (Nat.lt_of_lt_of_le (Heap.lt_size e) I.ok.above))).trans e1⟩
    · obtain ⟨o', e1⟩ := I.base.there b o e hx
      exact ⟨o', (hs.2 b (Nat.ne_of_lt (Nat.lt_of_lt_of_le (Heap.lt_size e) I.ok.above))).trans e1⟩
    · by_cases hj : j = i
      · subst hj
        rw [hi] at e1; cases e1
        rw [List.getElem?_set_self hiσ] at e2
        cases e2
        exact ⟨u, r, .inl ⟨hk, by simp⟩⟩
      · rw [List.getElem?_set_ne (Ne.symm hj)] at e2
        obtain ⟨u', r', q⟩ := hl j y v' e1 e2 e3
        refine ⟨u', r', ?_⟩
        rcases q with ⟨k, e⟩ | ⟨k, c, e, z⟩
        · refine .inl ⟨k, ?_⟩
          have : y ≠ x := fun e => hj (nodup_ix hN e1 (e ▸ hi))
          simp [this, e]
        · exact .inr ⟨k, c, e, z.sameBut hs (cne y c e)⟩
    · obtain ⟨w', z⟩ := I.cell y c e
      exact ⟨w', z.sameBut hs (cne y c e)⟩
    · obtain ⟨e, n, ne, nf, d⟩ := I.pin p hp
      exact ⟨(hs.2 p.1 ne).trans e, n, ne, nf, d⟩
  · have hfn : X.fn x = true := by
      rcases hf with z | z
      · exact z
      · rw [z] at hk; cases hk
    obtain ⟨c, hc⟩ := I.ok.has x (.inl hk)
    obtain ⟨w', z⟩ := I.cell x c hc
    refine wpAny_storeName_cell I.ok.kind hk hc z (fun h' hc' hs => ?_)
    obtain ⟨oc, hoc, hocd⟩ := id z
    refine h { s with heap := h' } ⟨I.ok, I.os, I.bare, ⟨fun b o e n hb hx => ?_, fun b o e n hb hx => ?_, I.base.free, fun b o e hx => ?_, I.base.tups, I.base.frzs, I.base.tbls⟩, ⟨m, hn.sameBut hs (Ne.symm (cne x c hc)), fun j y v' e1 e2 e3 => ?_⟩, fun y c' e => ?_, I.free, I.freeC, fun p hp => ?_, tracked ⟨oc, hoc, I.freeC x c hc⟩ hs, by simpa using I.len⟩ ⟨c, hs, .inr hc⟩
    · exact (hs.2 b (Nat.ne_of_lt (Nat.lt_of_lt_of_le (Heap.lt_size e) (I.ok.cab x c hfn hc)))).trans (I.base.keep b o e n hb hx)
    · obtain ⟨sl, e1⟩ := I.base.slot b o e n hb hx
      exact ⟨sl, (hs.2 b (Nat.ne_of_lt (Nat.lt_of_lt_of_le (Heap.lt_size e) (I.ok.cab x c hfn hc)))).trans e1⟩
    · obtain ⟨o', e1⟩ := I.base.there b o e hx
      exact ⟨o', (hs.2 b (Nat.ne_of_lt (Nat.lt_of_lt_of_le (Heap.lt_size e) (I.ok.cab x c hfn hc)))).trans e1⟩
    · by_cases hj : j = i
      · subst hj
        rw [hi] at e1; cases e1
        rw [List.getElem?_set_self hiσ] at e2
        cases e2
        exact ⟨u, r, .inr ⟨.inl hk, c, hc, hc'⟩⟩
      · rw [List.getElem?_set_ne (Ne.symm hj)] at e2
        obtain ⟨u', r', q⟩ := hl j y v' e1 e2 e3
        refine ⟨u', r', ?_⟩
        rcases q with q | ⟨k, c', e, z'⟩
        · exact .inl q
        · refine .inr ⟨k, c', e, z'.sameBut hs ?_⟩
          rintro rfl
          exact hj (nodup_ix hN e1 (I.ok.inj _ _ _ e hc ▸ hi))
    · by_cases hcc : c' = c
      · subst hcc; exact ⟨_, hc'⟩
      · obtain ⟨w2, z2⟩ := I.cell y c' e
        exact ⟨w2, z2.sameBut hs hcc⟩
    · obtain ⟨e, n, ne, nf, d⟩ := I.pin p hp
      refine ⟨(hs.2 p.1 ?_).trans e, n, ne, nf, d⟩
      intro q
      rw [q, hoc] at e
      have q' : oc = p.2 := Option.some.inj e
      exact d w' (by rw [← q']; exact hocd)
theorem store_ok {M : Model} {A : Around} {E : Value → Shared → Prop} {i : Nat} {x : Str} {v : V} {u : Value} {Q : Unit → Shared → Prop} (I : Inv X pins σ H s) (hN : X.N.Nodup) (hi : X.N[i]? = some x) (hx : Loc X.env.scope x) (r : RelV v u)
    (h : ∀ s', Inv X pins (σ.set i (some v)) H s' → Q () s') (hf : X.fn x = true ∨ X.env.scope.names.lookup x = some .local := by first | exact .inl rfl | exact .inr rfl | assumption) : wpAny M A (storeName X.env x u) Q E s :=
  store_ok2 I hN hi hx r (fun s' I' _ => h s' I') hf
/-- behind a call or a block, the state as it is -/
theorem Inv.call' {s' : Shared} {ch : List Addr} (I : Inv X pins σ H s) (ho : s'.os = s.os) (u : Un (frs X.stack) ch H H' s.heap s'.heap) (hok : HOk X.prog X.w H' s'.heap) (hg : AllBare s'.gens)
    (hch : ∀ b ∈ ch, (b ∈ X.ex ∨ X.s₀.heap.objs.size ≤ b) ∧ b ≠ X.env.locals ∧ (∀ x c, X.env.cells.lookup x = some c → c ≠ b) ∧ ∀ p ∈ X.pn ++ pins, p.1 ≠ b) : Inv X pins σ H' s' := by
  obtain ⟨h', g', d', t', o'⟩ := s'
  have e : o' = s.os := ho
  subst e
  exact I.call (g' := g') (t' := t') (d' := d') u hok hg hch
end

/-! ### the judgements -/
/-- an exception: its class, its own dict's address (where it has one), the abstract heap behind it -/
abbrev XK := Value → Option Addr → Hp → Prop
abbrev St := List (Option V)
abbrev VK := V → Hp → Prop
/-- an expression's reading; a test's; an argument list's -/
abbrev TE := St → Hp → VK → Prop
abbrev TT := St → Hp → (Bool → Hp → Prop) → Prop
abbrev TA := St → Hp → (List V → Hp → Prop) → Prop
/-- what is wanted behind a statement -/
structure Ends where
  nx : St → Hp → Prop
  rt : VK
  bk : St → Hp → Prop := fun _ _ => False
  ct : St → Hp → Prop := fun _ _ => False
abbrev TS := Ends → St → Hp → Prop

def EP (X : Cx) (pins : List (Addr × Obj)) (σ : St) (Q : VK) (u : Value) (s' : Shared) : Prop := ∃ v H', Inv X pins σ H' s' ∧ RelV v u ∧ Q v H'
def TP (X : Cx) (pins : List (Addr × Obj)) (σ : St) (Q : Bool → Hp → Prop) (b : Bool) (s' : Shared) : Prop := ∃ H', Inv X pins σ H' s' ∧ Q b H'
def AP (X : Cx) (pins : List (Addr × Obj)) (σ : St) (Q : List V → Hp → Prop) (us : List Value) (s' : Shared) : Prop := ∃ vs H', Inv X pins σ H' s' ∧ Vals vs us ∧ Q vs H'
def SP (X : Cx) (pins : List (Addr × Obj)) (D : Ends) (f : Flow) (s' : Shared) : Prop :=
  match f with
  | .next => ∃ σ' H', Inv X pins σ' H' s' ∧ D.nx σ' H'
  | .brk => ∃ σ' H', Inv X pins σ' H' s' ∧ D.bk σ' H'
  | .cont => ∃ σ' H', Inv X pins σ' H' s' ∧ D.ct σ' H'
  | .ret u => ∃ v σ' H', Inv X pins σ' H' s' ∧ RelV v u ∧ D.rt v H'

def PE (X : Cx) (e : Expr) (t : TE) : Prop :=
  ∀ (pins : List (Addr × Obj)) (s : Shared) (σ : St) (H : Hp) (Q : VK), Inv X pins σ H s → t σ H Q → wpAny (model X.prog X.w) X.A (eval e X.env) (EP X pins σ Q) X.xe s
def PT (X : Cx) (e : Expr) (t : TT) : Prop :=
  ∀ (pins : List (Addr × Obj)) (s : Shared) (σ : St) (H : Hp) (Q : Bool → Hp → Prop), Inv X pins σ H s → t σ H Q → wpAny (model X.prog X.w) X.A (isTrue e X.env (eval e X.env)) (TP X pins σ Q) X.xe s
/-- a test whatever its 'whole' is (and, or) -/
def PW (X : Cx) (e : Expr) (t : TT) : Prop :=
  ∀ (whole : Sem Value) (pins : List (Addr × Obj)) (s : Shared) (σ : St) (H : Hp) (Q : Bool → Hp → Prop), Inv X pins σ H s → t σ H Q → wpAny (model X.prog X.w) X.A (isTrue e X.env whole) (TP X pins σ Q) X.xe s
theorem PW.pt {X : Cx} {e : Expr} {t : TT} (h : PW X e t) : PT X e t := h _
/-- an argument list (no star), from the left -/
def PA (X : Cx) (es : List Expr) (t : TA) : Prop :=
  ∀ (pos : Pos) (pins : List (Addr × Obj)) (s : Shared) (σ : St) (H : Hp) (Q : List V → Hp → Prop), Inv X pins σ H s → t σ H Q → wpAny (model X.prog X.w) X.A (spliced (backTo pos (starEach es X.env))) (AP X pins σ Q) X.xe s
def PS (X : Cx) (st : Stmt) (t : TS) : Prop :=
  ∀ (pins : List (Addr × Obj)) (s : Shared) (σ : St) (H : Hp) (D : Ends), Inv X pins σ H s → t D σ H → wpAny (model X.prog X.w) X.A (exec st X.env) (SP X pins D) X.xe s
def PSs (X : Cx) (st : List Stmt) (t : TS) : Prop :=
  ∀ (pins : List (Addr × Obj)) (s : Shared) (σ : St) (H : Hp) (D : Ends), Inv X pins σ H s → t D σ H → wpAny (model X.prog X.w) X.A (execs st X.env) (SP X pins D) X.xe s
/-- weaken the end -/
theorem thn {α : Type} {t : Sem α} {Q Q' : α → Shared → Prop} {M : Model} {A : Around} {E : Value → Shared → Prop} {s : Shared} (h : wpAny M A t Q E s) (hQ : ∀ a s, Q a s → Q' a s) : wpAny M A t Q' E s := wpAny_mono h hQ fun _ _ x => x
end L2

namespace L2
open PySem PySem.Spec PyProof.Rows
section
variable {X : Cx}


/-! ### names and constants -/
def tVar (i : Nat) : TE := fun σ H Q => ∃ v, σ[i]? = some (some v) ∧ Q v H
def tC (v : V) : TE := fun _ H Q => Q v H
theorem pe_var {i : Nat} {x : Str} {pos : Pos} (hN : X.N[i]? = some x) (hv : Vis X.env.scope x) (hd : (x == ("__debug__" : Str)) = false := by decide) (hcd : (x == ("__classdict__" : Str)) = false := by decide) : PE X (.Name x pos) (tVar i) := by
  intro pins s σ H Q I h
  obtain ⟨v, e, h⟩ := h
  obtain ⟨m, hn, hl⟩ := I.loc
  obtain ⟨u, r, l⟩ := hl i x v hN e hv
  have fin : EP X pins σ Q u s := ⟨v, H, I, r, h⟩
  rcases l with ⟨hk, hm⟩ | ⟨hk, c, hc, hcell⟩
  · exact wpAny_Name (wpAny_loadName_local I.ok.kind hk hn hm fin) hd
  · rcases hk with hk | hk
    · exact wpAny_Name (wpAny_loadName_cell I.ok.kind hk hc hcell fin) hd
    · exact wpAny_Name (wpAny_loadName_free I.ok.kind hk hc hcell fin hcd) hd
theorem pe_int {i j pos} : PE X (.Constant (.int i) j pos) (tC (.int i)) := fun _ _ _ H _ I h => wpAny_Constant_int ⟨.int i, H, I.tok _, ⟨_, rfl⟩, h⟩
theorem pe_bl {b j pos} : PE X (.Constant (.bool b) j pos) (tC (.bl b)) := fun _ _ _ H _ I h => Constant_bool ⟨.bl b, H, I, rfl, h⟩
theorem pe_non {j pos} : PE X (.Constant .none j pos) (tC .non) := fun _ _ _ H _ I h => Constant_none ⟨.non, H, I, rfl, h⟩
theorem pe_str {x j pos} : PE X (.Constant (.str x) j pos) (tC (.str x)) := fun _ _ _ H _ I h => Calls.Constant_str ⟨.str x, H, I.tok _, ⟨_, rfl⟩, h⟩

/-- a global name of the def -/
def Gl (X : Cx) (x : Str) : Prop := X.env.kindOf x = some .globalImplicit
theorem ld_glob {E : Value → Shared → Prop} {pins : List (Addr × Obj)} {s : Shared} {σ : St} {H : Hp} {x : Str} {u : Value} {pos : Pos} {Q : Value → Shared → Prop} (I : Inv X pins σ H s) (hg : Gl X x) (hm : X.mg x = some u) (h : Q u s)
    (hd : (x == ("__debug__" : Str)) = false := by decide) : wpAny (model X.prog X.w) X.A (eval (.Name x pos) X.env) Q E s :=
  Calls.Name_function_global I.ok.kind hg (Calls.loadGlobal_global (by rw [I.ok.glob]; exact I.mod.glob.keeps I.bk) hm h) hd
theorem ld_blt {E : Value → Shared → Prop} {pins : List (Addr × Obj)} {s : Shared} {σ : St} {H : Hp} {x : Str} {u : Value} {pos : Pos} {Q : Value → Shared → Prop} (I : Inv X pins σ H s) (hg : Gl X x) (hm : X.mg x = none) (hv : bootBuiltins x = some u) (h : Q u s)
    (hn : x ≠ "__name__" := by decide) (hd : (x == ("__debug__" : Str)) = false := by decide) : wpAny (model X.prog X.w) X.A (eval (.Name x pos) X.env) Q E s := by
  obtain ⟨mb, h1, h2⟩ := I.mod.blt
  exact Calls.Name_function_global I.ok.kind hg (Calls.loadGlobal_builtin (by rw [I.ok.glob]; exact I.mod.glob.keeps I.bk) hm (by rw [I.ok.blt]; exact h1.keeps I.bk) ((h2 x hn).trans hv) h) hd
/-- a module's constant, a class, a function, as a value -/
theorem pe_glob {x : Str} {v : V} {u : Value} {pos : Pos} (hg : Gl X x) (hm : X.mg x = some u) (r : RelV v u) (hd : (x == ("__debug__" : Str)) = false := by decide) : PE X (.Name x pos) (tC v) :=
  fun _ _ _ H _ I h => ld_glob I hg hm ⟨v, H, I, r, h⟩ hd

/-! ### arithmetic -/
variable {a b : Expr} {ta tb : TE} {pos : Pos}

/-! ### comparisons -/
def PC (X : Cx) (op : CmpOp) (a b : Expr) (t : TE) : Prop :=
  ∀ (pins : List (Addr × Obj)) (s : Shared) (σ : St) (H : Hp) (Q : VK), Inv X pins σ H s → t σ H Q →
    wpAny (model X.prog X.w) X.A (eval a X.env) (fun v s₁ => wpAny (model X.prog X.w) X.A (eval b X.env) (fun u s₂ => wpAny (model X.prog X.w) X.A (compareOp op v u) (EP X pins σ Q) X.xe s₂) X.xe s₁) X.xe s
/-- a comparison as a value, as a test -/
def tB (t : TE) : TT := fun σ H Q => t σ H fun x H1 => ∃ c, x = .bl c ∧ Q c H1
theorem pt_cmp {op : CmpOp} {t : TE} (h : PC X op a b t) (h1 : behindInMarks op b = false := by first | exact nobehind _ (by decide) (by decide) | rfl) : PT X (.Compare a [op] [b] pos) (tB t) := by
  intro pins s σ H Q I hw
  refine wpAny_isTrue_Compare1 (thn (h pins s σ H _ I hw) fun v s1 h1 => thn h1 fun u s2 h2 => thn h2 fun c s3 ⟨x, H1, I1, r1, q1⟩ => ?_) h1
  obtain ⟨d, rfl, q⟩ := q1
  cases r1
  exact wpAny_truthy_bool ⟨H1, I1, q⟩
/-- an expression whose value is a bool, as a test -/
theorem pt_val {e : Expr} {t : TE} (h : PE X e t) (he : ∀ whole, isTrue e X.env whole = (do let v ← whole; standAt e.pos; holding [v] (truthy v)) := by intro _; rfl) : PT X e (tB t) := by
  intro pins s σ H Q I hw
  refine isTrue_plain (thn (h pins s σ H _ I hw) fun v s1 ⟨x, H1, I1, r1, q1⟩ => ?_) (he _)
  obtain ⟨d, rfl, q⟩ := q1
  cases r1
  exact wpAny_truthy_bool ⟨H1, I1, q⟩

/-! ### and, or, not -/
variable {tA tB' : TT} {rest : List Expr}
def tAnd (t u : TT) : TT := fun σ H Q => t σ H fun c H1 => if c = true then u σ H1 Q else Q false H1
def tOr (t u : TT) : TT := fun σ H Q => t σ H fun c H1 => if c = true then Q true H1 else u σ H1 Q
def tNot (t : TT) : TT := fun σ H Q => t σ H fun c H1 => Q (!c) H1
theorem pw_and1 (ha : PT X a tA) : PW X (.BoolOp .And [a] pos) tA := by
  intro wh pins s σ H Q I h
  refine isTrue_and (thn (ha pins s σ H Q I h) fun c s1 e => ?_)
  cases c with
  | true => exact isTrue_and_nil e
  | false => exact e
theorem pw_or1 (ha : PT X a tA) : PW X (.BoolOp .Or [a] pos) tA := by
  intro wh pins s σ H Q I h
  refine isTrue_or (thn (ha pins s σ H Q I h) fun c s1 e => ?_)
  cases c with
  | false => exact isTrue_or_nil e
  | true => exact e
theorem pw_and (ha : PT X a tA) (hb : PW X (.BoolOp .And (b :: rest) pos) tB') : PW X (.BoolOp .And (a :: b :: rest) pos) (tAnd tA tB') := by
  intro wh pins s σ H Q I h
  refine isTrue_and (thn (ha pins s σ H _ I h) fun c s1 ⟨H1, I1, q1⟩ => ?_)
  cases c with
  | true => exact hb wh pins s1 σ H1 Q I1 q1
  | false => exact ⟨H1, I1, q1⟩
theorem pw_or (ha : PT X a tA) (hb : PW X (.BoolOp .Or (b :: rest) pos) tB') : PW X (.BoolOp .Or (a :: b :: rest) pos) (tOr tA tB') := by
  intro wh pins s σ H Q I h
  refine isTrue_or (thn (ha pins s σ H _ I h) fun c s1 ⟨H1, I1, q1⟩ => ?_)
  cases c with
  | true => exact ⟨H1, I1, q1⟩
  | false => exact hb wh pins s1 σ H1 Q I1 q1
theorem pt_not (ha : PT X a tA) : PT X (.UnaryOp .Not a pos) (tNot tA) := by
  intro pins s σ H Q I h
  exact isTrue_not (ha pins s σ H (fun c H1 => Q (!c) H1) I h)
/-- .. as values (bools) -/
def tAndV (ta tb : TE) : TE := fun σ H Q => ta σ H fun x H1 => ∃ c, x = .bl c ∧ if c = true then tb σ H1 Q else Q (.bl false) H1
def tOrV (ta tb : TE) : TE := fun σ H Q => ta σ H fun x H1 => ∃ c, x = .bl c ∧ if c = true then Q (.bl true) H1 else tb σ H1 Q
def tNotV (ta : TE) : TE := fun σ H Q => ta σ H fun x H1 => ∃ c, x = .bl c ∧ Q (.bl (!c)) H1
theorem pe_one {op} {t : TE} (h : PE X a t) : PE X (.BoolOp op [a] pos) t := fun pins s σ H Q I hw => BoolOp_one (h pins s σ H Q I hw)
theorem pe_and (ha : PE X a ta) (hb : PE X (.BoolOp .And (b :: rest) pos) tb) : PE X (.BoolOp .And (a :: b :: rest) pos) (tAndV ta tb) := by
  intro pins s σ H Q I h
  refine BoolOp_and (thn (ha pins s σ H _ I h) fun v s1 ⟨x, H1, I1, r1, q1⟩ => ?_)
  obtain ⟨c, rfl, q1⟩ := q1
  cases r1
  refine wpAny_truthy_bool ?_
  cases c with
  | true => exact hb pins s1 σ H1 Q I1 q1
  | false => exact ⟨.bl false, H1, I1, rfl, q1⟩
theorem pe_or (ha : PE X a ta) (hb : PE X (.BoolOp .Or (b :: rest) pos) tb) : PE X (.BoolOp .Or (a :: b :: rest) pos) (tOrV ta tb) := by
  intro pins s σ H Q I h
  refine BoolOp_or (thn (ha pins s σ H _ I h) fun v s1 ⟨x, H1, I1, r1, q1⟩ => ?_)
  obtain ⟨c, rfl, q1⟩ := q1
  cases r1
  refine wpAny_truthy_bool ?_
  cases c with
  | false => exact hb pins s1 σ H1 Q I1 q1
  | true => exact ⟨.bl true, H1, I1, rfl, q1⟩
theorem pe_not (ha : PE X a ta) : PE X (.UnaryOp .Not a pos) (tNotV ta) := by
  intro pins s σ H Q I h
  refine UnaryOp_ (thn (ha pins s σ H _ I h) fun v s1 ⟨x, H1, I1, r1, q1⟩ => ?_)
  obtain ⟨c, rfl, q1⟩ := q1
  cases r1
  exact not_of (wpAny_truthy_bool ⟨.bl (!c), H1, I1, rfl, q1⟩)
/-- a if t else b -/
def tIf (t : TT) (ta tb : TE) : TE := fun σ H Q => t σ H fun c H1 => if c = true then ta σ H1 Q else tb σ H1 Q
theorem pe_ifExp {c : Expr} (hc : PT X c tA) (ha : PE X a ta) (hb : PE X b tb) : PE X (.IfExp c a b pos) (tIf tA ta tb) := by
  intro pins s σ H Q I h
  refine wpAny_IfExp (thn (hc pins s σ H _ I h) fun d s1 ⟨H1, I1, q1⟩ => ?_)
  cases d with
  | true => exact ha pins s1 σ H1 Q I1 q1
  | false => exact hb pins s1 σ H1 Q I1 q1
end
end L2

namespace L2
open PySem PySem.Spec PyProof.Rows

/-! ### a list, a tuple that is read: tracked, frozen, or an object of the module -/
def SqL (K : PySem.W.Frag) (H : Hp) (a : Addr) (xs : List V) : Prop :=
  Rd H a (.lst xs) ∨
    ∃ (o : Obj) (its : Array Value) (n : Nat), K.lookup a = some o ∧ o.cls = .type "list" ∧ o.dict = none ∧ o.data = .seq its n ∧ its.size ≤ sizeLine ∧ Vals xs its.toList
def SqT (K : PySem.W.Frag) (H : Hp) (a : Addr) (xs : List V) : Prop :=
  Rd H a (.tup xs) ∨
    ∃ (o : Obj) (its : Array Value) (n : Nat), K.lookup a = some o ∧ o.cls = .type "tuple" ∧ o.data = .seq its n ∧ its.size ≤ sizeLine ∧ Vals xs its.toList
def absV : Value → Option V
  | .none => some .non
  | .bool b => some (.bl b)
  | .int i _ => some (.int i)
  | .str x _ => some (.str x)
  | .bytes b _ => some (.byt b)
  | .float b _ => some (.flt b)
  | .ref a => some (.ref a)
  | .type n => some (.ty n)
  | _ => none
theorem RelV.abs {x : V} {u : Value} (r : RelV x u) : absV u = some x := by
  cases x with
  | non => cases r; rfl
  | bl _ => cases r; rfl
  | int _ => obtain ⟨t, rfl⟩ := r; rfl
  | str _ => obtain ⟨t, rfl⟩ := r; rfl
  | byt _ => obtain ⟨t, rfl⟩ := r; rfl
  | flt _ => obtain ⟨t, rfl⟩ := r; rfl
  | ref _ => cases r; rfl
  | ty _ => cases r; rfl
theorem RelV.inj {x y : V} {u : Value} (r : RelV x u) (q : RelV y u) : x = y := Option.some.inj (r.abs.symm.trans q.abs)
theorem Vals.inj : ∀ {xs ys : List V} {us : List Value}, Vals xs us → Vals ys us → xs = ys
  | _, _, _, .nil, .nil => rfl
  | _, _, _, .cons r t, .cons r' t' => by rw [r.inj r', Vals.inj t t']
section
variable {X : Cx} {pins : List (Addr × Obj)} {σ : St} {H : Hp} {s : Shared} {a : Addr} {xs ys : List V}
theorem SqL.of {K : PySem.W.Frag} (h : H a = some (.lst xs)) : SqL K H a xs := .inl (.inl h)
theorem SqT.of {K : PySem.W.Frag} (h : H a = some (.tup xs)) : SqT K H a xs := .inl (.inl h)
theorem Inv.list (I : Inv X pins σ H s) (h : SqL X.K H a xs) : ∃ its : List Value, Vals xs its ∧ PlainL s.heap a its.toArray ∧ xs.length ≤ sizeLine := by
  rcases h with h | ⟨o, its, n, hk, hc, hd, hs, hz, r⟩
  · obtain ⟨z, its, n, r, e⟩ := h.ok I.hok
    exact ⟨its, r, ⟨_, n, e, rfl, rfl, rfl⟩, z⟩
  · refine ⟨its.toList, r, ⟨o, n, I.kIn a o hk, hc, hd, by simpa using hs⟩, ?_⟩
    have e := r.length
    simp only [Array.length_toList] at e
    omega
theorem Inv.tuple (I : Inv X pins σ H s) (h : SqT X.K H a xs) : ∃ its : List Value, Vals xs its ∧ IsTup s.heap a its.toArray ∧ xs.length ≤ sizeLine := by
  rcases h with h | ⟨o, its, n, hk, hc, hs, hz, r⟩
  · obtain ⟨z, its, r, p⟩ := h.ok I.hok
    exact ⟨its, r, p, z⟩
  · refine ⟨its.toList, r, ⟨o, I.kIn a o hk, hc, n, by simpa using hs⟩, ?_⟩
    have e := r.length
    simp only [Array.length_toList] at e
    omega
theorem Inv.list_inj (I : Inv X pins σ H s) (h : SqL X.K H a xs) (h' : SqL X.K H a ys) : xs = ys := by
  obtain ⟨its, r, ⟨o, n, e, _, _, d⟩, _⟩ := I.list h
  obtain ⟨its', r', ⟨o', n', e', _, _, d'⟩, _⟩ := I.list h'
  rw [e] at e'; cases e'
  rw [d] at d'
  injection d' with d1 _
  have : its = its' := by simpa using congrArg Array.toList d1
  subst this
  exact r.inj r'
theorem Inv.tuple_inj (I : Inv X pins σ H s) (h : SqT X.K H a xs) (h' : SqT X.K H a ys) : xs = ys := by
  obtain ⟨its, r, ⟨o, e, _, n, d⟩, _⟩ := I.tuple h
  obtain ⟨its', r', ⟨o', e', _, n', d'⟩, _⟩ := I.tuple h'
  rw [e] at e'; cases e'
  rw [d] at d'
  injection d' with d1 _
  have : its = its' := by simpa using congrArg Array.toList d1
  subst this
  exact r.inj r'
end

/-! ### another wish about exceptions -/
abbrev Cx.wish (X : Cx) (E : Value → Shared → Prop) : Cx := { X with xe := E }
/-- no exception leaves -/
abbrev Cx.nox (X : Cx) : Cx := X.wish fun _ _ => False
theorem Cx.Ok.wish {X : Cx} (ok : X.Ok) (E : Value → Shared → Prop) : (X.wish E).Ok :=
  ⟨ok.mod, ok.kind, ok.glob, ok.blt, ok.above, ok.inj, ok.has, ok.cab, ok.hd, ok.frames, ok.stk, ok.exf, ok.bs, ok.bsz, ok.noex, ok.exfs, ok.funs, ok.frf⟩
theorem Cx.Ok.unwish {X : Cx} {E : Value → Shared → Prop} (ok : (X.wish E).Ok) : X.Ok :=
  ⟨ok.mod, ok.kind, ok.glob, ok.blt, ok.above, ok.inj, ok.has, ok.cab, ok.hd, ok.frames, ok.stk, ok.exf, ok.bs, ok.bsz, ok.noex, ok.exfs, ok.funs, ok.frf⟩
section
variable {X : Cx} {pins : List (Addr × Obj)} {σ : St} {H : Hp} {s : Shared} {E : Value → Shared → Prop}
theorem Inv.wish (I : Inv X pins σ H s) (E : Value → Shared → Prop) : Inv (X.wish E) pins σ H s := ⟨I.ok.wish E, I.os, I.bare, I.base, I.loc, I.cell, I.free, I.freeC, I.pin, I.hok, I.len⟩
theorem Inv.unwish (I : Inv (X.wish E) pins σ H s) : Inv X pins σ H s := ⟨I.ok.unwish, I.os, I.bare, I.base, I.loc, I.cell, I.free, I.freeC, I.pin, I.hok, I.len⟩
theorem SP.unwish {D : Ends} {f : Flow} {s' : Shared} (h : SP (X.wish E) pins D f s') : SP X pins D f s' := by
  cases f with
  | next => obtain ⟨σ', H', I, q⟩ := h; exact ⟨σ', H', I.unwish, q⟩
  | brk => obtain ⟨σ', H', I, q⟩ := h; exact ⟨σ', H', I.unwish, q⟩
  | cont => obtain ⟨σ', H', I, q⟩ := h; exact ⟨σ', H', I.unwish, q⟩
  | ret u => obtain ⟨v, σ', H', I, r, q⟩ := h; exact ⟨v, σ', H', I.unwish, r, q⟩
theorem PSs.nox {st : List Stmt} {t : TS} (h : PSs X.nox st t) : PSs X st t := fun pins s σ H D I hw =>
  wpAny_mono (h pins s σ H D (I.wish _) hw) (fun _ _ q => q.unwish) fun _ _ z => False.elim z
end

/-! ### blocks and small statements -/
section
variable {X : Cx} {st : Stmt} {rest : List Stmt} {t u : TS} {e : Expr} {te : TE} {pos : Pos}
def tNext : TS := fun D σ H => D.nx σ H
def tSeq (t u : TS) : TS := fun D σ H => t { D with nx := u D } σ H
theorem pss_nil : PSs X [] tNext := fun _ _ σ H _ I h => wpAny_execs_nil ⟨σ, H, I, h⟩
theorem pss_cons (h1 : PS X st t) (h2 : PSs X rest u) : PSs X (st :: rest) (tSeq t u) := by
  intro pins s σ H D I h
  refine wpAny_execs_cons (thn (h1 pins s σ H { D with nx := u D } I h) fun f s1 q => ?_)
  cases f with
  | next =>
    obtain ⟨σ', H', I', q⟩ := q
    exact h2 pins s1 σ' H' D I' q
  | ret v => exact q
  | brk => exact q
  | cont => exact q
theorem pss_one (h1 : PS X st t) : PSs X [st] t := by
  intro pins s σ H D I h
  refine wpAny_execs_cons (thn (h1 pins s σ H D I h) fun f s1 q => ?_)
  cases f with
  | next => exact wpAny_execs_nil q
  | ret v => exact q
  | brk => exact q
  | cont => exact q
/-- in a def's body nothing is shown -/
theorem Inv.quiet {pins : List (Addr × Obj)} {σ : St} {H : Hp} {s : Shared} (I : Inv X pins σ H s) : interactive X.env = false := by simp [interactive, I.ok.kind]
/-- an expression whose value is dropped -/
def tDrop (te : TE) : TS := fun D σ H => te σ H fun _ H1 => D.nx σ H1
theorem ps_expr (he : PE X e te) (hs : swapsWith e none pos.line X.env = pure false := by rfl) : PS X (.Expr e pos) (tDrop te) := by
  intro pins s σ H D I h
  exact wpAny_Expr_any (thn (he pins s σ H _ I h) fun v s1 ⟨x, H1, I1, r1, q1⟩ => ⟨σ, H1, I1, q1⟩) I.quiet hs
def tRet (te : TE) : TS := fun D σ H => te σ H D.rt
theorem ps_ret (he : PE X e te) : PS X (.Return (some e) pos) (tRet te) := by
  intro pins s σ H D I h
  exact wpAny_Return_some (thn (he pins s σ H _ I h) fun v s1 ⟨x, H1, I1, r1, q1⟩ => ⟨x, σ, H1, I1, r1, q1⟩)
def tIfS (c : TT) (t u : TS) : TS := fun D σ H => c σ H fun b H1 => if b = true then t D σ H1 else u D σ H1
theorem ps_if {c : Expr} {a b : List Stmt} {tc : TT} (hc : PT X c tc) (ha : PSs X a t) (hb : PSs X b u) : PS X (.If c a b pos) (tIfS tc t u) := by
  intro pins s σ H D I h
  refine wpAny_If (thn (hc pins s σ H _ I h) fun d s1 ⟨H1, I1, q1⟩ => ?_)
  cases d with
  | true => exact ha pins s1 σ H1 D I1 q1
  | false => exact hb pins s1 σ H1 D I1 q1
end

/-! ### targets -/
abbrev TG := V → St → Hp → (St → Hp → Prop) → Prop
abbrev TGs := List V → St → Hp → (St → Hp → Prop) → Prop
def PG (X : Cx) (target : Expr) (t : TG) : Prop :=
  ∀ (pins : List (Addr × Obj)) (s : Shared) (σ : St) (H : Hp) (v : V) (u : Value) (Q : St → Hp → Prop), Inv X pins σ H s → RelV v u → t v σ H Q →
    wpAny (model X.prog X.w) X.A (assign target X.env u) (fun _ s' => ∃ σ' H', Inv X pins σ' H' s' ∧ Q σ' H') X.xe s
/-- several targets, one after another -/
def PGs (X : Cx) (ts : List Expr) (t : TGs) : Prop :=
  ∀ (pins : List (Addr × Obj)) (s : Shared) (σ : St) (H : Hp) (vs : List V) (us : List Value) (Q : St → Hp → Prop), Inv X pins σ H s → Vals vs us → t vs σ H Q →
    wpAny (model X.prog X.w) X.A (assignInOrder ((assignEach ts X.env).map (·.2)) us) (fun _ s' => ∃ σ' H', Inv X pins σ' H' s' ∧ Q σ' H') X.xe s
/-- o[i] = v, by values -/
abbrev TSet := V → V → V → Hp → (Hp → Prop) → Prop
def PSet (X : Cx) (t : TSet) : Prop :=
  ∀ (pins : List (Addr × Obj)) (s : Shared) (σ : St) (H : Hp) (o i v : V) (ov iv u : Value) (Q : Hp → Prop), Inv X pins σ H s → RelV o ov → RelV i iv → RelV v u → t o i v H Q →
    wpAny (model X.prog X.w) X.A (setItem ov iv u) (fun _ s' => ∃ H', Inv X pins σ H' s' ∧ Q H') X.xe s
section
variable {X : Cx} {pos : Pos}
def gName (i : Nat) : TG := fun v σ H Q => Q (σ.set i (some v)) H
theorem pg_name {i : Nat} {x : Str} (hN : X.N.Nodup) (hi : X.N[i]? = some x) (hx : Loc X.env.scope x) (hf : X.fn x = true ∨ X.env.scope.names.lookup x = some .local := by first | exact .inl rfl | exact .inr rfl | assumption) : PG X (.Name x pos) (gName i) := by
  intro pins s σ H v u Q I r h
  exact wpAny_assign_Name (store_ok I hN hi hx r (fun s' I' => ⟨_, H, I', h⟩) hf)
def gNil : TGs := fun vs σ H Q => vs = [] ∧ Q σ H
def gCons (t : TG) (u : TGs) : TGs := fun vs σ H Q => ∃ v r, vs = v :: r ∧ t v σ H fun σ' H' => u r σ' H' Q
theorem pgs_nil : PGs X [] gNil := by
  intro pins s σ H vs us Q I r h
  obtain ⟨e, h⟩ := h
  subst e
  cases r
  exact assignInOrder_nil ⟨σ, H, I, h⟩
theorem pgs_cons {e : Expr} {es : List Expr} {t : TG} {u : TGs} (h1 : PG X e t) (h2 : PGs X es u)
    (hs : (assignEach (e :: es) X.env).map (·.2) = assign e X.env :: (assignEach es X.env).map (·.2) := by rfl) : PGs X (e :: es) (gCons t u) := by
  intro pins s σ H vs us Q I r h
  obtain ⟨v, vr, e1, h⟩ := h
  subst e1
  cases r with
  | cons r rr =>
    rw [hs]
    refine assignInOrder_cons (thn (h1 pins s σ H _ _ _ I r h) fun _ s1 ⟨σ1, H1, I1, q1⟩ => ?_)
    exact h2 pins s1 σ1 H1 _ _ Q I1 rr q1
/-- (a, b, ..) = a tuple of that length -/
def gTup (K : PySem.W.Frag) (n : Nat) (t : TGs) : TG := fun v σ H Q => ∃ a xs, v = .ref a ∧ SqT K H a xs ∧ xs.length = n ∧ t xs σ H Q
theorem pg_tup {es : List Expr} {k : Nat} {t : TGs} {n : Nat} (hc : X.calm = true) (h : PGs X es t)
    (hn : (assignEach es X.env).length = n := by rfl) (hst : (assignEach es X.env).findIdx? (·.1) = none := by rfl) : PG X (.Tuple es k pos) (gTup X.K n t) := by
  intro pins s σ H v u Q I r hw
  obtain ⟨a, xs, e1, hq, hl, hw⟩ := hw
  subst e1
  cases r
  obtain ⟨its, rv, ht, hz⟩ := I.tuple hq
  refine assign_Tuple_tuple (I.ok.hd hc) ht (by simp [hn, ← hl, rv.length]) hst fun h' hx => ?_
  have I1 : Inv X pins σ H { s with heap := h' } := I.kept (t' := s.toks) fun b o e => hx b o (Nat.ne_of_lt (Heap.lt_size e)) e
  exact h pins _ σ H xs _ Q I1 (by simpa using rv) hw
/-- o[i] = .. -/
def gSub (to ti : TE) (t : TSet) : TG := fun v σ H Q => to σ H fun o H1 => ti σ H1 fun i H2 => t o i v H2 fun H3 => Q σ H3
theorem pg_sub {o i : Expr} {to ti : TE} {t : TSet} (ho : PE X o to) (hi : PE X i ti) (hs : PSet X t)
    (ha : ∀ v, assign (.Subscript o i pos) X.env v = (do
      let ov ← holding [v] (eval o X.env)
      let iv ← holding [v, ov] (eval i X.env)
      standAt pos
      holding [v, ov, iv] (setItem ov iv v)
      release [v, ov, iv] []) := by intro _; rfl) : PG X (.Subscript o i pos) (gSub to ti t) := by
  intro pins s σ H v u Q I r h
  rw [ha]
  refine wpAny_bind (wpAny_holding (thn (ho pins s σ H _ I h) fun ov s1 ⟨x, H1, I1, r1, q1⟩ => ?_))
  refine wpAny_bind (wpAny_holding (thn (hi pins s1 σ H1 _ I1 q1) fun iv s2 ⟨y, H2, I2, r2, q2⟩ => ?_))
  refine wpAny_bind (wpAny_standAt (wpAny_bind (wpAny_holding (thn (hs pins s2 σ H2 x y v ov iv u _ I2 r1 r2 r q2) fun _ s3 ⟨H3, I3, q3⟩ => ?_))))
  exact wpAny_release ⟨σ, H3, I3, q3⟩
/-- target = value -/
def tAsg (te : TE) (g : TG) : TS := fun D σ H => te σ H fun x H1 => g x σ H1 D.nx
theorem ps_asg {tg e : Expr} {te : TE} {g : TG} (he : PE X e te) (hg : PG X tg g) (hs : swapsWithSole [tg] e pos.line X.env = pure false := by rfl) (hw : swappedStores [tg] e X.env = pure none := by rfl)
    (h1 : (assignEach [tg] X.env).map (·.2) = [assign tg X.env] := by rfl) : PS X (.Assign [tg] e pos) (tAsg te g) := by
  intro pins s σ H D I h
  refine wpAny_Assign_stores (thn (he pins s σ H _ I h) fun v s1 ⟨x, H1, I1, r1, q1⟩ => ?_) hs hw
  rw [h1]
  exact thn (hg pins s1 σ H1 x v _ I1 r1 q1) fun _ s2 q => q
/-- name = value -/
theorem ps_set {i : Nat} {x : Str} {e : Expr} {te : TE} {pos' : Pos} (hN : X.N.Nodup) (hi : X.N[i]? = some x) (hx : Loc X.env.scope x) (he : PE X e te) (hs : swapsWith e (some (.Name x pos')) pos.line X.env = pure false := by rfl) (hf : X.fn x = true ∨ X.env.scope.names.lookup x = some .local := by first | exact .inl rfl | exact .inr rfl | assumption) :
    PS X (.Assign [.Name x pos'] e pos) (tAsg te (gName i)) := by
  intro pins s σ H D I h
  refine wpAny_Assign_Name (thn (he pins s σ H _ I h) fun v s1 ⟨y, H1, I1, r1, q1⟩ => ?_) hs
  exact store_ok I1 hN hi hx r1 (fun s2 I2 => ⟨_, H1, I2, q1⟩) hf
end

/-! ### while -/
section
variable {X : Cx} {pos : Pos}
/-- the invariant W with its measure -/
def tWhile (c : TT) (tb : TS) : TS := fun D σ H => ∃ W : Nat → St → Hp → Prop, (∃ m, W m σ H) ∧ ∀ m σ H, W m σ H →
  c σ H fun b H1 => if b = true then ∃ N : St → Hp → Prop, (∀ σ' H', N σ' H' → ∃ m', m' < m ∧ W m' σ' H') ∧ tb { D with nx := N, ct := N, bk := D.nx } σ H1 else D.nx σ H1
theorem ps_while {c : Expr} {body : List Stmt} {tc : TT} {tb : TS} (hp : PassesOwn (model X.prog X.w) X.A X.env X.xe) (hc : PT X c tc) (hb : PSs X body tb) : PS X (.While c body [] pos) (tWhile tc tb) := by
  intro pins s σ H D I h
  obtain ⟨W, ⟨m0, w0⟩, turn⟩ := h
  refine wpAny_While (codeAny_whileLoop (fun n s' => ∃ σ' H', Inv X pins σ' H' s' ∧ W n σ' H') ?_ m0 ⟨σ, H, I, w0⟩)
  rintro n s1 ⟨σ1, H1, I1, w1⟩
  refine wpAny_passesOwn hp (thn (hc pins s1 σ1 H1 _ I1 (turn n σ1 H1 w1)) fun b s2 ⟨H2, I2, q2⟩ => ?_)
  cases b with
  | true =>
    obtain ⟨N, hN, q2⟩ := q2
    rw [if_pos rfl]
    refine wpAny_passesOwn hp (thn (hb pins s2 σ1 H2 _ I2 q2) fun f s3 q3 => ?_)
    cases f with
    | next =>
      obtain ⟨σ3, H3, I3, n3⟩ := q3
      obtain ⟨m', hm, w3⟩ := hN σ3 H3 n3
      exact ⟨m', hm, σ3, H3, I3, w3⟩
    | cont =>
      obtain ⟨σ3, H3, I3, n3⟩ := q3
      obtain ⟨m', hm, w3⟩ := hN σ3 H3 n3
      exact ⟨m', hm, σ3, H3, I3, w3⟩
    | brk => exact q3
    | ret v => exact q3
  | false =>
    rw [if_neg Bool.false_ne_true]
    exact wpAny_execs_nil ⟨σ1, H2, I2, q2⟩
end

/-! ### what a loop or a comprehension walks -/
/-- at turn i: it yields x (the heap may grow), or it stops -/
structure It where
  go : Nat → Hp → Prop
  yld : Nat → Hp → V → Hp → Prop
  stop : Nat → Hp → Prop
/-- the iterator's own objects may turn: they are not the frame's, not pinned, younger than the entry (or a comprehension's own) -/
def FpOk (X : Cx) (pins : List (Addr × Obj)) (H : Hp) (b : Addr) : Prop :=
  H b = none ∧ b ≠ X.env.locals ∧ b ∉ X.fs ∧ (b ∈ X.ex ∨ X.s₀.heap.objs.size ≤ b) ∧ (∀ x c, X.env.cells.lookup x = some c → c ≠ b) ∧ ∀ p ∈ X.pn ++ pins, p.1 ≠ b
theorem Inv.fpOk {X : Cx} {pins : List (Addr × Obj)} {σ : St} {H H' : Hp} {s : Shared} {b : Addr} (I : Inv X pins σ H s) (hb : s.heap.objs.size ≤ b) (hn : H' b = none) : FpOk X pins H' b := by
  refine ⟨hn, Nat.ne_of_gt (Nat.lt_of_lt_of_le I.lt hb), I.nofs hb, .inr (Nat.le_trans I.sz hb), fun x c e z => ?_, fun p hp z => ?_⟩
  · obtain ⟨v, q⟩ := I.cell x c e
    exact absurd (Nat.lt_of_lt_of_le q.lt (by rw [z]; exact hb)) (Nat.lt_irrefl _)
  · exact absurd (Nat.lt_of_lt_of_le (Heap.lt_size (I.pin p hp).1) (by rw [z]; exact hb)) (Nat.lt_irrefl _)
structure Turn (P : Program) (w : World) (K : PySem.W.Frag) (tg : Expr) (J : It) (fp : List Addr) (it : Addr) (tn : Nat → Heap → Prop) : Prop where
  mem : it ∈ fp
  obj : ∀ i h, tn i h → ∀ b ∈ fp, ∃ o, h.get? b = some o ∧ ∀ v, o.data ≠ .cell v
  keep : ∀ i h h', tn i h → (∀ b ∈ fp, ∀ o, h.get? b = some o → h'.get? b = some o) → tn i h'
  item : ∀ (X : Cx), X.prog = P → X.w = w → X.K = K → X.calm = true → ∀ (i : Nat) (pins : List (Addr × Obj)) (s : Shared) (σ : St) (H : Hp) (E : Value → Shared → Prop), Inv X pins σ H s → (∀ b ∈ fp, FpOk X pins H b) → tn i s.heap → J.go i H →
    wpAny (model P w) X.A (pyNext (.ref it)) (fun r s1 => ∃ u, r = some u ∧
      wpAny (model P w) X.A (letOwnedTupleGo tg (.ref it) u) (fun _ s2 => ∃ x H', Inv X pins σ H' s2 ∧ RelV x u ∧ J.yld i H x H' ∧ tn (i + 1) s2.heap ∧ ∀ b ∈ fp, H' b = none) E s1) E s
  done : ∀ (X : Cx), X.prog = P → X.w = w → X.K = K → X.calm = true → ∀ (i : Nat) (pins : List (Addr × Obj)) (s : Shared) (σ : St) (H : Hp) (E : Value → Shared → Prop), Inv X pins σ H s → (∀ b ∈ fp, FpOk X pins H b) → tn i s.heap → J.stop i H →
    wpAny (model P w) X.A (pyNext (.ref it)) (fun r s1 => r = none ∧ Inv X pins σ H s1) E s
  self : ∀ (A : Around) (i : Nat) (s : Shared) (Q : Value → Shared → Prop) (E : Value → Shared → Prop), tn i s.heap → Q (.ref it) s → wpAny (model P w) A (pyIter (.ref it)) Q E s
abbrev TI := St → Hp → (It → Hp → Prop) → Prop
/-- an iterator has come -/
def PIE (X : Cx) (pins : List (Addr × Obj)) (σ : St) (tg : Expr) (R : It → Hp → Prop) (itv : Value) (s2 : Shared) : Prop :=
  ∃ (it : Addr) (fp : List Addr) (tn : Nat → Heap → Prop) (J : It) (H' : Hp), itv = .ref it ∧ Inv X pins σ H' s2 ∧ Turn X.prog X.w X.K tg J fp it tn ∧ tn 0 s2.heap ∧ (∀ b ∈ fp, FpOk X pins H' b) ∧ R J H'
def PI (X : Cx) (tg iter : Expr) (wi : TI) : Prop :=
  ∀ (pins : List (Addr × Obj)) (s : Shared) (σ : St) (H : Hp) (R : It → Hp → Prop), Inv X pins σ H s → wi σ H R →
    wpAny (model X.prog X.w) X.A (eval iter X.env) (fun v s1 => wpAny (model X.prog X.w) X.A (pyIter v) (PIE X pins σ tg R) X.xe s1) X.xe s

/-- the step ahead of the store is nothing for an iterator that keeps no tuple -/
theorem go_of {M : Model} {A : Around} {E : Value → Shared → Prop} {s : Shared} {tg : Expr} {it : Addr} {u : Value} {o : Obj} {n : String} {vs : Array Value} {Q : Unit → Shared → Prop} (ho : s.heap.get? it = some o) (hc : o.cls = .type n) (hd : o.data = .fields vs)
    (hn : ["enumerate", "zip", "dict_itemiterator", "dict_reverseitemiterator", "odict_iterator", "itertools.zip_longest", "itertools.pairwise"].contains n = false) (hQ : Q () s) : wpAny M A (letOwnedTupleGo tg (.ref it) u) Q E s := by
  unfold letOwnedTupleGo
  cases tg <;> first
    | exact wpAny_pure hQ
    | (cases u <;> first
        | exact wpAny_pure hQ
        | (refine wpAny_bind (wpAny_load ho ?_)
           rw [hc, hd]
           show wpAny M A (if (["enumerate", "zip", "dict_itemiterator", "dict_reverseitemiterator", "odict_iterator", "itertools.zip_longest", "itertools.pairwise"].contains n && vs[0]? == some (rawInt _)) = true then _ else _) Q E s
           rw [if_neg (by intro h; rw [hn, Bool.false_and] at h; cases h)]
           exact wpAny_pure hQ))

/-- the list at a, as it stands at each turn (a loop may append to it) -/
def Itl (K : PySem.W.Frag) (a : Addr) : It :=
  ⟨fun i H => ∃ xs x, SqL K H a xs ∧ xs[i]? = some x, fun i H x H' => H' = H ∧ ∀ xs, SqL K H a xs → xs[i]? = some x, fun i H => ∃ xs, SqL K H a xs ∧ xs.length ≤ i⟩
/-- lo, lo + 1, .. (n of them) -/
def Itr (lo : Int) (n : Nat) : It := ⟨fun i _ => i < n, fun i H x H' => H' = H ∧ x = .int (lo + i), fun i _ => n ≤ i⟩
theorem turn_list {P : Program} {w : World} {K : PySem.W.Frag} {tg : Expr} (a it : Addr) : Turn P w K tg (Itl K a) [it] it (fun i h => h.IsListIter it a i) where
  mem := by simp
  obj := fun i h st b hb => by
    have e : b = it := by simpa using hb
    subst e
    obtain ⟨o, e, c, d⟩ := st
    exact ⟨o, e, fun v z => by rw [d] at z; cases z⟩
  keep := fun i h h' st k => st.at fun o e => k it (by simp) o e
  item := by
    intro X hP hw hK hc i pins s σ H E I hf st hg
    subst hP hw hK
    obtain ⟨xs, x, hq, hx⟩ := hg
    obtain ⟨its, rv, p, hz⟩ := I.list hq
    obtain ⟨u, hu, ru⟩ := rv.get hx
    obtain ⟨f0, f1, f2, f3, f4, f5⟩ := hf it (by simp)
    refine wpAny_pyNext_list_item st p.isList (x := u) (by simpa using hu) fun h' st' sb => ?_
    have I1 : Inv X pins σ H { s with heap := h' } := I.turned (t' := s.toks) (fun b o hb e => (sb.2 b hb).trans e) f0 f1 f3 f4 f5
    obtain ⟨o, e, c, d⟩ := id st'
    exact ⟨u, rfl, go_of (s := { s with heap := h' }) e c d (by decide) ⟨x, H, I1, ru, ⟨rfl, fun ys hy => by rw [I.list_inj hy hq]; exact hx⟩, st', fun b hb => (hf b hb).1⟩⟩
  done := by
    intro X hP hw hK hc i pins s σ H E I hf st hg
    subst hP hw hK
    obtain ⟨xs, hq, hx⟩ := hg
    obtain ⟨its, rv, p, hz⟩ := I.list hq
    obtain ⟨f0, f1, f2, f3, f4, f5⟩ := hf it (by simp)
    have hl := rv.length
    exact wpAny_pyNext_list_end (I.ok.hd hc) st p.isList (by simp; omega) fun h' eb => ⟨rfl, I.turned (t' := s.toks) (fun b o hb e => eb b o hb e) f0 f1 f3 f4 f5⟩
  self := fun _ _ _ _ _ st h => wpAny_pyIter_listiter st h
theorem turn_range {P : Program} {w : World} {K : PySem.W.Frag} {tg : Expr} (it : Addr) (lo : Int) (n : Nat) : Turn P w K tg (Itr lo n) [it] it (fun i h => IsRangeIter h it (lo + (i : Nat) * 1) ((n : Int) - (i : Nat)) 1) where
  mem := by simp
  obj := fun i h st b hb => by
    have e : b = it := by simpa using hb
    subst e
    exact ⟨_, st, fun v z => by
      have z' : Data.fields _ = Data.cell v := z
      cases z'⟩
  keep := fun i h h' st k => k it (by simp) _ st
  item := by
    intro X hP hw hK hc i pins s σ H E I hf st hg
    subst hP hw hK
    obtain ⟨f0, f1, f2, f3, f4, f5⟩ := hf it (by simp)
    have W := Walks.range (prog := X.prog) (w := X.w) (I.ok.hd hc) it lo 1 n
    refine W.item i s _ _ hg st fun v h' tk hv st' kk => ?_
    obtain ⟨t, rfl⟩ := hv
    have I1 : Inv X pins σ H { s with heap := h', toks := tk } := I.turned (fun b o hb e => kk b o (by simpa using hb) e) f0 f1 f3 f4 f5
    refine ⟨_, rfl, go_of (s := { s with heap := h', toks := tk }) (n := "range_iterator") st' rfl rfl (by decide) ⟨.int (lo + i), H, I1, ⟨t, ?_⟩, ⟨rfl, rfl⟩, st', fun b hb => (hf b hb).1⟩⟩
    rw [Int.mul_one]
  done := by
    intro X hP hw hK hc i pins s σ H E I hf st hg
    subst hP hw hK
    obtain ⟨f0, f1, f2, f3, f4, f5⟩ := hf it (by simp)
    exact wpAny_pyNext_range_end (I.ok.hd hc) st (by have : n ≤ i := hg; omega) fun h' eb => ⟨rfl, I.turned (t' := s.toks) (fun b o hb e => eb b o hb e) f0 f1 f3 f4 f5⟩
  self := fun _ _ _ _ _ st h => wpAny_pyIter_rangeiter st h
end L2

namespace L2
open PySem PySem.Spec PyProof.Rows
section
variable {X : Cx} {tg : Expr}
def iList (K : PySem.W.Frag) (tl : TE) : TI := fun σ H R => tl σ H fun x H1 => ∃ a, x = .ref a ∧ (∃ xs, SqL K H1 a xs) ∧ R (Itl K a) H1
theorem pi_list {l : Expr} {tl : TE} (hl : PE X l tl) : PI X tg l (iList X.K tl) := by
  intro pins s σ H R I h
  refine thn (hl pins s σ H _ I h) fun v s1 ⟨x, H1, I1, r1, q1⟩ => ?_
  obtain ⟨a, e, ⟨xs, hq⟩, q⟩ := q1
  subst e
  cases r1
  obtain ⟨its, rv, p, hz⟩ := I1.list hq
  refine wpAny_pyIter_list p.isList ?_
  refine ⟨s1.heap.objs.size, [s1.heap.objs.size], _, _, H1, rfl, I1.kept (t' := s1.toks) fun b o e => Heap.get?_push_of_some _ e, turn_list a _, ⟨_, Heap.get?_push_size _ rfl, rfl, rfl⟩, fun b hb => ?_, q⟩
  have e : b = s1.heap.objs.size := by simpa using hb
  subst e
  exact I1.fpOk (Nat.le_refl _) (I1.hok.fresh (Nat.le_refl _))
/-- a range object just made, walked -/
theorem range_it {pins : List (Addr × Obj)} {σ : St} {H : Hp} {s : Shared} {R : It → Hp → Prop} {E : Value → Shared → Prop} {lo hi : Int} {t u v : Tok} {tk : Nat} (I : Inv X pins σ H s) (h1 : -(2 ^ 62) ≤ lo) (h2 : lo < 2 ^ 62) (h3 : -(2 ^ 62) ≤ hi) (h4 : hi < 2 ^ 62)
    (q : R (Itr lo (hi - lo).toNat) H) : wpAny (model X.prog X.w) X.A (pyIter (.ref s.heap.objs.size)) (PIE X pins σ tg R) E { s with heap := s.heap.push { cls := .type "range", data := .fields #[.int lo t, .int hi u, .int 1 v] }, toks := tk } := by
  refine wpAny_pyIter_range (IsRange.new ..) (small_one h1 h2 h3 h4) ?_
  have I1 : Inv X pins σ H { s with heap := s.heap.push { cls := .type "range", data := .fields #[.int lo t, .int hi u, .int 1 v] }, toks := tk } := I.kept fun b o e => Heap.get?_push_of_some _ e
  refine ⟨(s.heap.push { cls := .type "range", data := .fields #[.int lo t, .int hi u, .int 1 v] }).objs.size, [(s.heap.push { cls := .type "range", data := .fields #[.int lo t, .int hi u, .int 1 v] }).objs.size], _, _, H, rfl,
    I1.kept (t' := tk) fun b o e => Heap.get?_push_of_some _ e, turn_range _ lo (hi - lo).toNat, ?_, fun b hb => ?_, q⟩
  · have e1 : lo + ((0 : Nat) : Int) * 1 = lo := by simp
    have e2 : (((hi - lo).toNat : Nat) : Int) - ((0 : Nat) : Int) = Builtin.Range.rangeSize lo hi 1 := by rw [rangeSize_one]; split <;> omega
    show IsRangeIter _ _ (lo + ((0 : Nat) : Int) * 1) ((((hi - lo).toNat : Nat) : Int) - ((0 : Nat) : Int)) 1
    rw [e1, e2]
    exact Heap.get?_push_size _ rfl
  · have e : b = (s.heap.push { cls := .type "range", data := .fields #[.int lo t, .int hi u, .int 1 v] }).objs.size := by simpa using hb
    subst e
    exact I1.fpOk (Nat.le_refl _) (I1.hok.fresh (Nat.le_refl _))
def iRng1 (ta : TA) : TI := fun σ H R => ta σ H fun vs H1 => ∃ j : Int, vs = [.int j] ∧ -(2 ^ 62) ≤ j ∧ j < 2 ^ 62 ∧ R (Itr 0 j.toNat) H1
def iRng2 (ta : TA) : TI := fun σ H R => ta σ H fun vs H1 => ∃ i j : Int, vs = [.int i, .int j] ∧ (-(2 ^ 62) ≤ i ∧ i < 2 ^ 62 ∧ -(2 ^ 62) ≤ j ∧ j < 2 ^ 62) ∧ R (Itr i (j - i).toNat) H1
theorem pi_range1 {a : Expr} {ta : TA} {p pos : Pos} (hg : Gl X "range") (hm : X.mg "range" = none) (ha : PA X [a] ta) (hs : starEach [a] X.env = [(false, eval a X.env)] := by rfl) : PI X tg (.Call (.Name "range" p) [a] [] pos) (iRng1 ta) := by
  intro pins s σ H R I h
  refine Call_ (ld_blt I hg hm boot_range (PyProof.Rows.callWith_type1 (thn (ha pos pins s σ H _ I h) fun us s1 ⟨vs, H1, I1, r1, q1⟩ => ?_) hs rfl))
  obtain ⟨j, e, q1, q2, q⟩ := q1
  subst e
  cases r1 with
  | cons r rr =>
    cases rr
    obtain ⟨t, rfl⟩ := r
    exact call_range_1 (range_it I1 (by omega) (by omega) q1 q2 (by simpa using q))
theorem pi_range2 {a b : Expr} {ta : TA} {p pos : Pos} (hg : Gl X "range") (hm : X.mg "range" = none) (ha : PA X [a, b] ta) (hs : starEach [a, b] X.env = [(false, eval a X.env), (false, eval b X.env)] := by rfl) (hs2 : starEach [b] X.env = [(false, eval b X.env)] := by rfl) :
    PI X tg (.Call (.Name "range" p) [a, b] [] pos) (iRng2 ta) := by
  intro pins s σ H R I h
  refine Call_ (ld_blt I hg hm boot_range (PyProof.Rows.callWith_type1 (thn (ha pos pins s σ H _ I h) fun us s1 ⟨vs, H1, I1, r1, q1⟩ => ?_) (by rw [hs, hs2]) (by rw [hs2]; rfl)))
  obtain ⟨i, j, e, ⟨q1, q2, q3, q4⟩, q⟩ := q1
  subst e
  cases r1 with
  | cons r rr =>
    cases rr with
    | cons r' rr =>
      cases rr
      obtain ⟨t, rfl⟩ := r
      obtain ⟨t', rfl⟩ := r'
      exact call_range_2 (range_it I1 q1 q2 q3 q4 q)

/-! ### for -/
/-- W: the invariant by the turn and a measure; N: what the body is to reach -/
def tFor (wi : TI) (g : TG) (tb : TS) : TS := fun D σ H => wi σ H fun J H1 => ∃ W : Nat → Nat → St → Hp → Prop, (∃ m, W 0 m σ H1) ∧ ∀ i m σ H, W i m σ H →
  (J.stop i H ∧ D.nx σ H) ∨ (J.go i H ∧ ∃ N : St → Hp → Prop, (∀ σ' H', N σ' H' → ∃ m', m' < m ∧ W (i + 1) m' σ' H') ∧ ∀ x H', J.yld i H x H' → g x σ H' fun σ2 H2 => tb { D with nx := N, ct := N, bk := D.nx } σ2 H2)
/-- the records at fp as they stand -/
def pinsAt (fp : List Addr) (h : Heap) : List (Addr × Obj) := fp.filterMap fun b => (h.get? b).map fun o => (b, o)
theorem mem_pinsAt {fp : List Addr} {h : Heap} {b : Addr} {o : Obj} (hb : b ∈ fp) (e : h.get? b = some o) : (b, o) ∈ pinsAt fp h := List.mem_filterMap.mpr ⟨b, hb, by rw [e]; rfl⟩
theorem of_pinsAt {fp : List Addr} {h : Heap} {p : Addr × Obj} (hp : p ∈ pinsAt fp h) : p.1 ∈ fp ∧ h.get? p.1 = some p.2 := by
  obtain ⟨b, hb, e⟩ := List.mem_filterMap.mp hp
  cases q : h.get? b with
  | none => rw [q] at e; cases e
  | some o =>
    rw [q] at e
    have e' : (b, o) = p := Option.some.inj e
    subst e'
    exact ⟨hb, q⟩
theorem Inv.pinned {pins : List (Addr × Obj)} {σ : St} {H : Hp} {s : Shared} {fp : List Addr} (I : Inv X pins σ H s) (hf : ∀ b ∈ fp, FpOk X pins H b) (ho : ∀ b ∈ fp, ∃ o, s.heap.get? b = some o ∧ ∀ v, o.data ≠ .cell v) : Inv X (pins ++ pinsAt fp s.heap) σ H s :=
  I.pins_of fun p hp => (List.mem_append.mp hp).elim (fun z => I.pin p (List.mem_append_right _ z)) fun z => by
    obtain ⟨hb, e⟩ := of_pinsAt z
    obtain ⟨f0, f1, f2, _⟩ := hf p.1 hb
    obtain ⟨o, e', d⟩ := ho p.1 hb
    rw [e] at e'; cases e'
    exact ⟨e, f0, f1, f2, d⟩
theorem Inv.unpinned {pins pl : List (Addr × Obj)} {σ : St} {H : Hp} {s : Shared} (I : Inv X (pins ++ pl) σ H s) : Inv X pins σ H s := I.pins_of fun p hp => I.pin p (List.mem_append_right _ (List.mem_append_left _ hp))
theorem ps_for {iter : Expr} {body : List Stmt} {wi : TI} {g : TG} {tb : TS} {pos : Pos} (hp : PassesOwn (model X.prog X.w) X.A X.env X.xe) (hc : X.calm = true) (hi : PI X tg iter wi) (hg : PG X tg g) (hb : PSs X body tb)
    (hs : ∀ x, foldedSetIterable iter X.env x = pure x := by intro _; rfl) : PS X (.For tg iter body [] pos) (tFor wi g tb) := by
  intro pins s σ H D I h
  refine wpAny_For (thn (hi pins s σ H _ I h) fun v s1 h1 => thn h1 fun itv s2 h2 => ?_) hs
  obtain ⟨it, fp, tn, J, H2, e, I2, T, st2, f2, W, ⟨m0, w0⟩, turn⟩ := h2
  subst e
  -- what stays true of the iterator's objects through the loop
  have stat : ∀ {H' : Hp}, (∀ b ∈ fp, H' b = none) → ∀ b ∈ fp, FpOk X pins H' b := fun hn b hb => ⟨hn b hb, (f2 b hb).2⟩
  refine codeAny_forLoop_any (fun n s' => ∃ i σ' H', Inv X pins σ' H' s' ∧ tn i s'.heap ∧ (∀ b ∈ fp, H' b = none) ∧ W i n σ' H') ?_ m0 ⟨0, σ, H2, I2, st2, fun b hb => (f2 b hb).1, w0⟩
  rintro n s3 ⟨i, σ3, H3, I3, st3, fr3, w3⟩
  rcases turn i n σ3 H3 w3 with ⟨stop, qn⟩ | ⟨go, N, hN, step⟩
  · refine wpAny_passesOwn hp (thn (T.done X rfl rfl rfl hc i pins s3 σ3 H3 X.xe I3 (stat fr3) st3 stop) fun r s4 ⟨hr, I4⟩ => ?_)
    subst hr
    exact wpAny_execs_nil ⟨σ3, H3, I4, qn⟩
  · refine wpAny_passesOwn hp (thn (T.item X rfl rfl rfl hc i pins s3 σ3 H3 X.xe I3 (stat fr3) st3 go) fun r s4 ⟨u, hr, h4⟩ => ?_)
    subst hr
    refine wpAny_passesOwn hp (thn h4 fun _ s5 ⟨x, H5, I5, r5, y5, st5, fr5⟩ => ?_)
    have I5' := I5.pinned (stat fr5) (T.obj _ _ st5)
    refine wpAny_passesOwn hp (thn (hg _ s5 σ3 H5 x u _ I5' r5 (step x H5 y5)) fun _ s6 ⟨σ6, H6, I6, q6⟩ => ?_)
    refine wpAny_passesOwn hp (thn (hb _ s6 σ6 H6 _ I6 q6) fun f s7 q7 => ?_)
    have again : ∀ {σ7 : St} {H7 : Hp}, Inv X (pins ++ pinsAt fp s5.heap) σ7 H7 s7 → N σ7 H7 → ∃ m, m < n ∧ ∃ i σ' H', Inv X pins σ' H' s7 ∧ tn i s7.heap ∧ (∀ b ∈ fp, H' b = none) ∧ W i m σ' H' := fun {σ7 H7} I7 n7 => by
      obtain ⟨m', hm, w7⟩ := hN σ7 H7 n7
      refine ⟨m', hm, i + 1, σ7, H7, I7.unpinned, T.keep _ _ _ st5 fun b hb o e => (I7.pin (b, o) (List.mem_append_right _ (List.mem_append_right _ (mem_pinsAt hb e)))).1, fun b hb => ?_, w7⟩
      obtain ⟨o, e, d⟩ := T.obj _ _ st5 b hb
      exact (I7.pin (b, o) (List.mem_append_right _ (List.mem_append_right _ (mem_pinsAt hb e)))).2.1
    cases f with
    | next => obtain ⟨σ7, H7, I7, n7⟩ := q7; exact again I7 n7
    | cont => obtain ⟨σ7, H7, I7, n7⟩ := q7; exact again I7 n7
    | brk => obtain ⟨σ7, H7, I7, q7⟩ := q7; exact ⟨σ7, H7, I7.unpinned, q7⟩
    | ret v => obtain ⟨x7, σ7, H7, I7, r7, q7⟩ := q7; exact ⟨x7, σ7, H7, I7.unpinned, r7, q7⟩
end

/-! ### the forms one uses -/
/-- over a list that the body leaves as it is -/
theorem for_list {K : PySem.W.Frag} {a : Addr} {xs : List V} {g : TG} {tb : TS} {D : Ends} {σ : St} {H : Hp} (Pv : Nat → St → Hp → Prop) (h0 : Pv 0 σ H) (hl : ∀ i σ H, i ≤ xs.length → Pv i σ H → SqL K H a xs)
    (hs : ∀ i x σ H, xs[i]? = some x → Pv i σ H → g x σ H fun σ2 H2 => tb { D with nx := Pv (i + 1), ct := Pv (i + 1), bk := D.nx } σ2 H2) (hd : ∀ σ H, Pv xs.length σ H → D.nx σ H) :
    ∃ W : Nat → Nat → St → Hp → Prop, (∃ m, W 0 m σ H) ∧ ∀ i m σ H, W i m σ H →
      ((Itl K a).stop i H ∧ D.nx σ H) ∨ ((Itl K a).go i H ∧ ∃ N : St → Hp → Prop, (∀ σ' H', N σ' H' → ∃ m', m' < m ∧ W (i + 1) m' σ' H') ∧ ∀ x H', (Itl K a).yld i H x H' → g x σ H' fun σ2 H2 => tb { D with nx := N, ct := N, bk := D.nx } σ2 H2) := by
  refine ⟨fun i m σ H => m = xs.length - i ∧ i ≤ xs.length ∧ Pv i σ H, ⟨xs.length, by simp, Nat.zero_le _, h0⟩, ?_⟩
  rintro i m σ H ⟨rfl, hi, p⟩
  have q := hl i σ H hi p
  by_cases hlt : i < xs.length
  · refine .inr ⟨⟨xs, xs[i], q, by simp [hlt]⟩, Pv (i + 1), fun σ' H' p' => ⟨xs.length - (i + 1), by omega, rfl, hlt, p'⟩, fun x H' y => ?_⟩
    obtain ⟨e, y⟩ := y
    subst e
    exact hs i x σ _ (y xs q) p
  · have e : i = xs.length := by omega
    subst e
    exact .inl ⟨⟨xs, q, Nat.le_refl _⟩, hd σ H p⟩
theorem for_range {lo : Int} {n : Nat} {g : TG} {tb : TS} {D : Ends} {σ : St} {H : Hp} (Pv : Nat → St → Hp → Prop) (h0 : Pv 0 σ H)
    (hs : ∀ i σ H, i < n → Pv i σ H → g (.int (lo + i)) σ H fun σ2 H2 => tb { D with nx := Pv (i + 1), ct := Pv (i + 1), bk := D.nx } σ2 H2) (hd : ∀ σ H, Pv n σ H → D.nx σ H) :
    ∃ W : Nat → Nat → St → Hp → Prop, (∃ m, W 0 m σ H) ∧ ∀ i m σ H, W i m σ H →
      ((Itr lo n).stop i H ∧ D.nx σ H) ∨ ((Itr lo n).go i H ∧ ∃ N : St → Hp → Prop, (∀ σ' H', N σ' H' → ∃ m', m' < m ∧ W (i + 1) m' σ' H') ∧ ∀ x H', (Itr lo n).yld i H x H' → g x σ H' fun σ2 H2 => tb { D with nx := N, ct := N, bk := D.nx } σ2 H2) := by
  refine ⟨fun i m σ H => m = n - i ∧ i ≤ n ∧ Pv i σ H, ⟨n, by simp, Nat.zero_le _, h0⟩, ?_⟩
  rintro i m σ H ⟨rfl, hi, p⟩
  by_cases hlt : i < n
  · refine .inr ⟨hlt, Pv (i + 1), fun σ' H' p' => ⟨n - (i + 1), by omega, rfl, hlt, p'⟩, fun x H' y => ?_⟩
    obtain ⟨e, y⟩ := y
    subst e y
    exact hs i σ _ hlt p
  · have e : i = n := by omega
    subst e
    exact .inl ⟨Nat.le_refl _, hd σ H p⟩
end L2

namespace L2
open PySem PySem.Spec PyProof.Rows

abbrev R2 := V → V → Hp → VK → Prop
/-- a two-place operation on values: f is binaryOp op, inplaceOp op or compareOp op -/
def OpR (X : Cx) (f : Value → Value → Sem Value) (r : R2) : Prop :=
  ∀ (pins : List (Addr × Obj)) (s : Shared) (σ : St) (H : Hp) (x y : V) (v u : Value) (Q : VK), Inv X pins σ H s → RelV x v → RelV y u → r x y H Q →
    wpAny (model X.prog X.w) X.A (f v u) (EP X pins σ Q) X.xe s
/-- a one-place operation -/
def UnR (X : Cx) (f : Value → Sem Value) (r : V → Hp → VK → Prop) : Prop :=
  ∀ (pins : List (Addr × Obj)) (s : Shared) (σ : St) (H : Hp) (x : V) (v : Value) (Q : VK), Inv X pins σ H s → RelV x v → r x H Q →
    wpAny (model X.prog X.w) X.A (f v) (EP X pins σ Q) X.xe s
/-- a call of a value that is known (a builtin, a type) with values -/
def CallR (X : Cx) (f : Value) (r : List V → Hp → VK → Prop) : Prop :=
  ∀ (pins : List (Addr × Obj)) (s : Shared) (σ : St) (H : Hp) (xs : List V) (us : List Value) (Q : VK), Inv X pins σ H s → Vals xs us → r xs H Q →
    wpAny (model X.prog X.w) X.A (call f us) (EP X pins σ Q) X.xe s

def tOp (r : R2) (ta tb : TE) : TE := fun σ H Q => ta σ H fun x H1 => tb σ H1 fun y H2 => r x y H2 Q
def tUn (r : V → Hp → VK → Prop) (ta : TE) : TE := fun σ H Q => ta σ H fun x H1 => r x H1 Q
/-- ints in, under C, and a value out -/
def rI (C : Int → Int → Prop) (g : Int → Int → V) : R2 := fun x y H Q => ∃ i j, x = .int i ∧ y = .int j ∧ C i j ∧ Q (g i j) H
def rI0 (g : Int → Int → V) : R2 := fun x y H Q => ∃ i j, x = .int i ∧ y = .int j ∧ Q (g i j) H
def rU (g : Int → V) : V → Hp → VK → Prop := fun x H Q => ∃ i, x = .int i ∧ Q (g i) H

section
variable {X : Cx} {a b c : Expr} {ta tb tc : TE} {pos : Pos}

theorem binT (ha : PE X a ta) (hb : PE X b tb) {pins : List (Addr × Obj)} {s : Shared} {σ : St} {H : Hp} {R : V → V → Hp → Prop} (I : Inv X pins σ H s)
    (h : ta σ H fun x H1 => tb σ H1 fun y H2 => R x y H2) {Q : Value → Shared → Prop} {f : Value → Value → Sem Value}
    (hf : ∀ v u s2 x y H2, Inv X pins σ H2 s2 → RelV x v → RelV y u → R x y H2 → wpAny (model X.prog X.w) X.A (f v u) Q X.xe s2) :
    wpAny (model X.prog X.w) X.A (eval a X.env) (fun v s₁ => wpAny (model X.prog X.w) X.A (eval b X.env) (fun u s₂ => wpAny (model X.prog X.w) X.A (f v u) Q X.xe s₂) X.xe s₁) X.xe s := by
  refine thn (ha pins s σ H _ I h) fun v s1 ⟨x, H1, I1, r1, q1⟩ => ?_
  refine thn (hb pins s1 σ H1 _ I1 q1) fun u s2 ⟨y, H2, I2, r2, q2⟩ => ?_
  exact hf v u s2 x y H2 I2 r1 r2 q2

theorem pe_op {op : Operator} {r : R2} (ho : OpR X (binaryOp op) r) (ha : PE X a ta) (hb : PE X b tb) : PE X (.BinOp a op b pos) (tOp r ta tb) := by
  intro pins s σ H Q I h
  exact wpAny_BinOp (binT ha hb I h fun v u s2 x y H2 I2 rx ry q => ho pins s2 σ H2 x y v u Q I2 rx ry q)
theorem pe_un {op : UnaryOp} {r : V → Hp → VK → Prop} (ho : UnR X (unaryOp op) r) (ha : PE X a ta) : PE X (.UnaryOp op a pos) (tUn r ta) := by
  intro pins s σ H Q I h
  exact UnaryOp_ (thn (ha pins s σ H _ I h) fun v s1 ⟨x, H1, I1, r1, q1⟩ => ho pins s1 σ H1 x v Q I1 r1 q1)

/-! ### ints -/
theorem opI {f : Value → Value → Sem Value} {C : Int → Int → Prop} {g : Int → Int → Int}
    (rule : ∀ (i j : Int) (t u : Tok) (s : Shared) (Q : Value → Shared → Prop) (E : Value → Shared → Prop), C i j → Q (.int (g i j) s.toks) { s with toks := s.toks + 1 } → wpAny (model X.prog X.w) X.A (f (.int i t) (.int j u)) Q E s) :
    OpR X f (rI C fun i j => .int (g i j)) := by
  intro pins s σ H x y v u Q I rx ry h
  obtain ⟨i, j, rfl, rfl, hc, q⟩ := h
  obtain ⟨t, rfl⟩ := rx
  obtain ⟨t', rfl⟩ := ry
  exact rule i j t t' s _ _ hc ⟨.int (g i j), H, I.tok _, ⟨_, rfl⟩, q⟩
theorem opI0 {f : Value → Value → Sem Value} {g : Int → Int → Int}
    (rule : ∀ (i j : Int) (t u : Tok) (s : Shared) (Q : Value → Shared → Prop) (E : Value → Shared → Prop), Q (.int (g i j) s.toks) { s with toks := s.toks + 1 } → wpAny (model X.prog X.w) X.A (f (.int i t) (.int j u)) Q E s) :
    OpR X f (rI0 fun i j => .int (g i j)) := by
  intro pins s σ H x y v u Q I rx ry h
  obtain ⟨i, j, rfl, rfl, q⟩ := h
  obtain ⟨t, rfl⟩ := rx
  obtain ⟨t', rfl⟩ := ry
  exact rule i j t t' s _ _ ⟨.int (g i j), H, I.tok _, ⟨_, rfl⟩, q⟩
theorem opB0 {f : Value → Value → Sem Value} {g : Int → Int → Bool}
    (rule : ∀ (i j : Int) (t u : Tok) (s : Shared) (Q : Value → Shared → Prop) (E : Value → Shared → Prop), Q (.bool (g i j)) s → wpAny (model X.prog X.w) X.A (f (.int i t) (.int j u)) Q E s) :
    OpR X f (rI0 fun i j => .bl (g i j)) := by
  intro pins s σ H x y v u Q I rx ry h
  obtain ⟨i, j, rfl, rfl, q⟩ := h
  obtain ⟨t, rfl⟩ := rx
  obtain ⟨t', rfl⟩ := ry
  exact rule i j t t' s _ _ ⟨.bl (g i j), H, I, rfl, q⟩

def CPow (i j : Int) : Prop := 0 ≤ j ∧ j ≤ 1000000 ∧ i.natAbs < 2 ^ 64
def CMul (i j : Int) : Prop := (-(2 ^ 64) < i ∧ i < 2 ^ 64) ∨ (-(2 ^ 64) < j ∧ j < 2 ^ 64)
theorem CMul.ok {i j : Int} (h : CMul i j) : IntMulOk i j := by
  rcases h with ⟨h1, h2⟩ | ⟨h1, h2⟩
  · exact .of_left (intBits_le_64 h1 h2)
  · exact .of_right (intBits_le_64 h1 h2)

theorem op_add : OpR X (binaryOp .Add) (rI0 fun i j => .int (i + j)) := opI0 fun _ _ _ _ _ _ _ q => add_int q
theorem op_sub : OpR X (binaryOp .Sub) (rI0 fun i j => .int (i - j)) := opI0 fun _ _ _ _ _ _ _ q => sub_int q
theorem op_mul : OpR X (binaryOp .Mult) (rI CMul fun i j => .int (i * j)) := opI fun _ _ _ _ _ _ _ hc q => mul_int q hc.ok
/-- % by a positive divisor of any size -/
theorem op_mod : OpR X (binaryOp .Mod) (rI (fun _ j => 0 < j) fun i j => .int (i % j)) := opI fun i j _ _ _ _ _ hc q => by
  have h1 : (0 : Int) < j := hc
  exact mod_int' (by omega) (by rw [Int.fmod_eq_emod_of_nonneg i (by omega)]; exact q)
theorem op_pow : OpR X (binaryOp .Pow) (rI CPow fun i j => .int (i ^ j.toNat)) := opI fun _ _ _ _ _ _ _ hc q => pow_int_small hc.1 hc.2.1 hc.2.2 q


theorem unI {f : Value → Sem Value} {g : Int → Int}
    (rule : ∀ (i : Int) (t : Tok) (s : Shared) (Q : Value → Shared → Prop) (E : Value → Shared → Prop), Q (.int (g i) s.toks) { s with toks := s.toks + 1 } → wpAny (model X.prog X.w) X.A (f (.int i t)) Q E s) :
    UnR X f (rU fun i => .int (g i)) := by
  intro pins s σ H x v Q I rx h
  obtain ⟨i, rfl, q⟩ := h
  obtain ⟨t, rfl⟩ := rx
  exact rule i t s _ _ ⟨.int (g i), H, I.tok _, ⟨_, rfl⟩, q⟩
theorem un_neg : UnR X (unaryOp .USub) (rU fun i => .int (-i)) := unI fun _ _ _ _ _ q => neg_int q

/-! ### bools among ints: n += (a < b) -/
end

/-! ### comparisons -/
/-- the scalars that == tells apart as data does -/
def scal : V → V → Bool
  | .non, .non => true | .non, .int _ => true | .int _, .non => true | .non, .bl _ => true | .bl _, .non => true | .non, .str _ => true | .str _, .non => true
  | .int _, .int _ => true | .bl _, .bl _ => true | .str _, .str _ => true | .byt _, .byt _ => true
  | .int _, .str _ => true | .str _, .int _ => true | .bl _, .str _ => true | .str _, .bl _ => true
  | _, _ => false
def rEq : R2 := fun x y H Q => scal x y = true ∧ Q (.bl (decide (x = y))) H
def rNe : R2 := fun x y H Q => scal x y = true ∧ Q (.bl (!decide (x = y))) H

theorem dec_int {i j : Int} : decide (V.int i = V.int j) = (i == j) := by
  rw [Bool.eq_iff_iff]
  simp
theorem dec_bl {i j : Bool} : decide (V.bl i = V.bl j) = (i == j) := by
  rw [Bool.eq_iff_iff]
  simp
theorem dec_str {i j : Str} : decide (V.str i = V.str j) = (i == j) := by
  rw [Bool.eq_iff_iff]
  simp
theorem dec_byt {i j : Array UInt8} : decide (V.byt i = V.byt j) = (i.toList == j.toList) := by
  rw [Bool.eq_iff_iff]
  cases i
  cases j
  simp

section
variable {X : Cx} {a b c : Expr} {ta tb tc : TE} {pos : Pos}
theorem fin_bl {pins : List (Addr × Obj)} {σ : St} {H : Hp} {s : Shared} {Q : VK} {k k' : Bool} (I : Inv X pins σ H s) (q : Q (.bl k) H) (e : k = k') : EP X pins σ Q (.bool k') s := by
  subst e
  exact ⟨.bl k, H, I, rfl, q⟩
theorem op_eq : OpR X (compareOp .Eq) rEq := by
  intro pins s σ H x y v u Q I rx ry h
  obtain ⟨hs, q⟩ := h
  cases x with
  | non =>
    cases rx
    cases y with
    | non => cases ry; exact PySem.EqNone.eq_none_none (fin_bl I q (by simp))
    | bl j => cases ry; exact PySem.EqNone.eq_none_bool (fin_bl I q (by simp))
    | int j => obtain ⟨t', rfl⟩ := ry; exact PySem.EqNone.eq_none_int (fin_bl I q (by simp))
    | str j => obtain ⟨t', rfl⟩ := ry; exact PySem.EqNone.eq_none_str (fin_bl I q (by simp))
    | _ => exact absurd (show false = true from hs) Bool.false_ne_true
  | bl i =>
    cases rx
    cases y with
    | non => cases ry; exact PySem.EqNone.eq_bool_none (fin_bl I q (by simp))
    | bl j => cases ry; exact eq_bool (fin_bl I q dec_bl)
    | str j => obtain ⟨t', rfl⟩ := ry; exact PySem.EqMixed.eq_bool_str (fin_bl I q (by simp))
    | _ => exact absurd (show false = true from hs) Bool.false_ne_true
  | int i =>
    obtain ⟨t, rfl⟩ := rx
    cases y with
    | non => cases ry; exact PySem.EqNone.eq_int_none (fin_bl I q (by simp))
    | int j => obtain ⟨t', rfl⟩ := ry; exact eq_int (fin_bl I q dec_int)
    | str j => obtain ⟨t', rfl⟩ := ry; exact PySem.EqMixed.eq_int_str (fin_bl I q (by simp))
    | _ => exact absurd (show false = true from hs) Bool.false_ne_true
  | str i =>
    obtain ⟨t, rfl⟩ := rx
    cases y with
    | non => cases ry; exact PySem.EqNone.eq_str_none (fin_bl I q (by simp))
    | bl j => cases ry; exact PySem.EqMixed.eq_str_bool (fin_bl I q (by simp))
    | int j => obtain ⟨t', rfl⟩ := ry; exact PySem.EqMixed.eq_str_int (fin_bl I q (by simp))
    | str j => obtain ⟨t', rfl⟩ := ry; exact eq_str (fin_bl I q dec_str)
    | _ => exact absurd (show false = true from hs) Bool.false_ne_true
  | byt i =>
    obtain ⟨t, rfl⟩ := rx
    cases y with
    | byt j => obtain ⟨t', rfl⟩ := ry; exact PySem.W.eq_bytes (fin_bl I q dec_byt)
    | _ => exact absurd (show false = true from hs) Bool.false_ne_true
  | _ => cases y <;> exact absurd (show false = true from hs) Bool.false_ne_true
theorem op_ne : OpR X (compareOp .NotEq) rNe := by
  intro pins s σ H x y v u Q I rx ry h
  obtain ⟨hs, q⟩ := h
  cases x with
  | non =>
    cases rx
    cases y with
    | non => cases ry; exact PySem.EqNone.ne_none_none (fin_bl I q (by simp))
    | bl j => cases ry; exact PySem.EqNone.ne_none_bool (fin_bl I q (by simp))
    | int j => obtain ⟨t', rfl⟩ := ry; exact PySem.EqNone.ne_none_int (fin_bl I q (by simp))
    | str j => obtain ⟨t', rfl⟩ := ry; exact PySem.EqNone.ne_none_str (fin_bl I q (by simp))
    | _ => exact absurd (show false = true from hs) Bool.false_ne_true
  | bl i =>
    cases rx
    cases y with
    | non => cases ry; exact PySem.EqNone.ne_bool_none (fin_bl I q (by simp))
    | bl j => cases ry; exact ne_bool (fin_bl I q (congrArg not dec_bl))
    | str j => obtain ⟨t', rfl⟩ := ry; exact PySem.EqMixed.ne_bool_str (fin_bl I q (by simp))
    | _ => exact absurd (show false = true from hs) Bool.false_ne_true
  | int i =>
    obtain ⟨t, rfl⟩ := rx
    cases y with
    | non => cases ry; exact PySem.EqNone.ne_int_none (fin_bl I q (by simp))
    | int j => obtain ⟨t', rfl⟩ := ry; exact ne_int (fin_bl I q (congrArg not dec_int))
    | str j => obtain ⟨t', rfl⟩ := ry; exact PySem.EqMixed.ne_int_str (fin_bl I q (by simp))
    | _ => exact absurd (show false = true from hs) Bool.false_ne_true
  | str i =>
    obtain ⟨t, rfl⟩ := rx
    cases y with
    | non => cases ry; exact PySem.EqNone.ne_str_none (fin_bl I q (by simp))
    | bl j => cases ry; exact PySem.EqMixed.ne_str_bool (fin_bl I q (by simp))
    | int j => obtain ⟨t', rfl⟩ := ry; exact PySem.EqMixed.ne_str_int (fin_bl I q (by simp))
    | str j => obtain ⟨t', rfl⟩ := ry; exact ne_str (fin_bl I q (congrArg not dec_str))
    | _ => exact absurd (show false = true from hs) Bool.false_ne_true
  | byt i =>
    obtain ⟨t, rfl⟩ := rx
    cases y with
    | byt j => obtain ⟨t', rfl⟩ := ry; exact PySem.W.ne_bytes (fin_bl I q (congrArg not dec_byt))
    | _ => exact absurd (show false = true from hs) Bool.false_ne_true
  | _ => cases y <;> exact absurd (show false = true from hs) Bool.false_ne_true

theorem op_lt : OpR X (compareOp .Lt) (rI0 fun i j => .bl (decide (i < j))) := opB0 fun _ _ _ _ _ _ _ q => lt_int q
theorem op_le : OpR X (compareOp .LtE) (rI0 fun i j => .bl (decide (i ≤ j))) := opB0 fun _ _ _ _ _ _ _ q => le_int q
theorem op_gt : OpR X (compareOp .Gt) (rI0 fun i j => .bl (decide (j < i))) := opB0 fun _ _ _ _ _ _ _ q => gt_int q

theorem op_notN : OpR X (compareOp .IsNot) (fun x y H Q => y = .non ∧ Q (.bl (!decide (x = .non))) H) := by
  intro pins s σ H x y v u Q I rx ry h
  obtain ⟨rfl, q⟩ := h
  cases ry
  refine isnot_none_gen (fin_bl I q ?_)
  cases x <;> first
    | (cases rx; rfl)
    | (obtain ⟨t, rfl⟩ := rx; rfl)



theorem nomark (b : Expr) {op : CmpOp} (h : op ≠ .In := by decide) (h2 : op ≠ .NotIn := by decide) : behindInMarks op b = false := by
  have e1 : (op == CmpOp.In) = false := by cases op <;> first | rfl | exact absurd rfl h
  have e2 : (op == CmpOp.NotIn) = false := by cases op <;> first | rfl | exact absurd rfl h2
  cases b <;> simp [behindInMarks, e1, e2]
/-- a comparison as a value; hm: nomark b, or (for in, not in) by with_unfolding_all rfl -/
theorem pe_cmpR {op : CmpOp} {r : R2} (ho : OpR X (compareOp op) r) (ha : PE X a ta) (hb : PE X b tb) (hm : behindInMarks op b = false) : PE X (.Compare a [op] [b] pos) (tOp r ta tb) := by
  intro pins s σ H Q I h
  exact wpAny_Compare1 (binT ha hb I h fun v u s2 x y H2 I2 rx ry q => ho pins s2 σ H2 x y v u Q I2 rx ry q) hm
/-- a reading of a value as a test -/
def tTest (t : TE) : TT := fun σ H Q => t σ H fun x H' => ∃ k, x = .bl k ∧ Q k H'
theorem pt_cmpR {op : CmpOp} {r : R2} (ho : OpR X (compareOp op) r) (ha : PE X a ta) (hb : PE X b tb) (hm : behindInMarks op b = false) : PT X (.Compare a [op] [b] pos) (tTest (tOp r ta tb)) := by
  intro pins s σ H Q I h
  refine wpAny_isTrue_Compare1 (thn (ha pins s σ H _ I h) fun v s1 ⟨x, H1, I1, r1, q1⟩ => thn (hb pins s1 σ H1 _ I1 q1) fun u s2 ⟨y, H2, I2, r2, q2⟩ =>
    thn (ho pins s2 σ H2 x y v u _ I2 r1 r2 q2) fun c s3 ⟨z, H3, I3, r3, k, e, q3⟩ => ?_) hm
  subst e
  cases r3
  exact wpAny_truthy_bool ⟨H3, I3, q3⟩
/-- a op1 b op2 c -/
def tChain (r r' : R2) (ta tb tc : TE) : TE := fun σ H Q => ta σ H fun x H1 => tb σ H1 fun y H2 => r x y H2 fun z H3 => ∃ k, z = .bl k ∧
  (if k = true then tc σ H3 fun w' H4 => r' y w' H4 Q else Q (.bl false) H3)
theorem pe_chain {op op' : CmpOp} {r r' : R2} (ho : OpR X (compareOp op) r) (ho' : OpR X (compareOp op') r') (ha : PE X a ta) (hb : PE X b tb) (hc : PE X c tc)
    (hm : lastMarks [op, op'] [b, c] = false := by with_unfolding_all rfl) : PE X (.Compare a [op, op'] [b, c] pos) (tChain r r' ta tb tc) := by
  intro pins s σ H Q I h
  refine Compare_chain (thn (ha pins s σ H _ I h) fun v s1 ⟨x, H1, I1, r1, q1⟩ => chain_link (thn (hb pins s1 σ H1 _ I1 q1) fun u s2 ⟨y, H2, I2, r2, q2⟩ =>
    thn (ho pins s2 σ H2 x y v u _ I2 r1 r2 q2) fun d s3 ⟨z, H3, I3, r3, k, e, q3⟩ => ?_)) hm
  subst e
  cases r3
  refine wpAny_truthy_bool ?_
  cases k with
  | false => exact ite_ff ⟨.bl false, H3, I3, rfl, q3⟩
  | true => exact ite_tt (chain_last (thn (hc pins s3 σ H3 _ I3 q3) fun w' s4 ⟨z', H4, I4, r4, q4⟩ => ho' pins s4 σ H4 y z' u w' Q I4 r2 r4 q4))

/-! ### truth -/
theorem line63 : (sizeLine : Nat) < 2 ^ 63 := by rw [sizeLine_eq]; decide

/-! ### strs and bytes -/


/-! ### scalar builtins, by CallR -/
theorem vals1 {x : V} {us : List Value} (r : Vals [x] us) : ∃ u, us = [u] ∧ RelV x u := by
  cases r with
  | cons r1 r2 => cases r2; exact ⟨_, rfl, r1⟩
theorem vals2 {x y : V} {us : List Value} (r : Vals [x, y] us) : ∃ u w', us = [u, w'] ∧ RelV x u ∧ RelV y w' := by
  cases r with
  | cons r1 r2 =>
    cases r2 with
    | cons r3 r4 => cases r4; exact ⟨_, _, rfl, r1, r3⟩
theorem call_max2 (hc : X.calm = true) : CallR X (.builtin "max") (fun xs H Q => ∃ i j, xs = [.int i, .int j] ∧ Q (.int (if j > i then j else i)) H) := by
  intro pins s σ H xs us Q I r h
  obtain ⟨i, j, rfl, q⟩ := h
  obtain ⟨u, w', rfl, ⟨t, rfl⟩, ⟨t', rfl⟩⟩ := vals2 r
  refine max_two_ints (I.ok.hd hc) fun h' tk k => ⟨_, H, I.kept k, ?_, q⟩
  by_cases hj : j > i
  · rw [if_pos hj, if_pos hj]; exact ⟨_, rfl⟩
  · rw [if_neg hj, if_neg hj]; exact ⟨_, rfl⟩
theorem call_min2 (hc : X.calm = true) : CallR X (.builtin "min") (fun xs H Q => ∃ i j, xs = [.int i, .int j] ∧ Q (.int (if j < i then j else i)) H) := by
  intro pins s σ H xs us Q I r h
  obtain ⟨i, j, rfl, q⟩ := h
  obtain ⟨u, w', rfl, ⟨t, rfl⟩, ⟨t', rfl⟩⟩ := vals2 r
  refine min_two_ints (I.ok.hd hc) fun h' tk k => ⟨_, H, I.kept k, ?_, q⟩
  by_cases hj : j < i
  · rw [if_pos hj, if_pos hj]; exact ⟨_, rfl⟩
  · rw [if_neg hj, if_neg hj]; exact ⟨_, rfl⟩
theorem call_int1 : CallR X (.type "int") (fun xs H Q => (∃ i, xs = [.int i] ∧ Q (.int i) H) ∨ ∃ k, xs = [.bl k] ∧ Q (.int (if k then 1 else 0)) H) := by
  intro pins s σ H xs us Q I r h
  rcases h with ⟨i, rfl, q⟩ | ⟨k, rfl, q⟩
  · obtain ⟨u, rfl, t, rfl⟩ := vals1 r
    exact call_int_int ⟨.int i, H, I, ⟨_, rfl⟩, q⟩
  · obtain ⟨u, rfl, r1⟩ := vals1 r
    cases r1
    exact call_int_bool ⟨.int (if k then 1 else 0), H, I.tok _, ⟨_, rfl⟩, q⟩
end
end L2

namespace L2
open PySem PySem.Spec PyProof.Rows

/-! ### an instance, its attributes a map -/

theorem lookIn_ns {h : Heap} {dx : Addr} {mA : Str → Option Value} (n : h.Ns1 dx mA) : ∃ od, h.get? dx = some od ∧ ∀ name, PySem.W.lookIn name od = some (mA name) := by
  obtain ⟨o, es, ep, ho, hd, hk, _, hm⟩ := n
  refine ⟨o, ho, fun name => ?_⟩
  have e := hm name
  unfold nsFind findBy at e
  rw [← Array.find?_toList] at e
  unfold PySem.W.lookIn
  rw [hd]
  dsimp only
  split
  · rename_i y q
    rw [q] at e
    exact congrArg some e
  · rename_i q
    rw [q] at e
    have a : es.toList.any (·.refKey) = false := by
      rw [List.any_eq_false]
      intro y hy
      obtain ⟨z, t, hkey⟩ := hk y (Array.mem_toList_iff.mp hy)
      simp [DictEntry.refKey, hkey]
    have a' : ¬ es.toList.any (·.refKey) = true := by rw [a]; exact Bool.false_ne_true
    rw [if_neg a']
    exact congrArg some e


section
variable {prog : Program} {w : World} {A : Around} {E : Value → Shared → Prop} {s : Shared} {K : PySem.W.Frag} {x dx C f : Addr} {mA : Str → Option Value} {name : Str} {v : Value}





end

/-! ### the attributes as a list of pairs -/

theorem RelO.some_of {v : V} {o : Option Value} (r : RelO (some v) o) : ∃ u, o = some u ∧ RelV v u := by
  cases o with
  | none => exact (show False from r).elim
  | some u => exact ⟨u, rfl, r⟩

section
variable {P : Program} {w : World} {H H' : Hp} {h h' : Heap} {a C dx : Addr} {fs fs' : List (Str × V)}
end

/-! ### what of the text a class must have -/

section
variable {X : Cx} {pins : List (Addr × Obj)} {σ : St} {H : Hp} {s : Shared} {a C dx : Addr} {fs : List (Str × V)} {f : Str} {v : V} {A : Around} {E : Value → Shared → Prop}






/-- e.f where nothing but the object is asked: through attributeBase (super) and the last hold -/
theorem attr_of {prog : Program} {w : World} {env : Env} {e : Expr} {f : Str} {pos : Pos} {s : Shared} {Q : Value → Shared → Prop} (hb : attributeBase e f env (eval e env) = eval e env)
    (h : wpAny (model prog w) A (eval e env) (fun o s₁ => wpAny (model prog w) A (getAttr o f true) Q E s₁) E s) : wpAny (model prog w) A (eval (.Attribute e f pos) env) Q E s :=
  Attribute_any_ h (by rw [arm_eval_Attribute, hb])
end

/-! ### readings and rules -/

section
variable {X : Cx} {o e value : Expr} {f : Str} {pos pos' tpos : Pos} {ta tv : TE}

end

/-! ### isinstance -/
section
variable {X : Cx} {pins : List (Addr × Obj)} {σ : St} {H : Hp} {s : Shared} {A : Around} {E : Value → Shared → Prop} {Q : Value → Shared → Prop} {c : Value} {b : Bool}
end
end L2

namespace L2
open PySem PySem.Spec PyProof.Rows

/-! ### room -/
structure Room (k : Nat) (A : Around) : Prop where
  hd : A.handled = none
  dp : A.depth + 3 * k + 5 < recursionLimit
  un : A.units + 16 * k + 200 < cLine
theorem Room.mono {j k : Nat} {A : Around} (r : Room k A) (h : j ≤ k) : Room j A := ⟨r.hd, by have := r.dp; omega, by have := r.un; omega⟩
theorem Room.deeper {k : Nat} {A : Around} (r : Room (k + 1) A) (env : Env) : Room k (A.deeper env) :=
  ⟨r.hd, by have := r.dp; show A.depth + 1 + 3 * k + 5 < _; omega, by have := r.un; show A.units + 3 + 16 * k + 200 < _; omega⟩
theorem make_depth {A : Around} {C : Addr} {us : List Value} {kw : List (Str × Value)} : (A.under (.builtin "type.__call__" ⟨.ref C :: us, kw⟩)).depth = A.depth + 1 := by
  first | rfl | simp [Around.under, Code.weight, Code.isCreation, Code.isGuard, Code.isCaller, Code.frames, Code.isFrame, guardIds]
theorem make_units {A : Around} {C : Addr} {us : List Value} {kw : List (Str × Value)} : (A.under (.builtin "type.__call__" ⟨.ref C :: us, kw⟩)).units = A.units + 1 := by
  first | rfl | simp [Around.under, Code.cUnits, Code.frames, Code.isFrame]
theorem Room.make {k : Nat} {A : Around} (r : Room (k + 1) A) (C : Addr) (us : List Value) (kw : List (Str × Value)) : Room k (A.under (.builtin "type.__call__" ⟨.ref C :: us, kw⟩)) :=
  ⟨r.hd, by have := r.dp; rw [make_depth]; omega, by have := r.un; rw [make_units]; omega⟩
theorem Room.depth {k : Nat} {A : Around} (r : Room k A) : A.depth < recursionLimit := by have := r.dp; omega
theorem Room.units {k : Nat} {A : Around} (r : Room k A) : A.units + 64 < cLine := by have := r.un; omega

/-! ### argument lists and displays -/
def tNil : TA := fun _ H Q => Q [] H
def tCons (ta : TE) (tr : TA) : TA := fun σ H Q => ta σ H fun x H1 => tr σ H1 fun xs H2 => Q (x :: xs) H2
section
variable {X : Cx} {e : Expr} {es : List Expr} {te : TE} {t : TA} {pos : Pos}
theorem pa_nil : PA X [] tNil := fun _ _ _ _ H Q I h => Calls.spliced_nil ⟨[], H, I, .nil, h⟩
theorem pa_cons (ha : PE X e te) (hr : PA X es t) (hs : starEach (e :: es) X.env = (false, eval e X.env) :: starEach es X.env := by rfl) : PA X (e :: es) (tCons te t) := by
  intro pos pins s σ H Q I h
  rw [hs]
  show wpAny _ _ (spliced ((false, eval e X.env) :: backTo pos (starEach es X.env))) _ _ s
  refine Calls.spliced_cons (thn (ha pins s σ H _ I h) fun u s1 ⟨x, H1, I1, r1, q1⟩ => ?_)
  exact thn (hr pos pins s1 σ H1 _ I1 q1) fun us s2 ⟨xs, H2, I2, r2, q2⟩ => ⟨x :: xs, H2, I2, .cons r1 r2, q2⟩

/-- a tuple, a list of written items -/
def tTup (t : TA) : TE := fun σ H Q => t σ H fun xs H1 => xs.length ≤ sizeLine ∧ ∀ p, H1 p = none → Q (.ref p) (upd H1 p (.tup xs))
def tLst (t : TA) : TE := fun σ H Q => t σ H fun xs H1 => xs.length ≤ sizeLine ∧ ∀ p, H1 p = none → Q (.ref p) (upd H1 p (.lst xs))
theorem pe_tup {x1} (h : PA X es t) : PE X (.Tuple es x1 pos) (tTup t) := by
  intro pins s σ H Q I hq
  refine wpAny_Tuple_spliced (thn (h pos pins s σ H _ I hq) fun us s1 ⟨xs, H1, I1, r, z, q⟩ => ⟨by rw [← r.length]; exact z, ?_⟩)
  have hf : H1 s1.heap.objs.size = none := I1.hok.fresh (Nat.le_refl _)
  refine ⟨.ref s1.heap.objs.size, upd H1 s1.heap.objs.size (.tup xs), I1.laid (t' := s1.toks) (fun b u e => Heap.get?_push_of_some _ e) (Nat.le_refl _) ?_, rfl, q _ hf⟩
  exact ⟨z, us, r, ⟨_, Heap.get?_push_size _ rfl, rfl, _, rfl⟩⟩
theorem pe_lst (h : PA X es t) : PE X (.List es pos) (tLst t) := by
  intro pins s σ H Q I hq
  refine wpAny_List_spliced (thn (h pos pins s σ H _ I hq) fun us s1 ⟨xs, H1, I1, r, z, q⟩ => ⟨by rw [← r.length]; exact z, ?_⟩)
  have hf : H1 s1.heap.objs.size = none := I1.hok.fresh (Nat.le_refl _)
  refine ⟨.ref s1.heap.objs.size, upd H1 s1.heap.objs.size (.lst xs), I1.laid (t' := s1.toks) (fun b u e => Heap.get?_push_of_some _ e) (Nat.le_refl _) ?_, rfl, q _ hf⟩
  exact ⟨z, us, 0, r, Heap.get?_push_size _ rfl⟩
end

/-! ### what a def promises -/
/-- a def's promise: the bound arguments in the parameters' order, the heap, the wanted end, the wanted exception -/
abbrev Sp := List V → Hp → VK → XK → Prop
/-- how an exception lies behind a call (file 08 gives it): the callers' frames, abstract heap and state ahead of the call, the wish, the exception, the state -/
abbrev CXT := List Env → Hp → Shared → XK → Value → Shared → Prop

/-- the state at a call -/
structure Env0 (P : Program) (w : World) (K : PySem.W.Frag) (mg : Str → Option Value) (base : Heap) (A : Around) (outer : List Env) (s : Shared) (H : Hp) : Prop where
  frames : A.frames = some outer
  mod : Mod K mg base
  bs : ∀ b o, base.get? b = some o → s.heap.get? b = some o ∧ H b = none
  bsz : base.objs.size ≤ s.heap.objs.size
  funs : s.heap.FunFrames base outer
  frf : ∀ b ∈ frs outer, H b = none
  hok : HOk P w H s.heap
  bare : AllBare s.gens
/-- a call's end -/
def CE (outer : List Env) (P : Program) (w : World) (H : Hp) (s : Shared) (Q : VK) (u : Value) (s' : Shared) : Prop :=
  ∃ v H', s'.os = s.os ∧ AllBare s'.gens ∧ Un (frs outer) [] H H' s.heap s'.heap ∧ HOk P w H' s'.heap ∧ RelV v u ∧ Q v H'
def CR (CX : CXT) (outer : List Env) (P : Program) (w : World) (H : Hp) (s : Shared) (Q : VK) (E : XK) (r : Result) (s' : Shared) : Prop :=
  match r with
  | .ok (.ret u) => CE outer P w H s Q u s'
  | .ok _ => False
  | .error e => CX outer H s E e s'
structure FnOk (P : Program) (w : World) (K : PySem.W.Frag) (mg : Str → Option Value) (base : Heap) (CX : CXT) (k : Nat) (f : Addr) (fd : FuncData) (ps : List Str) (sp : Sp) : Prop where
  len : ∀ vs H Q E, sp vs H Q E → vs.length = ps.length
  run : ∀ (A : Around) (outer : List Env) (s : Shared) (H : Hp) (args : Args) (us : List Value) (vs : List V) (Q : VK) (E : XK), Room k A → Env0 P w K mg base A outer s H → BindsTo s fd args (ps.zip us) → Vals vs us → sp vs H Q E →
    codeAny (model P w) A (.call (.ref f) args) (CR CX outer P w H s Q E) s

theorem Env0.make {P : Program} {w : World} {K : PySem.W.Frag} {mg : Str → Option Value} {base : Heap} {A : Around} {outer : List Env} {s : Shared} {H : Hp} (e : Env0 P w K mg base A outer s H) (C : Addr) (us : List Value) (kw : List (Str × Value)) :
    Env0 P w K mg base (A.under (.builtin "type.__call__" ⟨.ref C :: us, kw⟩)) outer s H := ⟨by first | exact e.frames | (simpa [Around.under, Code.envs, Code.isFrame, pushEnvs] using e.frames), e.mod, e.bs, e.bsz, e.funs, e.frf, e.hok, e.bare⟩

section
variable {X : Cx} {pins : List (Addr × Obj)} {σ : St} {H : Hp} {s s' : Shared}
/-- from a body: what a callee wants -/
theorem Inv.env0 (I : Inv X pins σ H s) : Env0 X.prog X.w X.K X.mg X.base X.A X.stack s H :=
  ⟨I.ok.frames, I.ok.mod, I.bs, Nat.le_trans I.ok.bsz I.sz, I.stack, I.stkFree, I.hok, I.bare⟩
/-- behind a call -/
theorem Inv.after {Q : VK} {u : Value} (I : Inv X pins σ H s) (h : CE X.stack X.prog X.w H s Q u s') : EP X pins σ Q u s' := by
  obtain ⟨v, H', os, bare, un, hok, r, q⟩ := h
  obtain ⟨hh, g, d, t, os'⟩ := s'
  obtain rfl : os' = s.os := os
  exact ⟨v, H', I.call (h' := hh) (g' := g) (d' := d) (t' := t) (ch := []) un hok bare (fun b z => absurd z (by simp)), r, q⟩
end

/-! ### calls -/
/-- f(..): the written arguments, then the defaults dvs; E: what is wanted of an exception -/
def tCall (sp : Sp) (dvs : List V) (E : XK) (t : TA) : TE := fun σ H Q => t σ H fun vs H1 => sp (vs ++ dvs) H1 Q E

/-- how the parameters are bound: us the positional arguments, kw the keywords' values by name, ds the defaults that fill up -/
def Binds (K : PySem.W.Frag) (fd : FuncData) (ps : List Str) (ds : List Value) : Prop :=
  ∀ (s : Shared) (us : List Value), K.In s.heap → (us ++ ds).length = ps.length → BindsTo s fd ⟨us, []⟩ (ps.zip (us ++ ds))
/-- every parameter is given -/
theorem Binds.all {K : PySem.W.Frag} {fd : FuncData} {ps : List Str} (h : ∀ us : List Value, us.length = ps.length → bindArgs fd ⟨us, []⟩ = pure (ps.zip us)) : Binds K fd ps [] := fun s us _ hl => by
  rw [List.append_nil] at hl ⊢
  exact .of_eq (h us hl)

/-- an exception of a callee reaches what this body wants of exceptions -/
def Passes (CX : CXT) (X : Cx) (E : XK) : Prop := ∀ (pins : List (Addr × Obj)) (σ : St) (H : Hp) (s : Shared) (e : Value) (s' : Shared), Inv X pins σ H s → CX X.stack H s E e s' → X.xe e s'

section
variable {X : Cx} {CX : CXT} {k : Nat} {f C : Addr} {fd : FuncData} {ps : List Str} {sp : Sp} {dvs : List V} {ds : List Value} {E : XK} {x m : Str} {p pos apos : Pos} {e o : Expr} {es : List Expr} {ta : TE} {t : TA}

/-- the callee runs -/
theorem run_fn {pins : List (Addr × Obj)} {σ : St} {H : Hp} {s : Shared} {Q : VK} {us : List Value} {vs : List V} (F : FnOk X.prog X.w X.K X.mg X.base CX k f fd ps sp) (hr : Room k X.A) (hb : Binds X.K fd ps ds) (hd : Vals dvs ds) (hx : Passes CX X E)
    (I : Inv X pins σ H s) (r : Vals vs us) (h : sp (vs ++ dvs) H Q E) : wpAny (model X.prog X.w) X.A (call (.ref f) us) (EP X pins σ Q) X.xe s := by
  have r2 : Vals (vs ++ dvs) (us ++ ds) := r.append hd
  have hl : (us ++ ds).length = ps.length := by rw [← r2.length]; exact F.len _ _ _ _ h
  refine wpAny_call (codeAny_mono (F.run X.A X.stack s H ⟨us, []⟩ (us ++ ds) (vs ++ dvs) Q E hr I.env0 (hb s us I.kIn hl) r2 h) fun r s' hq => ?_)
  cases r with
  | error e => exact hx pins σ H s e s' I hq
  | ok fl =>
    cases fl with
    | ret u => exact I.after hq
    | next => exact False.elim hq
    | brk => exact False.elim hq
    | cont => exact False.elim hq

theorem pe_call (F : FnOk X.prog X.w X.K X.mg X.base CX k f fd ps sp) (hr : Room k X.A) (hg : Gl X x) (hm : X.mg x = some (.ref f)) (hk : PySem.W.keepIn X.K (.ref f) = true) (hb : Binds X.K fd ps ds) (hd : Vals dvs ds) (hx : Passes CX X E)
    (ha : PA X (e :: es) t) (hdb : (x == ("__debug__" : Str)) = false := by decide) (he : starEach (e :: es) X.env = (false, eval e X.env) :: starEach es X.env := by rfl) (hpl : (backTo pos (starEach es X.env)).any (·.1) = false := by rfl) :
    PE X (.Call (.Name x p) (e :: es) [] pos) (tCall sp dvs E t) := by
  intro pins s σ H Q I h
  refine wpAny_Call_Name_kw (ld_glob I hg hm ?_ hdb)
  refine PySem.W.callWith_K (h₀ := X.base) I.ok.mod.kin hk (thn (ha pos pins s σ H _ I h) fun us s1 ⟨vs, H1, I1, r, q⟩ => ⟨I1.kIn, ?_⟩) he hpl
  exact run_fn F hr hb hd hx I1 r q



end

/-! ### keywords -/
section
variable {X : Cx} {CX : CXT} {k : Nat} {f C : Addr} {fd : FuncData} {ps ks : List Str} {sp : Sp} {E : XK} {x m : Str} {p pos apos kpos : Pos} {e o : Expr} {es : List Expr} {kws : List Keyword} {te ta : TE} {t tk : TA} {nm : Option Str}

variable {g : List Value → List Value → List Value} {gV : List V → List V → List V}
end

/-! ### a def's body keeps its promise -/
/-- names: the parameters first -/
structure FnScope (N P : List Str) (sc : Scope) : Prop where
  kind : sc.kind = .function
  co : sc.isCoroutine = false
  gen : sc.isGenerator = false
  nd : N.Nodup
  pre : N.take P.length = P
  par : ∀ x ∈ P, sc.names.lookup x = some .local ∨ sc.names.lookup x = some .cell
  nofree : ∀ y ∈ sc.names, y.2 ≠ .free

theorem bindL_out {kindOf : Str → Option NameKind} {x : Str} : ∀ {binds : List (Str × Value)} {m : Str → Option Value}, (∀ v, (x, v) ∉ binds) → bindL kindOf binds m x = m x
  | [], _, _ => rfl
  | (n, v) :: r, m, h => by
    unfold bindL
    rw [bindL_out fun w hw => h w (List.mem_cons_of_mem _ hw)]
    split
    · have : x ≠ n := by rintro rfl; exact h v List.mem_cons_self
      simp [this]
    · rfl
theorem bindC_out {kindOf : Str → Option NameKind} {x : Str} : ∀ {binds : List (Str × Value)} {m : Str → Option Value}, (∀ v, (x, v) ∉ binds) → bindC kindOf binds m x = m x
  | [], _, _ => rfl
  | (n, v) :: r, m, h => by
    unfold bindC
    rw [bindC_out fun w hw => h w (List.mem_cons_of_mem _ hw)]
    split
    · rfl
    · have : x ≠ n := by rintro rfl; exact h v List.mem_cons_self
      simp [this]
theorem bindL_get {kindOf : Str → Option NameKind} {x : Str} {v : Value} : ∀ {P : List Str} {vs : List Value} {i : Nat} {m : Str → Option Value}, P.Nodup → P[i]? = some x → vs[i]? = some v → kindOf x = some .local →
    bindL kindOf (P.zip vs) m x = some v
  | [], _, _, _, _, h, _, _ => by simp at h
  | _ :: _, [], _, _, _, _, h, _ => by simp at h
  | p :: P, w :: vs, 0, m, nd, h1, h2, hk => by
    simp at h1 h2; subst h1; subst h2
    show bindL kindOf ((p, w) :: P.zip vs) m p = _
    unfold bindL
    rw [bindL_out fun v hv => (List.nodup_cons.mp nd).1 (List.of_mem_zip hv).1, if_pos hk]
    simp
  | p :: P, w :: vs, i + 1, m, nd, h1, h2, hk => by
    show bindL kindOf ((p, w) :: P.zip vs) m x = _
    unfold bindL
    exact bindL_get (i := i) (List.nodup_cons.mp nd).2 (by simpa using h1) (by simpa using h2) hk
theorem bindC_get {kindOf : Str → Option NameKind} {x : Str} {v : Value} : ∀ {P : List Str} {vs : List Value} {i : Nat} {m : Str → Option Value}, P.Nodup → P[i]? = some x → vs[i]? = some v → kindOf x ≠ some .local →
    bindC kindOf (P.zip vs) m x = some v
  | [], _, _, _, _, h, _, _ => by simp at h
  | _ :: _, [], _, _, _, _, h, _ => by simp at h
  | p :: P, w :: vs, 0, m, nd, h1, h2, hk => by
    simp at h1 h2; subst h1; subst h2
    show bindC kindOf ((p, w) :: P.zip vs) m p = _
    unfold bindC
    rw [bindC_out fun v hv => (List.nodup_cons.mp nd).1 (List.of_mem_zip hv).1, if_neg hk]
    simp
  | p :: P, w :: vs, i + 1, m, nd, h1, h2, hk => by
    show bindC kindOf ((p, w) :: P.zip vs) m x = _
    unfold bindC
    exact bindC_get (i := i) (List.nodup_cons.mp nd).2 (by simpa using h1) (by simpa using h2) hk

/-- the names' values at the entry -/
def start (N : List Str) (vs : List V) : St := vs.map some ++ List.replicate (N.length - vs.length) none

/-- the context of a def's body, at its entry; an exception leaves the frame, then lies as CX says -/
def cxOf (CX : CXT) (P : Program) (w : World) (K : PySem.W.Frag) (mg : Str → Option Value) (base : Heap) (N : List Str) (qual : Str) (scope : Scope) (f : Addr) (cd : Value) (A : Around) (outer : List Env) (s : Shared) (H : Hp) (E : XK) : Cx where
  prog := P
  w := w
  K := K
  mg := mg
  base := base
  A := A.deeper (envOfC qual scope s.heap.objs.size f cd)
  N := N
  s₀ := s
  H₀ := H
  env := envOfC qual scope s.heap.objs.size f cd
  outer := outer
  stack := envOfC qual scope s.heap.objs.size f cd :: outer
  ex := []
  calm := true
  fn := fun _ => true
  pn := []
  xe := fun e s' => wpAny (model P w) (A.deeper (envOfC qual scope s.heap.objs.size f cd)) (leaving (envOfC qual scope s.heap.objs.size f cd) e) (fun _ s'' => CX outer H s E e s'') (fun e' s'' => CX outer H s E e' s'') s'

theorem cell_has {sc : Scope} {n : Nat} {x : Str} (h : sc.names.lookup x = some .cell) : ∃ c, (cellsFrom n sc.names []).lookup x = some c := by
  have q := PySem.W.cellsFrom_some sc.names n [] (.inl h)
  exact Option.isSome_iff_exists.mp q

theorem inv_start {CX : CXT} {P : Program} {w : World} {K : PySem.W.Frag} {mg : Str → Option Value} {base : Heap} {N ps : List Str} {qual : Str} {scope : Scope} {f : Addr} {cd : Value} {A : Around} {outer : List Env} {s s1 : Shared} {H : Hp} {E : XK} {us : List Value} {vs : List V}
    (S : FnScope N ps scope) (hd : A.handled = none) (e0 : Env0 P w K mg base A outer s H) (hl : vs.length = ps.length) (r : Vals vs us)
    (x : InCallC s s.heap.objs.size (bindL (envOfC qual scope s.heap.objs.size f cd).kindOf (ps.zip us) fun _ => none) (cellsFrom (s.heap.objs.size + 1) scope.names []) (bindC (envOfC qual scope s.heap.objs.size f cd).kindOf (ps.zip us) fun _ => none) s1) :
    Inv (cxOf CX P w K mg base N qual scope f cd A outer s H E) [] (start N vs) H s1 := by
  have hpl : ps.length ≤ N.length := by have := congrArg List.length S.pre; rw [List.length_take] at this; omega
  obtain ⟨h1, tk, rfl, hk⟩ := x.done
  have noA : ∀ b : Addr, b ∉ (cxOf CX P w K mg base N qual scope f cd A outer s H E).ex := fun b z => absurd (show b ∈ ([] : List Addr) from z) (by simp)
  refine ⟨⟨e0.mod, S.kind, rfl, rfl, Nat.le_refl _, fun y z c h1 h2 => ?_, fun y hy => ?_, fun y c _ h => ?_, fun _ => hd, Around.frames_deeper e0.frames, .inr ⟨rfl, rfl⟩, fun b z => absurd z (noA b), e0.bs, e0.bsz, fun b _ _ => noA b, fun b z => absurd z (noA b), e0.funs, e0.frf⟩,
    rfl, e0.bare, Un.kept hk, ⟨_, x.toInCall.ns, fun i y v h1 h2 h3 => ?_⟩, fun y c h => ⟨_, x.cell y c h⟩, e0.hok.fresh (Nat.le_refl _), fun y c h => ?_, fun p hp => absurd (show p ∈ ([] : List (Addr × Obj)) from hp) (by simp), e0.hok.kept hk, ?_⟩
  · exact name_of_addr x.apart (PySem.mem_of_lookup h1) (PySem.mem_of_lookup h2)
  · have hy : scope.names.lookup y = some .cell ∨ scope.names.lookup y = some .free := hy
    rcases hy with hy | hy
    · exact cell_has hy
    · exact absurd rfl (S.nofree _ (PySem.mem_of_lookup hy))
  · exact Nat.le_of_lt (x.above y c (PySem.mem_of_lookup h))
  · have hi : i < vs.length := by
      unfold start at h2
      by_cases hi : i < vs.length
      · exact hi
      · rw [List.getElem?_append_right (by simpa using hi)] at h2
        rw [List.getElem?_replicate] at h2
        split at h2 <;> cases h2
    have ha : vs[i]? = some v := by
      unfold start at h2
      rw [List.getElem?_append_left (by simpa using hi), List.getElem?_map] at h2
      cases e : vs[i]? with
      | none => rw [e] at h2; cases h2
      | some a => rw [e] at h2; cases h2; rfl
    obtain ⟨u, hu, rv⟩ := r.get ha
    have hp : ps[i]? = some y := by
      rw [← S.pre, List.getElem?_take_of_lt (by omega)]; exact h1
    have ndP : ps.Nodup := by rw [← S.pre]; exact S.nd.sublist (List.take_sublist _ _)
    refine ⟨u, rv, ?_⟩
    rcases S.par y (List.mem_of_getElem? hp) with k | k
    · exact .inl ⟨k, bindL_get ndP hp hu k⟩
    · obtain ⟨c, e⟩ := cell_has (n := s.heap.objs.size + 1) k
      refine .inr ⟨.inl k, c, e, ?_⟩
      have q := x.cell y c e
      rw [bindC_get ndP hp hu (by show scope.names.lookup y ≠ _; rw [k]; decide)] at q
      exact q
  · exact e0.hok.fresh (Nat.le_of_lt (x.above y c (PySem.mem_of_lookup h)))
  · unfold start
    show _ = N.length
    rw [List.length_append, List.length_map, List.length_replicate]
    omega

/-- THE RULE: a def (or a method) of the text, by its body. The body's reading t is chosen for each entry; it is run at the parameters' values -/
theorem fn_of {CX : CXT} {P : Program} {w : World} {K : PySem.W.Frag} {mg : Str → Option Value} {base : Heap} {k : Nat} {f : Addr} {name qual : Str} {params : Arguments} {body : List Stmt} {scope : Scope} {dV kV doc pm cdv ct oc : Value} {an od : Option Addr}
    {osl : Array (Option Value)} {N ps : List Str} {sp : Sp} (lk : K.lookup f = some ⟨oc, od, .func (PySem.W.fnOf name qual params body scope dV kV doc pm an cdv ct), osl⟩) (hcd : PySem.W.codeIn K cdv qual = true) (S : FnScope N ps scope)
    (len : ∀ vs H Q E, sp vs H Q E → vs.length = ps.length)
    (hbody : ∀ (A : Around) (outer : List Env) (s : Shared) (H : Hp) (vs : List V) (Q : VK) (E : XK), Room k (A.deeper (envOfC qual scope s.heap.objs.size f cdv)) → sp vs H Q E →
      ∃ t, PSs (cxOf CX P w K mg base N qual scope f cdv A outer s H E) body t ∧ t { nx := fun _ H' => Q .non H', rt := Q } (start N vs) H) :
    FnOk P w K mg base CX (k + 1) f (PySem.W.fnOf name qual params body scope dV kV doc pm an cdv ct) ps sp := by
  refine ⟨len, fun A outer s H args us vs Q E hr e0 hb r hsp => ?_⟩
  have hl := len _ _ _ _ hsp
  have KX : K.In s.heap := e0.mod.kin.keeps fun b o e => (e0.bs b o e).1
  have lim : s.heap.NoLimit := e0.mod.nolimit.keeps fun b o e => (e0.bs b o e).1
  have hkind : ∀ y ∈ ps.zip us, scope.names.lookup y.1 = some .local ∨ (scope.names.lookup y.1 = some .cell ∧ ((cellsFrom (s.heap.objs.size + 1) scope.names []).lookup y.1).isSome = true) := fun ⟨n, v⟩ hy => by
    rcases S.par n (List.of_mem_zip hy).1 with q | q
    · exact .inl q
    · exact .inr ⟨q, PySem.W.cellsFrom_some _ _ _ (.inl q)⟩
  refine codeAny_call_function hr.depth (KX _ _ lk) rfl S.co S.gen rfl (PySem.W.codeRec_of KX hcd) (hb _ _ _ _ ?_)
  refine wpAny_newFunctionEnv_cells S.kind hkind fun env he s1 x => ?_
  subst he
  refine ⟨lim.keeps x.toInCall.keep, codeAny_func ?_⟩
  obtain ⟨t, ht, hq⟩ := hbody A outer s H vs Q E (hr.deeper _) hsp
  have I : Inv (cxOf CX P w K mg base N qual scope f cdv A outer s H E) [] (start N vs) H s1 := inv_start S hr.hd e0 hl r x
  refine wpAny_mono (ht [] s1 (start N vs) H _ I hq) (fun fl s' hs => ?_) fun e s' hs => hs
  have fin : ∀ {σ' : St} {H' : Hp} {v : V} {u : Value}, Inv (cxOf CX P w K mg base N qual scope f cdv A outer s H E) [] σ' H' s' → RelV v u → Q v H' → CE outer P w H s Q u s' :=
    fun {σ' H' v u} J rv q => ⟨v, H', J.os, J.bare, J.base, J.hok, rv, q⟩
  cases fl with
  | ret u =>
    obtain ⟨v, σ', H', J, rv, q⟩ := hs
    exact fin J rv q
  | next =>
    obtain ⟨σ', H', J, q⟩ := hs
    exact fin (v := V.non) (u := Value.none) J rfl q
  | brk =>
    obtain ⟨_, _, _, q⟩ := hs
    exact False.elim q
  | cont =>
    obtain ⟨_, _, _, q⟩ := hs
    exact False.elim q
end L2

namespace L2
open PySem PySem.Spec PyProof.Rows
section
variable {X : Cx} {x : Str} {p pos : Pos} {e : Expr} {es : List Expr} {t : TA} {id T : String} {r : List V → Hp → VK → Prop}

def tCB (r : List V → Hp → VK → Prop) (t : TA) : TE := fun σ H Q => t σ H fun vs H1 => r vs H1 Q
/-- f(e, ..), f a built-in function -/
theorem pe_callB (hc : CallR X (.builtin id) r) (hg : Gl X x) (hm : X.mg x = none) (hv : bootBuiltins x = some (.builtin id)) (ha : PA X (e :: es) t) (hn : x ≠ "__name__" := by decide) (hdb : (x == ("__debug__" : Str)) = false := by decide)
    (he : starEach (e :: es) X.env = (false, eval e X.env) :: starEach es X.env := by rfl) (hpl : (backTo pos (starEach es X.env)).any (·.1) = false := by rfl) : PE X (.Call (.Name x p) (e :: es) [] pos) (tCB r t) := by
  intro pins s σ H Q I h
  refine wpAny_Call_Name_kw (ld_blt I hg hm hv ?_ hn hdb)
  exact PyProof.Rows.callWith_builtin1 (thn (ha pos pins s σ H _ I h) fun us s1 ⟨vs, H1, I1, r1, q1⟩ => hc pins s1 σ H1 vs us Q I1 r1 q1) he hpl
/-- T(e, ..), T a built-in type -/
theorem pe_callTy (hc : CallR X (.type T) r) (hg : Gl X x) (hm : X.mg x = none) (hv : bootBuiltins x = some (.type T)) (ha : PA X (e :: es) t) (hn : x ≠ "__name__" := by decide) (hdb : (x == ("__debug__" : Str)) = false := by decide)
    (he : starEach (e :: es) X.env = (false, eval e X.env) :: starEach es X.env := by rfl) (hpl : (backTo pos (starEach es X.env)).any (·.1) = false := by rfl) : PE X (.Call (.Name x p) (e :: es) [] pos) (tCB r t) := by
  intro pins s σ H Q I h
  refine wpAny_Call_Name_kw (ld_blt I hg hm hv ?_ hn hdb)
  exact PyProof.Rows.callWith_type1 (thn (ha pos pins s σ H _ I h) fun us s1 ⟨vs, H1, I1, r1, q1⟩ => hc pins s1 σ H1 vs us Q I1 r1 q1) he hpl
end
end L2

namespace HT
open PySem PyProof.Rows



section
open PySem.SeqAt
open PySem.AutoSeq1 (wpAny_loadPart')
open PySem.MeetsSeq PySem.MeetsSeq2 PySem.MeetsSeq3

end

section
variable {prog : Program} {w : World} {A : Around} {E : Value → Shared → Prop} {s : Shared}


/-- t + u, t not empty -/
theorem cat_tup {t b : Addr} {vs ws : List Value} {Q : Value → Shared → Prop} (ht : IsTup s.heap t vs.toArray) (hb : IsTup s.heap b ws.toArray) (hv : vs ≠ [])
    (h1 : ws = [] → Q (.ref t) s) (h2 : ws ≠ [] → Q (.ref s.heap.objs.size) { s with heap := s.heap.push { cls := .type "tuple", data := .seq (vs ++ ws).toArray } })
    (hsz : vs.length + ws.length ≤ sizeLine) : wpAny (model prog w) A (binaryOp .Add (.ref t) (.ref b)) Q E s := by
  obtain ⟨⟨cls, dd, data, sl⟩, ho, hc, n, hd⟩ := id ht
  obtain ⟨⟨cls2, dd2, data2, sl2⟩, ho2, hc2, n2, hd2⟩ := id hb
  simp only at hc hd hc2 hd2
  subst hc hd hc2 hd2
  have e : vs.toArray ++ ws.toArray = (vs ++ ws).toArray := by simp
  by_cases hw : ws = []
  · exact concat_meets ⟨_, ho, rfl⟩ ⟨_, ho2, rfl⟩ noFill_tuple_add seq_tuple_add PySem.F.slot_tuple_add PySem.F.entry_tuple_add (PySem.F.args_tuple_add_2 _ _)
      (tuple_addW1 t b vs.toArray ws.toArray n n2 dd dd2 sl sl2 (by simpa using hv) (by simp [hw])) ⟨ho, ho2, h1 hw⟩
  · refine concat_meets ⟨_, ho, rfl⟩ ⟨_, ho2, rfl⟩ noFill_tuple_add seq_tuple_add PySem.F.slot_tuple_add PySem.F.entry_tuple_add (PySem.F.args_tuple_add_2 _ _)
      (tuple_addW2 t b vs.toArray ws.toArray n n2 dd dd2 sl sl2 (by simpa using hv) (by simpa using hw) (by rw [List.size_toArray, List.size_toArray]; exact hsz)) ⟨ho, ho2, ?_⟩
    rw [e]
    exact h2 hw

/-! ### t[a:b], not the whole -/
/-- a slice's bound as a place among n (d where it is left out) -/
def sIx (n d : Nat) : Option Int → Nat
  | none => d
  | some v => if v < 0 then (v + (n : Int)).toNat else min v.toNat n
theorem sIx_nat (n d k : Nat) : sIx n d (some (k : Int)) = min k n := by
  show (if (k : Int) < 0 then ((k : Int) + (n : Int)).toNat else min (k : Int).toNat n) = min k n
  rw [if_neg (by omega), Int.toNat_natCast]
theorem sIx_le (n d : Nat) (hd : d ≤ n) (o : Option Int) : sIx n d o ≤ n := by
  cases o with
  | none => exact hd
  | some v =>
    show (if v < 0 then (v + (n : Int)).toNat else min v.toNat n) ≤ n
    by_cases hv : v < 0
    · rw [if_pos hv]; omega
    · rw [if_neg hv]; exact Nat.min_le_right _ _
theorem clip_eq (v : Int) (n d : Nat) : (if v < 0 then max (v + (n : Int)) 0 else min v (n : Int)) = ((sIx n d (some v) : Nat) : Int) := by
  show (if v < 0 then max (v + (n : Int)) 0 else min v (n : Int)) = (((if v < 0 then (v + (n : Int)).toNat else min v.toNat n) : Nat) : Int)
  by_cases hv : v < 0
  · simp only [if_pos hv]; omega
  · simp only [if_neg hv]; omega
theorem adjust_gen (lo hi : Option Int) (n : Nat) : Builtin.Slice.sliceAdjust lo hi 1 (n : Int) = (((sIx n 0 lo : Nat) : Int), ((sIx n n hi : Nat) : Int)) := by
  have h1 : ¬ ((1 : Int) < 0) := by omega
  unfold Builtin.Slice.sliceAdjust
  simp only [h1, if_false]
  refine Prod.ext ?_ ?_
  · cases lo with
    | none => rfl
    | some v => exact clip_eq v n 0
  · cases hi with
    | none => rfl
    | some v => exact clip_eq v n n
theorem places_gen (i j : Nat) : Builtin.Slice.slicePlaces (i : Int) (j : Int) 1 = j - i := by
  unfold Builtin.Slice.slicePlaces
  have h1 : (1 : Int) > 0 := by omega
  simp only [h1, if_true, Int.ediv_one]
  split <;> omega
theorem slicePart_ {v : Value} {o : Option Int} {Q : Option Int → Shared → Prop} (p : IsPart v o) (h : Q o s) : wpAny (model prog w) A (Builtin.Slice.slicePartIndex v) Q E s := by
  cases p with
  | none => exact slicePart_none h
  | int i t => exact slicePart_int h
theorem sliceApplied_gen {sl : Addr} {vl vu : Value} {lo hi : Option Int} {n : Nat} {Q : Int × Int × Nat → Shared → Prop} (hs : s.heap.IsSliceOf sl vl vu .none) (pl : IsPart vl lo) (pu : IsPart vu hi)
    (h : Q (((sIx n 0 lo : Nat) : Int), 1, sIx n n hi - sIx n 0 lo) s) : wpAny (model prog w) A (Builtin.Slice.sliceApplied (.ref sl) (pure (n : Int))) Q E s := by
  obtain ⟨os, hos, hcs, hds⟩ := id hs
  unfold Builtin.Slice.sliceApplied Builtin.Slice.sliceFields
  refine wpAny_bind (wpAny_bind (wpAny_field hos hds (x := vl) rfl (wpAny_bind (wpAny_field hos hds (x := vu) rfl (wpAny_bind (wpAny_field hos hds (x := .none) rfl (wpAny_pure ?_)))))))
  refine wpAny_bind (slicePart_none ?_)
  show wpAny _ _ (if ((1 : Int) == 0) = true then _ else _) _ _ s
  rw [if_neg (by decide)]
  refine wpAny_bind (slicePart_ pl (wpAny_bind (slicePart_ pu (wpAny_bind (wpAny_pure ?_)))))
  show wpAny _ _ (match Builtin.Slice.sliceAdjust lo hi 1 (n : Int) with | (lo, hi) => pure (lo, (1 : Int), Builtin.Slice.slicePlaces lo hi 1)) _ _ s
  rw [adjust_gen lo hi n]
  show wpAny _ _ (pure (((sIx n 0 lo : Nat) : Int), (1 : Int), Builtin.Slice.slicePlaces ((sIx n 0 lo : Nat) : Int) ((sIx n n hi : Nat) : Int) 1)) _ _ s
  rw [places_gen]
  exact wpAny_pure h
theorem pick_gen (xs : Array Value) (i k : Nat) : ((List.range k).filterMap fun (m : Nat) => xs[((i : Int) + (m : Int) * 1).toNat]?).toArray = ((xs.toList.drop i).take k).toArray := by
  have e : (fun (m : Nat) => xs[((i : Int) + (m : Int) * 1).toNat]?) = fun m => xs[i + m]? := by
    funext m
    have : ((i : Int) + (m : Int) * 1).toNat = i + m := by omega
    rw [this]
  rw [e]
  have := pick_run xs i k
  rw [List.filterMap_map] at this
  have e2 : ((fun x => xs[x]?) ∘ fun x => i + x) = fun m => xs[i + m]? := rfl
  rw [e2] at this
  rw [this]

theorem getItem_tuple_cut {t sl : Addr} {items : Array Value} {vl vu : Value} {lo hi : Option Int} {Q : Value → Shared → Prop} (ht : IsTup s.heap t items) (hs : s.heap.IsSliceOf sl vl vu .none) (pl : IsPart vl lo) (pu : IsPart vu hi)
    (hw : ¬ (sIx items.size 0 lo = 0 ∧ sIx items.size items.size hi = items.size))
    (h : Q (.ref s.heap.objs.size) { s with heap := s.heap.push { cls := .type "tuple", data := .seq ((items.toList.drop (sIx items.size 0 lo)).take (sIx items.size items.size hi - sIx items.size 0 lo)).toArray } })
    (hsz : items.size ≤ sizeLine) : wpAny (model prog w) A (getItem (.ref t) (.ref sl)) Q E s := by
  have htake : sizeOk (.seq ((items.toList.drop (sIx items.size 0 lo)).take (sIx items.size items.size hi - sIx items.size 0 lo)).toArray) := by
    show ((items.toList.drop (sIx items.size 0 lo)).take (sIx items.size items.size hi - sIx items.size 0 lo)).toArray.size ≤ sizeLine
    rw [List.size_toArray, List.length_take, List.length_drop, Array.length_toList]
    omega
  have hj : sIx items.size items.size hi ≤ items.size := sIx_le _ _ (Nat.le_refl _) hi
  obtain ⟨os, hos, hcs, hds⟩ := id hs
  have hTs : s.TypeIs (.ref sl) "slice" := ⟨os, hos, hcs⟩
  unfold getItem
  try with_reducible refine wpAny_holding ?_
  first | refine wpAny_bind (wpAny_pure ?_) | skip
  refine wpAny_bind (wpAny_sequenceKey ht.typeIs (by decide) ?_)
  refine wpAny_bind (wpAny_callSpecial?_slot (name := Str.ofString "__getitem__") ht.typeIs PyProof.Rows.slot_tuple_getitem
    (wpAny_call_entry PyProof.Rows.slot_tuple_getitem ht.typeIs entry_tuple_getitem ?_ (args_tuple_getitem _ _)))
  show wpAny _ _ (Builtin.Tuple.tupleItemsOf (.ref t) >>= _) _ _ s
  refine wpAny_bind (tupleItemsOf_ ht ?_)
  refine wpAny_bind (wpAny_typeOf hTs ?_)
  rw [if_pos (by decide)]
  refine wpAny_bind (sliceApplied_gen hs pl pu ?_)
  have hno : ¬ ((((sIx items.size 0 lo : Nat) : Int) == 0 && (1 : Int) == 1 && (sIx items.size items.size hi - sIx items.size 0 lo) == items.size) = true) := by
    intro q
    rw [Bool.and_eq_true, Bool.and_eq_true] at q
    have q1 : ((sIx items.size 0 lo : Nat) : Int) = 0 := eq_of_beq q.1.1
    have q2 : sIx items.size items.size hi - sIx items.size 0 lo = items.size := eq_of_beq q.2
    exact hw ⟨by omega, by omega⟩
  show wpAny _ _ (if (((sIx items.size 0 lo : Nat) : Int) == 0 && (1 : Int) == 1 && (sIx items.size items.size hi - sIx items.size 0 lo) == items.size) = true then _ else _) _ _ s
  rw [if_neg hno, pick_gen]
  first
    | exact wpAny_bind (m := Builtin.Tuple.tupleExact _) (wpAny_newObj_type (wpAny_pure ⟨_, rfl, wpAny_pure h⟩) htake)
    | exact wpAny_bind (m := Builtin.Tuple.tupleExact _) (wpAny_newObj_type (wpAny_bind (wpAny_pure (wpAny_pure ⟨_, rfl, wpAny_pure h⟩))) htake)
    | exact wpAny_bind (wpAny_bind (m := Builtin.Tuple.tupleExact _) (wpAny_newObj_type (wpAny_pure (wpAny_pure ⟨_, rfl, wpAny_pure h⟩)) htake))
    | exact wpAny_bind (wpAny_bind (m := Builtin.Tuple.tupleExact _) (wpAny_newObj_type (wpAny_pure ⟨_, rfl, wpAny_pure h⟩) htake))
end
end HT

namespace L2
open PySem PySem.Spec PyProof.Rows

/-! ### the parts of a slice -/
abbrev TO := St → Hp → (Option Int → Hp → Prop) → Prop
/-- a slice's part (left out, or an int) -/
def PO (X : Cx) (e : Option Expr) (t : TO) : Prop :=
  ∀ (pins : List (Addr × Obj)) (s : Shared) (σ : St) (H : Hp) (Q : Option Int → Hp → Prop), Inv X pins σ H s → t σ H Q →
    wpAny (model X.prog X.w) X.A (evalPart e X.env) (fun u s' => ∃ o H', Inv X pins σ H' s' ∧ IsPart u o ∧ Q o H') X.xe s
def tNoPart : TO := fun _ H Q => Q none H
def tPart (t : TE) : TO := fun σ H Q => t σ H fun x H1 => ∃ i, x = .int i ∧ Q (some i) H1


section
variable {X : Cx} {e : Expr} {te : TE} {lo hi : Option Expr} {tl th : TO} {pos p2 : Pos}

theorem po_none : PO X none tNoPart := by
  intro pins s σ H Q I h
  rw [evalPart_none]
  exact wpAny_pure ⟨none, H, I, .none, h⟩
theorem po_some (h : PE X e te) : PO X (some e) (tPart te) := by
  intro pins s σ H Q I hw
  rw [evalPart_some]
  refine thn (h pins s σ H _ I hw) fun u s1 ⟨x, H1, I1, r1, q1⟩ => ?_
  obtain ⟨i, rfl, q⟩ := q1
  obtain ⟨t, rfl⟩ := r1
  exact ⟨some i, H1, I1, .int i t, q⟩

/-- what a slice of a value is, by values: the slice object stands at sl -/
def SlR (X : Cx) (r : V → Option Int → Option Int → Hp → VK → Prop) : Prop :=
  ∀ (pins : List (Addr × Obj)) (s : Shared) (σ : St) (H : Hp) (x : V) (v vl vu : Value) (lo hi : Option Int) (sl : Addr) (Q : VK), Inv X pins σ H s → RelV x v → s.heap.IsSliceOf sl vl vu .none → IsPart vl lo → IsPart vu hi → r x lo hi H Q →
    ∃ T id, typeLookup (.type T) "__getitem__" = pure (some (.builtin id)) ∧ s.TypeIs v T ∧ wpAny (model X.prog X.w) X.A (getItem v (.ref sl)) (EP X pins σ Q) X.xe s
def tSl (r : V → Option Int → Option Int → Hp → VK → Prop) (te : TE) (tl th : TO) : TE := fun σ H Q => te σ H fun x H1 => tl σ H1 fun l H2 => th σ H2 fun u H3 => r x l u H3 Q
/-- a[lo:hi], any a -/
theorem pe_slice {r : V → Option Int → Option Int → Hp → VK → Prop} (hr : SlR X r) (he : PE X e te) (hl : PO X lo tl) (hu : PO X hi th) : PE X (.Subscript e (.Slice lo hi none p2) pos) (tSl r te tl th) := by
  intro pins s σ H Q I h
  refine Subscript_ (thn (he pins s σ H _ I h) fun v s1 ⟨x, H1, I1, r1, q1⟩ => ?_)
  refine wpAny_Slice (thn (hl pins s1 σ H1 _ I1 q1) fun vl s2 ⟨l, H2, I2, pl, q2⟩ => thn (hu pins s2 σ H2 _ I2 q2) fun vu s3 ⟨u, H3, I3, pu, q3⟩ => ?_)
  rw [evalPart_none]
  refine wpAny_pure ?_
  have I4 : Inv X pins σ H3 { s3 with heap := s3.heap.push { cls := .type "slice", data := .fields #[vl, vu, .none] } } := I3.kept (t' := s3.toks) fun b ob q => Heap.get?_push_of_some _ q
  obtain ⟨T, id, hT, ht, hg⟩ := hr pins { s3 with heap := s3.heap.push { cls := .type "slice", data := .fields #[vl, vu, .none] } } σ H3 x v vl vu l u s3.heap.objs.size Q I4 r1 (Heap.IsSliceOf.new ..) pl pu q3
  show wpAny (model X.prog X.w) X.A (subscriptTail e (.Slice lo hi none p2) v (.ref s3.heap.objs.size)) (EP X pins σ Q) X.xe { s3 with heap := s3.heap.push { cls := .type "slice", data := .fields #[vl, vu, .none] } }
  exact tail_any (ops := [.ref s3.heap.objs.size, v]) ht hT hg (by with_unfolding_all rfl)

/-- the items of xs[lo:hi] -/
def cutV (xs : List V) (lo hi : Option Int) : List V := (xs.drop (HT.sIx xs.length 0 lo)).take (HT.sIx xs.length xs.length hi - HT.sIx xs.length 0 lo)
theorem cutV_length (xs : List V) (lo hi : Option Int) : (cutV xs lo hi).length ≤ xs.length := by
  unfold cutV
  rw [List.length_take, List.length_drop]
  omega
/-- t[lo:hi], not the whole of it (the whole would be t itself) -/
def rSlT (K : PySem.W.Frag) : V → Option Int → Option Int → Hp → VK → Prop := fun x lo hi H Q => ∃ a xs, x = .ref a ∧ SqT K H a xs ∧
  ¬ (HT.sIx xs.length 0 lo = 0 ∧ HT.sIx xs.length xs.length hi = xs.length) ∧ ∀ p, H p = none → Q (.ref p) (upd H p (.tup (cutV xs lo hi)))
theorem sl_tup : SlR X (rSlT X.K) := by
  intro pins s σ H x v vl vu lo hi sl Q I rx hs pl pu h
  obtain ⟨a, xs, rfl, hx, hw, q⟩ := h
  cases rx
  obtain ⟨its, r, ht, hz⟩ := I.tuple hx
  have hlen : its.toArray.size = xs.length := by rw [List.size_toArray]; exact r.length.symm
  refine ⟨"tuple", _, PyProof.Rows.slot_tuple_getitem.lookup, ht.typeIs, ?_⟩
  refine HT.getItem_tuple_cut ht hs pl pu (by rw [hlen]; exact hw) ?_ (by rw [hlen]; exact hz)
  rw [hlen]
  refine ⟨.ref s.heap.objs.size, _, I.laid (t' := s.toks) (o := .tup (cutV xs lo hi)) (fun b ob q => Heap.get?_push_of_some _ q) (Nat.le_refl _) ?_, rfl, q _ (I.hok.fresh (Nat.le_refl _))⟩
  exact ⟨Nat.le_trans (cutV_length xs lo hi) hz, _, (r.drop (HT.sIx xs.length 0 lo)).take (HT.sIx xs.length xs.length hi - HT.sIx xs.length 0 lo), IsTup.new _ _⟩

/-! ### t < u, t + u -/
/-- t + u, t not empty: u empty gives t itself -/
def rCatT (K : PySem.W.Frag) : R2 := fun x y H Q => ∃ a b xs ys, x = .ref a ∧ y = .ref b ∧ SqT K H a xs ∧ SqT K H b ys ∧ xs ≠ [] ∧ xs.length + ys.length ≤ sizeLine ∧
  (ys = [] → Q (.ref a) H) ∧ (ys ≠ [] → ∀ p, H p = none → Q (.ref p) (upd H p (.tup (xs ++ ys))))
theorem Vals.nil_iff {xs : List V} {us : List Value} (r : Vals xs us) : us = [] ↔ xs = [] := by
  cases r with
  | nil => simp
  | cons _ _ => simp
theorem op_catT : OpR X (binaryOp .Add) (rCatT X.K) := by
  intro pins s σ H x y v u Q I rx ry h
  obtain ⟨a, b, xs, ys, rfl, rfl, ha, hb, hx, hz, q1, q2⟩ := h
  cases rx
  cases ry
  obtain ⟨its, r1, p1, _⟩ := I.tuple ha
  obtain ⟨its2, r2, p2, _⟩ := I.tuple hb
  refine HT.cat_tup p1 p2 (fun z => hx (r1.nil_iff.mp z)) (fun z => ⟨.ref a, H, I, rfl, q1 (r2.nil_iff.mp z)⟩) (fun z => ?_) (by rw [← r1.length, ← r2.length]; exact hz)
  refine ⟨.ref s.heap.objs.size, _, I.laid (t' := s.toks) (o := .tup (xs ++ ys)) (fun b ob q => Heap.get?_push_of_some _ q) (Nat.le_refl _) ?_, rfl, q2 (fun w => z (r2.nil_iff.mpr w)) _ (I.hok.fresh (Nat.le_refl _))⟩
  exact ⟨by rw [List.length_append]; exact hz, _, r1.append r2, IsTup.new _ _⟩
end
end L2

namespace L2
open PySem PySem.Spec PyProof.Rows

/-! ### places -/
/-- the place that an index of any sign means -/
def ixN (n : Nat) (i : Int) : Option Nat := if 0 ≤ i then (if i < n then some i.toNat else none) else if -(n : Int) ≤ i then some (i + n).toNat else none
def atI {α : Type} (xs : List α) (i : Int) : Option α := (ixN xs.length i).bind fun j => xs[j]?
theorem ixN_seq {n : Nat} {i : Int} {j : Nat} (h : ixN n i = some j) : seqIndex? i n = some j ∧ j < n ∧ -(n : Int) ≤ i ∧ i < n := by
  unfold ixN at h
  by_cases h0 : 0 ≤ i
  · rw [if_pos h0] at h
    by_cases h1 : i < n
    · rw [if_pos h1] at h
      have e : i.toNat = j := Option.some.inj h
      exact ⟨by rw [seqIndex_of h0 h1, e], by omega, by omega, h1⟩
    · rw [if_neg h1] at h; cases h
  · rw [if_neg h0] at h
    by_cases h1 : -(n : Int) ≤ i
    · rw [if_pos h1] at h
      have e : (i + n).toNat = j := Option.some.inj h
      exact ⟨by rw [seqIndex_neg (by omega) h1, e], by omega, h1, by omega⟩
    · rw [if_neg h1] at h; cases h
theorem atI_get {α : Type} {xs : List α} {i : Int} {v : α} (h : atI xs i = some v) : ∃ j, seqIndex? i xs.length = some j ∧ xs[j]? = some v ∧ j < xs.length ∧ -(xs.length : Int) ≤ i ∧ i < xs.length := by
  unfold atI at h
  cases e : ixN xs.length i with
  | none => rw [e] at h; cases h
  | some j =>
    rw [e] at h
    obtain ⟨h1, h2, h3, h4⟩ := ixN_seq e
    exact ⟨j, h1, h, h2, h3, h4⟩
theorem atI_nat {α : Type} {xs : List α} {j : Nat} {v : α} (h : xs[j]? = some v) : atI xs (j : Int) = some v := by
  have hj : j < xs.length := (List.getElem?_eq_some_iff.mp h).1
  have e : ixN xs.length (j : Int) = some j := by
    unfold ixN
    rw [if_pos (by omega), if_pos (by omega)]; simp
  unfold atI; rw [e]; exact h

/-! ### what may be subscripted -/
/-- what stands as an index of a plain subscript -/
def PlainIx (b : Expr) : Prop := ∀ o i, subscripted b false o i = operate [o, i] (getItem o i)
/-- a subscript by values -/
def IxR (X : Cx) (r : R2) : Prop :=
  ∀ (value slice : Expr) (pins : List (Addr × Obj)) (s : Shared) (σ : St) (H : Hp) (x y : V) (v u : Value) (Q : VK), Inv X pins σ H s → RelV x v → RelV y u → r x y H Q →
    subscripted slice false v u = operate [v, u] (getItem v u) → wpAny (model X.prog X.w) X.A (subscriptTail value slice v u) (EP X pins σ Q) X.xe s
/-- a call of a builtin's method by values: the receiver, the arguments -/
def MtR (X : Cx) (id : String) (r : V → List V → Hp → VK → Prop) : Prop :=
  ∀ (pins : List (Addr × Obj)) (s : Shared) (σ : St) (H : Hp) (x : V) (xs : List V) (v : Value) (us : List Value) (Q : VK), Inv X pins σ H s → RelV x v → Vals xs us → r x xs H Q →
    wpAny (model X.prog X.w) X.A (call (.builtin id) (v :: us)) (EP X pins σ Q) X.xe s
section
variable {X : Cx} {a b : Expr} {ta tb : TE} {pos : Pos}
/-- a[b] -/
theorem pe_ix {r : R2} (hr : IxR X r) (ha : PE X a ta) (hb : PE X b tb) (hs : PlainIx b) : PE X (.Subscript a b pos) (tOp r ta tb) := by
  intro pins s σ H Q I h
  exact Subscript_ (binT ha hb I h fun v u s2 x y H2 I2 rx ry q => hr a b pins s2 σ H2 x y v u Q I2 rx ry q (hs _ _))

def rIxL (K : PySem.W.Frag) : R2 := fun x y H Q => ∃ p xs i v, x = .ref p ∧ y = .int i ∧ SqL K H p xs ∧ atI xs i = some v ∧ Q v H
def rIxT (K : PySem.W.Frag) : R2 := fun x y H Q => ∃ p xs i v, x = .ref p ∧ y = .int i ∧ SqT K H p xs ∧ atI xs i = some v ∧ Q v H
theorem ix_list : IxR X (rIxL X.K) := by
  intro value slice pins s σ H x y v u Q I rx ry h hs
  obtain ⟨p, xs, i, z, rfl, rfl, hq, he, q⟩ := h
  cases rx
  obtain ⟨t, rfl⟩ := ry
  obtain ⟨its, r, pl, hz⟩ := I.list hq
  obtain ⟨j, h1, h2, h3, h4, h5⟩ := atI_get he
  obtain ⟨w, ew, rw'⟩ := r.get h2
  have hl := r.length
  have hn := line63
  have fin : EP X pins σ Q w s := ⟨z, H, I, rw', q⟩
  by_cases h0 : 0 ≤ i
  · have hj : i.toNat = j := by
      rw [seqIndex_of h0 h5] at h1
      exact Option.some.inj h1
    exact item_listR pl.isList h0 (by omega) (by rw [hj]; simpa using ew) fin hs
  · have hj : (i + (its.toArray.size : Int)).toNat = j := by
      rw [seqIndex_neg (by omega) h4] at h1
      rw [List.size_toArray, ← hl]
      exact Option.some.inj h1
    exact subscriptTail_builtinR (x := w) pl.isList.typeIs slot_list_getitem.lookup
      (wpAny_getItem_list_neg (Q := fun r s' => r = w ∧ EP X pins σ Q r s') pl.isList (by omega) (by rw [List.size_toArray] <;> omega) (by omega) (by rw [hj]; simpa using ew) ⟨rfl, fin⟩) hs
theorem ix_tup : IxR X (rIxT X.K) := by
  intro value slice pins s σ H x y v u Q I rx ry h hs
  obtain ⟨p, xs, i, z, rfl, rfl, hq, he, q⟩ := h
  cases rx
  obtain ⟨t, rfl⟩ := ry
  obtain ⟨its, r, pl, hz⟩ := I.tuple hq
  obtain ⟨j, h1, h2, h3, h4, h5⟩ := atI_get he
  obtain ⟨w, ew, rw'⟩ := r.get h2
  have hl := r.length
  have hn := line63
  have fin : EP X pins σ Q w s := ⟨z, H, I, rw', q⟩
  exact subscriptTail_builtinR (x := w) pl.typeIs slot_tuple_getitem.lookup
    (getItem_tuple (j := j) (Q := fun r s' => r = w ∧ EP X pins σ Q r s') pl (by omega) (by omega) (by rw [List.size_toArray, ← hl]; exact h1) (by simpa using ew) ⟨rfl, fin⟩) hs

/-! ### xs[i] = v, any sign -/
/-- the list's object behind a store -/
theorem mapSeq_set (its : List Value) (n j : Nat) (u : Value) : Obj.mapSeq (·.setIfInBounds j u) { cls := .type "list", data := .seq its.toArray n } = { cls := .type "list", data := .seq (its.set j u).toArray n } := by
  simp [Obj.mapSeq]
theorem Inv.lst {pins : List (Addr × Obj)} {σ : St} {H : Hp} {s : Shared} {p : Addr} {xs : List V} (I : Inv X pins σ H s) (h : H p = some (.lst xs)) :
    ∃ (its : List Value) (n : Nat), Vals xs its ∧ s.heap.get? p = some { cls := .type "list", data := .seq its.toArray n } ∧ xs.length ≤ sizeLine := by
  obtain ⟨z, its, n, r, e⟩ := I.hok p _ h
  exact ⟨its, n, r, e, z⟩
/-- the list at p is written by an update of its object -/
theorem Inv.lstUpd {pins : List (Addr × Obj)} {σ : St} {H : Hp} {s : Shared} {p : Addr} {xs ys : List V} {its its' : List Value} {n n' : Nat} {f : Obj → Obj} (I : Inv X pins σ H s) (h : H p = some (.lst xs))
    (ho : s.heap.get? p = some { cls := .type "list", data := .seq its.toArray n }) (hf : f { cls := .type "list", data := .seq its.toArray n } = { cls := .type "list", data := .seq its'.toArray n' }) (r : Vals ys its') (hz : ys.length ≤ sizeLine) (t : Nat) :
    Inv X pins σ (upd H p (.lst ys)) { s with heap := s.heap.update p f, toks := t } := by
  have e : (s.heap.update p f).get? p = some { cls := .type "list", data := .seq its'.toArray n' } := by
    rw [Heap.get?_update_self f ho (by rw [hf] <;> rfl), hf]
  refine I.write (x := p) (e := p) (by rw [h]; trivial) (.inl rfl) (fun b u hb q => (Heap.get?_update_other _ _ (Ne.symm hb)).trans q) ⟨_, e⟩ ?_
  exact ⟨hz, its', n', r, e⟩
def rSetL : V → V → V → Hp → (Hp → Prop) → Prop := fun o i v H Q => ∃ p xs k j, o = .ref p ∧ i = .int k ∧ H p = some (.lst xs) ∧ ixN xs.length k = some j ∧ Q (upd H p (.lst (xs.set j v)))
theorem set_list : PSet X rSetL := by
  intro pins s σ H o i v ov iv u Q I ro ri rv h
  obtain ⟨p, xs, k, j, rfl, rfl, hp, hj, q⟩ := h
  cases ro
  obtain ⟨t, rfl⟩ := ri
  obtain ⟨its, n, r, ho, hz⟩ := I.lst hp
  obtain ⟨h1, h2, h3, h4⟩ := ixN_seq hj
  have hl := r.length
  have hn := line63
  have I' : Inv X pins σ (upd H p (.lst (xs.set j v))) { s with heap := s.heap.update p (Obj.mapSeq (·.setIfInBounds j u)) } :=
    I.lstUpd hp ho (mapSeq_set its n j u) (r.set rv j) (by rw [List.length_set]; exact hz) s.toks
  by_cases h0 : 0 ≤ k
  · have hk : k.toNat = j := by
      rw [seqIndex_of h0 h4] at h1
      exact Option.some.inj h1
    exact PySem.W.ki_setAt ho h0 (by omega) (by rw [List.size_toArray, ← hl]; exact h4) (by rw [hk]; exact ⟨_, I', q⟩)
  · have hk : (k + (its.toArray.size : Int)).toNat = j := by
      rw [seqIndex_neg (by omega) h3] at h1
      rw [List.size_toArray, ← hl]
      exact Option.some.inj h1
    exact PySem.W.ki_setBack ho (by omega) (by rw [List.size_toArray, ← hl]; exact h3) (by omega) (by rw [hk]; exact ⟨_, I', q⟩)

/-! ### slices -/
theorem slice_bounds (lo hi : Option Int) (n : Nat) : (sliceBounds lo hi none n).1 = ((HT.sIx n 0 lo : Nat) : Int) ∧ (sliceBounds lo hi none n).2.1 = ((HT.sIx n n hi : Nat) : Int) ∧ (sliceBounds lo hi none n).2.2 = 1 := by
  refine ⟨?_, ?_, rfl⟩
  · cases lo with
    | none => simp [sliceBounds, HT.sIx]
    | some i =>
      simp only [sliceBounds, HT.sIx, Option.getD_none, show (1 : Int) > 0 by decide, if_true]
      by_cases h : i < 0
      · simp only [h, if_true] <;> omega
      · simp only [h, if_false] <;> omega
  · cases hi with
    | none => simp [sliceBounds, HT.sIx]
    | some i =>
      simp only [sliceBounds, HT.sIx, Option.getD_none, show (1 : Int) > 0 by decide, if_true]
      by_cases h : i < 0
      · simp only [h, if_true] <;> omega
      · simp only [h, if_false] <;> omega
theorem slicePick_cut (its : List Value) (lo hi : Option Int) : slicePick its.toArray lo hi none = ((its.drop (HT.sIx its.length 0 lo)).take (HT.sIx its.length its.length hi - HT.sIx its.length 0 lo)).toArray := by
  obtain ⟨h1, h2, h3⟩ := slice_bounds lo hi its.toArray.size
  unfold slicePick
  rw [h1, h2, h3]
  simp only [sliceRange_one, pick_run, List.size_toArray] <;> rfl
/-- xs[lo:hi] of a list: a new list -/
def rSlL (K : PySem.W.Frag) : V → Option Int → Option Int → Hp → VK → Prop := fun x lo hi H Q => ∃ a xs, x = .ref a ∧ SqL K H a xs ∧ ∀ p, H p = none → Q (.ref p) (upd H p (.lst (cutV xs lo hi)))
theorem sl_list : SlR X (rSlL X.K) := by
  intro pins s σ H x v vl vu lo hi sl Q I rx hs pl pu h
  obtain ⟨a, xs, rfl, hx, q⟩ := h
  cases rx
  obtain ⟨its, r, ht, hz⟩ := I.list hx
  have hlen := r.length
  refine ⟨"list", _, slot_list_getitem.lookup, ht.isList.typeIs, ?_⟩
  refine wpAny_getItem_list_slice ht.isList hs pl pu .none (by simp) ?_ (by rw [List.size_toArray] <;> omega)
  rw [slicePick_cut, ← hlen]
  refine ⟨.ref s.heap.objs.size, _, I.laid (t' := s.toks) (o := .lst (cutV xs lo hi)) (fun b ob q => Heap.get?_push_of_some _ q) (Nat.le_refl _) ?_, rfl, q _ (I.hok.fresh (Nat.le_refl _))⟩
  exact ⟨Nat.le_trans (cutV_length xs lo hi) hz, _, 0, (r.drop (HT.sIx xs.length 0 lo)).take (HT.sIx xs.length xs.length hi - HT.sIx xs.length 0 lo), Heap.get?_push_size _ rfl⟩

/-! ### in, not in: flat items -/
def flatV : V → Bool
  | .non => true
  | .bl _ => true
  | .int _ => true
  | .str _ => true
  | _ => false
/-- == of flat values -/
def eqV : V → V → Bool
  | .non, .non => true
  | .bl a, .bl b => a == b
  | .bl a, .int b => (if a then 1 else 0) == b
  | .int a, .bl b => a == (if b then 1 else 0)
  | .int a, .int b => a == b
  | .str a, .str b => a == b
  | _, _ => false
theorem eqAt_V {A : Around} {s : Shared} {y x : V} {u v : Value} (ry : RelV y u) (rx : RelV x v) (fy : flatV y = true) (fx : flatV x = true) : SeqAt.EqAt A s u v (eqV y x) := by
  cases y with
  | non =>
    cases ry
    cases x with
    | non => cases rx; exact SeqAt.EqAt.same _
    | bl b => cases rx; exact SeqAt.EqAt.none_bool b
    | int b => obtain ⟨t, rfl⟩ := rx; exact SeqAt.EqAt.none_int b t
    | str b => obtain ⟨t, rfl⟩ := rx; exact SeqAt.EqAt.none_str b t
    | _ => exact absurd (show false = true from fx) Bool.false_ne_true
  | bl a =>
    cases ry
    cases x with
    | non => cases rx; exact SeqAt.EqAt.bool_none a
    | bl b => cases rx; exact SeqAt.EqAt.bool_bool a b
    | int b => obtain ⟨t, rfl⟩ := rx; exact SeqAt.EqAt.bool_int a b t
    | str b => obtain ⟨t, rfl⟩ := rx; exact SeqAt.EqAt.bool_str a b t
    | _ => exact absurd (show false = true from fx) Bool.false_ne_true
  | int a =>
    obtain ⟨t', rfl⟩ := ry
    cases x with
    | non => cases rx; exact SeqAt.EqAt.int_none a t'
    | bl b => cases rx; exact SeqAt.EqAt.int_bool a t' b
    | int b => obtain ⟨t, rfl⟩ := rx; exact SeqAt.EqAt.int_int a t' b t
    | str b => obtain ⟨t, rfl⟩ := rx; exact SeqAt.EqAt.int_str a t' b t
    | _ => exact absurd (show false = true from fx) Bool.false_ne_true
  | str a =>
    obtain ⟨t', rfl⟩ := ry
    cases x with
    | non => cases rx; exact SeqAt.EqAt.str_none a t'
    | bl b => cases rx; exact SeqAt.EqAt.str_bool a t' b
    | int b => obtain ⟨t, rfl⟩ := rx; exact SeqAt.EqAt.str_int a t' b t
    | str b => obtain ⟨t, rfl⟩ := rx; exact SeqAt.EqAt.str_str a t' b t
    | _ => exact absurd (show false = true from fx) Bool.false_ne_true
  | _ => exact absurd (show false = true from fy) Bool.false_ne_true
/-- the items' answers, read off the values (a value's own answer does not lean on its token) -/
def eqU (x : V) (u : Value) : Bool := match u with
  | .none => eqV .non x
  | .bool b => eqV (.bl b) x
  | .int i _ => eqV (.int i) x
  | .str z _ => eqV (.str z) x
  | _ => false
theorem eqU_of {x y : V} {u : Value} (r : RelV y u) (f : flatV y = true) : eqU x u = eqV y x := by
  cases y with
  | non => cases r; rfl
  | bl b => cases r; rfl
  | int i => obtain ⟨t, rfl⟩ := r; rfl
  | str z => obtain ⟨t, rfl⟩ := r; rfl
  | _ => exact absurd (show false = true from f) Bool.false_ne_true
theorem any_eqU {x : V} : ∀ {xs : List V} {us : List Value}, Vals xs us → xs.all flatV = true → us.any (eqU x) = xs.any fun y => eqV y x
  | _, _, .nil, _ => rfl
  | y :: xs, u :: us, .cons r t, f => by
    rw [List.all_cons, Bool.and_eq_true] at f
    rw [List.any_cons, List.any_cons, eqU_of r f.1, any_eqU t f.2]
theorem mem_eqAt {A : Around} {s : Shared} {x : V} {v : Value} (rx : RelV x v) (fx : flatV x = true) : ∀ {xs : List V} {us : List Value}, Vals xs us → xs.all flatV = true → ∀ u ∈ us, SeqAt.EqAt A s u v (eqU x u)
  | _, _, .nil, _ => fun u hu => by cases hu
  | y :: xs, u :: us, .cons r t, f => fun u' hu => by
    rw [List.all_cons, Bool.and_eq_true] at f
    rcases List.mem_cons.mp hu with rfl | hu
    · rw [eqU_of r f.1]; exact eqAt_V r rx f.1 fx
    · exact mem_eqAt rx fx t f.2 u' hu
def inV (x : V) (xs : List V) : Bool := xs.any fun y => eqV y x
/-- x in a list or tuple of flat items -/
def rIn (K : PySem.W.Frag) (neg : Bool) : R2 := fun x y H Q => ∃ p xs, y = .ref p ∧ (SqL K H p xs ∨ SqT K H p xs) ∧ flatV x = true ∧ xs.all flatV = true ∧ Q (.bl (if neg then !inV x xs else inV x xs)) H
theorem op_in_seq : OpR X (compareOp .In) (rIn X.K false) := by
  intro pins s σ H x y v u Q I rx ry h
  obtain ⟨p, xs, rfl, hq, fx, fs, q⟩ := h
  cases ry
  rcases hq with hq | hq
  · obtain ⟨its, r, pl, hz⟩ := I.list hq
    refine SeqAt.in_listAt (eqU x) pl.isList (fun w hw => mem_eqAt rx fx r fs w (by simpa using hw)) ⟨.bl _, H, I, rfl, ?_⟩
    rw [show its.toArray.any (eqU x) = its.any (eqU x) by simp, any_eqU r fs]
    exact q
  · obtain ⟨its, r, pl, hz⟩ := I.tuple hq
    refine SeqAt.in_tupleAt (eqU x) pl (fun w hw => mem_eqAt rx fx r fs w (by simpa using hw)) ⟨.bl _, H, I, rfl, ?_⟩
    rw [show its.toArray.any (eqU x) = its.any (eqU x) by simp, any_eqU r fs]
    exact q

/-! ### len, list(x), tuple(x) of any list or tuple that is read -/
theorem call_len_seq : CallR X (.builtin "len") (fun xs H Q => ∃ p ys, xs = [.ref p] ∧ (SqL X.K H p ys ∨ SqT X.K H p ys) ∧ Q (.int ys.length) H) := by
  intro pins s σ H xs us Q I r h
  obtain ⟨p, ys, rfl, hq, q⟩ := h
  obtain ⟨u, rfl, rx⟩ := vals1 r
  cases rx
  have hn := line63
  rcases hq with hq | hq
  · obtain ⟨its, r', pl, hz⟩ := I.list hq
    have hlen := r'.length
    exact Calls.call_len_list pl.isList (by simp only [List.size_toArray] <;> omega) ⟨.int ys.length, H, I.tok _, ⟨s.toks + 1, by rw [List.size_toArray, hlen]⟩, q⟩
  · obtain ⟨its, r', pl, hz⟩ := I.tuple hq
    have hlen := r'.length
    exact len_tuple pl (by simp only [List.size_toArray] <;> omega) ⟨.int ys.length, H, I.tok _, ⟨s.toks + 1, by rw [List.size_toArray, hlen]⟩, q⟩
theorem call_list_of : CallR X (.type "list") (fun xs H Q => ∃ p ys, xs = [.ref p] ∧ (SqL X.K H p ys ∨ SqT X.K H p ys) ∧ ∀ l, H l = none → Q (.ref l) (upd H l (.lst ys))) := by
  intro pins s σ H xs us Q I r h
  obtain ⟨p, ys, rfl, hq, q⟩ := h
  obtain ⟨u, rfl, rx⟩ := vals1 r
  cases rx
  have fin : ∀ (its : List Value), Vals ys its → ys.length ≤ sizeLine → ∀ (h' : Heap) (c' : Nat), (∀ b o', s.heap.get? b = some o' → h'.get? b = some o') →
      h'.get? s.heap.objs.size = some { cls := .type "list", dict := none, data := .seq its.toArray c', slots := #[] } → EP X pins σ Q (.ref s.heap.objs.size) { s with heap := h' } := fun its r' hz h' c' kp e =>
    ⟨.ref s.heap.objs.size, _, I.laid (t' := s.toks) kp (Nat.le_refl _) (show ObjOk X.prog X.w _ h' _ (.lst ys) from ⟨hz, its, c', r', e⟩), rfl, q _ (I.hok.fresh (Nat.le_refl _))⟩
  rcases hq with hq | hq
  · obtain ⟨its, r', pl, hz⟩ := I.list hq
    have hlen := r'.length
    obtain ⟨o, ho, hc, n, hd⟩ := pl.isList
    exact call_list_seq p (.inl rfl) ho hc hd (fun h' c' kp e => fin its r' hz h' c' kp e) (by simp only [List.size_toArray] <;> omega)
  · obtain ⟨its, r', pl, hz⟩ := I.tuple hq
    have hlen := r'.length
    obtain ⟨o, ho, hc, n, hd⟩ := pl
    exact call_list_seq p (.inr rfl) ho hc hd (fun h' c' kp e => fin its r' hz h' c' kp e) (by simp only [List.size_toArray] <;> omega)

/-! ### the call of a builtin's method: o.m(..) -/
/-- the value is of that builtin type -/
def tyV (K : PySem.W.Frag) (T : String) (x : V) (H : Hp) : Prop := match x with
  | .str _ => T = "str"
  | .int _ => T = "int"
  | .ref p => (T = "list" ∧ ∃ xs, SqL K H p xs) ∨ (T = "tuple" ∧ ∃ o, K.lookup p = some o ∧ o.cls = .type "tuple" ∧ o.dict = none) ∨
      (T = "dict" ∧ ((∃ kvs, H p = some (.dK kvs)) ∨ ∃ kvs, H p = some (.dT kvs))) ∨ (T = "set" ∧ ∃ S n, H p = some (.set S n))
  | _ => False
theorem tyV_is {pins : List (Addr × Obj)} {σ : St} {H : Hp} {s : Shared} {T : String} {x : V} {v : Value} (I : Inv X pins σ H s) (r : RelV x v) (ty : tyV X.K T x H) :
    s.TypeIs v T ∧ ∀ a, v = .ref a → ∃ ob, s.heap.get? a = some ob ∧ ob.dict = none := by
  cases x with
  | str z =>
    obtain ⟨t, rfl⟩ := r
    cases (show T = "str" from ty)
    exact ⟨typeIs_str s z t, fun _ e => nomatch e⟩
  | int i =>
    obtain ⟨t, rfl⟩ := r
    cases (show T = "int" from ty)
    exact ⟨typeIs_int s i t, fun _ e => nomatch e⟩
  | ref p =>
    cases r
    rcases ty with ⟨rfl, xs, hq⟩ | ⟨rfl, o, hk, hc, hd⟩ | ⟨rfl, hk⟩ | ⟨rfl, S, n, hk⟩
    · obtain ⟨its, _, pl, _⟩ := I.list hq
      refine ⟨pl.isList.typeIs, fun a e => ?_⟩
      cases e
      obtain ⟨o, n, e, c, hd, _⟩ := pl
      exact ⟨o, e, hd⟩
    · refine ⟨⟨o, I.kIn p o hk, hc⟩, fun a e => ?_⟩
      cases e
      exact ⟨o, I.kIn _ o hk, hd⟩
    · have z : ∃ o, s.heap.get? p = some o ∧ o.ExactDict := by
        rcases hk with ⟨kvs, hk⟩ | ⟨kvs, hk⟩
        · obtain ⟨_, _, _, _, o, _, _, e, ex, _⟩ := I.hok p _ hk
          exact ⟨o, e, ex⟩
        · obtain ⟨_, _, _, _, o, _, _, e, ex, _⟩ := I.hok p _ hk
          exact ⟨o, e, ex⟩
      obtain ⟨o, e, ex⟩ := z
      refine ⟨⟨o, e, ex.1⟩, fun a e2 => ?_⟩
      cases e2
      exact ⟨o, e, ex.2.1⟩
    · obtain ⟨o, _, _, _, e, ex, _⟩ := I.hok p _ hk
      refine ⟨⟨o, e, ex.1⟩, fun a e2 => ?_⟩
      cases e2
      exact ⟨o, e, ex.2.1⟩
  | _ => exact False.elim ty
def tBM0 (K : PySem.W.Frag) (T : String) (r : V → List V → Hp → VK → Prop) (to : TE) : TE := fun σ H Q => to σ H fun x H1 => tyV K T x H1 ∧ r x [] H1 Q
def tBM (K : PySem.W.Frag) (T : String) (r : V → List V → Hp → VK → Prop) (to : TE) (t : TA) : TE := fun σ H Q => to σ H fun x H1 => tyV K T x H1 ∧ t σ H1 fun xs H2 => r x xs H2 Q
variable {o e : Expr} {es : List Expr} {to : TE} {t : TA} {name : Str} {apos cpos : Pos} {T id : String} {r : V → List V → Hp → VK → Prop}
theorem pe_bm0 (pa : PlainAttrs T) (slot : Slot T name id) (hty : typeOf (.builtin id) = pure (.type "method_descriptor")) (hm : MtR X id r) (ho : PE X o to)
    (hbase : attributeBase o name X.env (eval o X.env) = eval o X.env := by rfl) (hline : (apos.endLine == cpos.line) = true := by rfl) : PE X (.Call (.Attribute o name apos) [] [] cpos) (tBM0 X.K T r to) := by
  intro pins s σ H Q I h
  refine wpAny_Call_method0_late hbase hline (thn (ho pins s σ H _ I h) fun v s1 ⟨x, H1, I1, r1, ty, q1⟩ => ?_)
  obtain ⟨h1, h2⟩ := tyV_is I1 r1 ty
  exact ⟨T, id, pa, slot, hty, h1, h2, Calls.callWith_builtin rfl (PySem.evalArgs_none (hm pins s1 σ H1 x [] v [] Q I1 r1 .nil q1))⟩
theorem pe_bm (pa : PlainAttrs T) (slot : Slot T name id) (hty : typeOf (.builtin id) = pure (.type "method_descriptor")) (hm : MtR X id r) (ho : PE X o to) (ha : PA X (e :: es) t)
    (hbase : attributeBase o name X.env (eval o X.env) = eval o X.env := by rfl)
    (hfew : ((backTo cpos (starEach (e :: es) X.env)).all (fun x => !x.1) && (backToKw cpos (keywordEach [] X.env)).all (fun x => x.1.isSome)
      && decide ((e :: es).length + ([] : List Keyword).length + (if ([] : List Keyword).isEmpty then 0 else 1) < 30)) = true := by rfl)
    (hline : (apos.endLine == cpos.line) = true := by rfl) (hs : starEach (e :: es) X.env = (false, eval e X.env) :: starEach es X.env := by rfl) (hplain : (backTo cpos (starEach es X.env)).any (·.1) = false := by rfl) :
    PE X (.Call (.Attribute o name apos) (e :: es) [] cpos) (tBM X.K T r to t) := by
  intro pins s σ H Q I h
  refine wpAny_Call_method_late hbase hfew hline rfl (thn (ho pins s σ H _ I h) fun v s1 ⟨x, H1, I1, r1, ty, q1⟩ => ?_)
  obtain ⟨h1, h2⟩ := tyV_is I1 r1 ty
  refine ⟨T, id, pa, slot, hty, h1, h2, ?_⟩
  have hA := ha cpos pins s1 σ H1 _ I1 q1
  rw [hs] at hA ⊢
  refine Calls.callWith_builtin (by show (false || (backTo cpos (starEach es X.env)).any (·.1)) = false; rw [hplain] <;> rfl) (Calls.evalArgs_plain ?_)
  exact thn hA fun us s2 ⟨vs, H2, I2, r2, q2⟩ => hm pins s2 σ H2 x vs v us Q I2 r1 r2 q2
/- xs.append(e), list.index on a module's tuple .. are MtR facts of 06m -/
end
end L2

namespace L2
open PySem PySem.Spec PyProof.Rows

def MtM (X : Cx) (id : String) (r : V → List V → Hp → VK → Prop) : Prop :=
  ∀ (pins : List (Addr × Obj)) (s : Shared) (σ : St) (H : Hp) (x : V) (xs : List V) (v : Value) (us : List Value) (Q : VK), Inv X pins σ H s → RelV x v → Vals xs us → r x xs H Q →
    wpAny (model X.prog X.w) X.A (call (.builtin id) (v :: us)) (EP X pins σ Q) X.xe s

/-! ### lists of values -/
theorem Vals.one : ∀ {x : V} {us : List Value}, Vals [x] us → ∃ u, us = [u] ∧ RelV x u
  | _, _, .cons r .nil => ⟨_, rfl, r⟩
theorem Vals.zero : ∀ {us : List Value}, Vals [] us → us = []
  | _, .nil => rfl
theorem Vals.dropLast {xs : List V} {us : List Value} (h : Vals xs us) : Vals xs.dropLast us.dropLast := by
  induction h with
  | nil => exact .nil
  | cons r t ih =>
    cases t with
    | nil => exact .nil
    | cons q t' => exact .cons r ih
theorem Vals.rep {xs : List V} {us : List Value} (h : Vals xs us) : ∀ k : Nat, Vals (List.replicate k xs).flatten (List.replicate k us).flatten
  | 0 => .nil
  | k + 1 => by
    rw [List.replicate_succ, List.replicate_succ, List.flatten_cons, List.flatten_cons]
    exact Vals.append h (Vals.rep h k)
theorem erase_last {α : Type} (l : List α) : l.eraseIdx (l.length - 1) = l.dropLast := by
  induction l with
  | nil => rfl
  | cons a r ih =>
    cases r with
    | nil => rfl
    | cons b r =>
      have e : (a :: b :: r).length - 1 = ((b :: r).length - 1) + 1 := by
        have h1 : (a :: b :: r).length = r.length + 2 := rfl
        have h2 : (b :: r).length = r.length + 1 := rfl
        omega
      rw [e, List.eraseIdx_cons_succ, ih]
      all_goals rfl
theorem foldl_rep (its : List Value) : ∀ (k : Nat) (acc : List Value),
    List.foldl (fun x1 x2 => x1 ++ x2) acc.toArray (List.replicate k its.toArray) = (acc ++ (List.replicate k its).flatten).toArray
  | 0, acc => by simp
  | k + 1, acc => by
    have e : acc.toArray ++ its.toArray = (acc ++ its).toArray := by simp
    have e2 : (acc ++ its) ++ (List.replicate k its).flatten = acc ++ (List.replicate (k + 1) its).flatten := by
      rw [List.replicate_succ, List.flatten_cons, List.append_assoc]
    rw [← e2, ← foldl_rep its k (acc ++ its), ← e, List.replicate_succ, List.foldl_cons]

section
variable {X : Cx} {pins : List (Addr × Obj)} {σ : St} {H : Hp} {s : Shared} {l b : Addr} {xs ys zs : List V}

/-! ### the two steps: a tracked list is rewritten, a new list is laid -/
theorem Inv.lset {its its' : List Value} {n : Nat} {f : Array Value → Array Value} {t' : Nat} (I : Inv X pins σ H s) (hH : H l = some (.lst xs))
    (e : s.heap.get? l = some { cls := .type "list", data := .seq its.toArray n }) (hf : f its.toArray = its'.toArray) (hv : Vals ys its') (hz : ys.length ≤ sizeLine) :
    Inv X pins σ (upd H l (.lst ys)) { s with heap := s.heap.update l (Obj.mapSeq f), toks := t' } := by
  have q := PySem.IsL.update e f
  rw [hf] at q
  refine I.write (x := l) (e := l) (by rw [hH]; exact trivial) (.inl rfl) (fun b' u hb hu => (Heap.get?_update_other s.heap (Obj.mapSeq f) (Ne.symm hb)).trans hu) ⟨_, q⟩ ?_
  exact ⟨hz, its', _, hv, q⟩
theorem Inv.lnew {its : List Value} {t' : Nat} (I : Inv X pins σ H s) (hv : Vals ys its) (hz : ys.length ≤ sizeLine) :
    Inv X pins σ (upd H s.heap.objs.size (.lst ys)) { s with heap := s.heap.push { cls := .type "list", data := .seq its.toArray }, toks := t' } :=
  I.laid (fun _ _ q => Heap.get?_push_of_some _ q) (Nat.le_refl _) ⟨hz, its, 0, hv, Heap.get?_push_size _ rfl⟩
theorem Inv.fresh (I : Inv X pins σ H s) : H s.heap.objs.size = none := I.hok.fresh (Nat.le_refl _)
theorem Inv.lstM (I : Inv X pins σ H s) (hH : H l = some (.lst xs)) : xs.length ≤ sizeLine ∧ ∃ (its : List Value) (n : Nat), Vals xs its ∧ xs.length = its.length ∧ s.heap.get? l = some { cls := .type "list", data := .seq its.toArray n } := by
  obtain ⟨z, its, n, r, e⟩ := I.hok l _ hH
  exact ⟨z, its, n, r, r.length, e⟩

theorem notLongL {n : Nat} (h : n ≤ sizeLine) : Builtin.List.listTooLong n = false := by
  unfold Builtin.List.listTooLong
  exact decide_eq_false (by omega)
end

section
variable {X : Cx}

/-! ### methods -/
def rAppend : V → List V → Hp → VK → Prop := fun x vs H Q => ∃ l xs y, x = .ref l ∧ vs = [y] ∧ H l = some (.lst xs) ∧ xs.length < sizeLine ∧ Q .non (upd H l (.lst (xs ++ [y])))
theorem mt_append : MtM X "list.append" rAppend := by
  intro pins s σ H x vs v us Q I rx rv h
  obtain ⟨l, xs, y, rfl, rfl, hH, hz, q⟩ := h
  cases rx
  obtain ⟨u, rfl, ru⟩ := rv.one
  obtain ⟨z, its, n, r, hl, e⟩ := I.lstM hH
  refine call_meets F.slot_list_append ⟨_, e, rfl⟩ F.entry_list_append (F.args_list_append_2 _ _) (PySem.list_append l its.toArray n u (by rw [List.size_toArray]; omega)) ⟨e, ?_⟩
  refine ⟨.non, _, I.lset (its' := its ++ [u]) hH e (by simp) (r.append (.cons ru .nil)) ?_, rfl, q⟩
  rw [List.length_append, List.length_singleton]
  omega

def rExtend : V → List V → Hp → VK → Prop := fun x vs H Q => ∃ l b xs zs, x = .ref l ∧ vs = [.ref b] ∧ H l = some (.lst xs) ∧ H b = some (.lst zs) ∧ xs.length + zs.length ≤ sizeLine ∧ Q .non (upd H l (.lst (xs ++ zs)))
theorem mt_extend : MtM X "list.extend" rExtend := by
  intro pins s σ H x vs v us Q I rx rv h
  obtain ⟨l, b, xs, zs, rfl, rfl, hH, hB, hz, q⟩ := h
  cases rx
  obtain ⟨u, rfl, ru⟩ := rv.one
  cases ru
  obtain ⟨z, its, n, r, hl, e⟩ := I.lstM hH
  obtain ⟨z2, its2, n2, r2, hl2, e2⟩ := I.lstM hB
  have hsz : its.toArray.size + its2.toArray.size ≤ sizeLine := by rw [List.size_toArray, List.size_toArray]; omega
  have hlong : ¬ (!its.toArray.isEmpty && Builtin.List.listTooLong (its.toArray.size + its2.toArray.size)) = true := by
    rw [notLongL hsz, Bool.and_false]
    exact Bool.false_ne_true
  refine call_meets F.slot_list_extend ⟨_, e, rfl⟩ F.entry_list_extend (F.args_list_extend_2 _ _)
    (AutoSeq1.list_extend_list_list_0 l its.toArray n b its2.toArray n2 hlong (by rw [List.size_toArray]; omega) (by omega)) ⟨e, e2, ?_⟩
  refine ⟨.non, _, I.lset (its' := its ++ its2) hH e (by simp) (r.append r2) ?_, rfl, q⟩
  rw [List.length_append]
  omega

def rPop : V → List V → Hp → VK → Prop := fun x vs H Q => ∃ l xs y, x = .ref l ∧ vs = [] ∧ H l = some (.lst xs) ∧ xs[xs.length - 1]? = some y ∧ Q y (upd H l (.lst xs.dropLast))
theorem mt_pop : MtM X "list.pop" rPop := by
  intro pins s σ H x vs v us Q I rx rv h
  obtain ⟨l, xs, y, rfl, rfl, hH, hy, q⟩ := h
  cases rx
  have hus := rv.zero
  subst hus
  obtain ⟨z, its, n, r, hl, e⟩ := I.lstM hH
  obtain ⟨u, hu, ru⟩ := r.get hy
  have hy' : its.toArray[its.toArray.size - 1]? = some u := by
    show its.toArray[its.length - 1]? = some u
    rw [← Array.getElem?_toList, ← hl]
    exact hu
  refine call_meets F.slot_list_pop ⟨_, e, rfl⟩ F.entry_list_pop (F.args_list_pop_1 _) (MeetsSeq.list_pop_last l its.toArray n u hy' (by rw [List.size_toArray]; omega)) ⟨e, ?_⟩
  refine ⟨y, _, I.lset (its' := its.dropLast) hH e ?_ r.dropLast ?_, ru, q⟩
  · show its.toArray.eraseIdxIfInBounds (its.toArray.size - 1) = its.dropLast.toArray
    rw [List.size_toArray, List.eraseIdxIfInBounds_toArray, erase_last]
  · rw [List.length_dropLast]
    omega




/-! ### list + list, list += list, list * int -/
def rCat : R2 := fun x y H Q => ∃ l b xs zs, x = .ref l ∧ y = .ref b ∧ H l = some (.lst xs) ∧ H b = some (.lst zs) ∧ xs.length + zs.length ≤ sizeLine ∧ ∀ p, H p = none → Q (.ref p) (upd H p (.lst (xs ++ zs)))
theorem op_cat : OpR X (binaryOp .Add) rCat := by
  intro pins s σ H x y v u Q I rx ry h
  obtain ⟨l, b, xs, zs, rfl, rfl, hH, hB, hz, q⟩ := h
  cases rx
  cases ry
  obtain ⟨z, its, n, r, hl, e⟩ := I.lstM hH
  obtain ⟨z2, its2, n2, r2, hl2, e2⟩ := I.lstM hB
  refine PySem.P.add_list e e2 ?_ (by rw [List.size_toArray, List.size_toArray]; omega)
  have ea : its.toArray ++ its2.toArray = (its ++ its2).toArray := by simp
  rw [ea]
  exact ⟨.ref _, _, I.lnew (t' := s.toks) (r.append r2) (by rw [List.length_append]; omega), rfl, q _ I.fresh⟩
/-- a list times an int (a negative one is nothing) -/
def rRep : R2 := fun x y H Q => ∃ l k xs, x = .ref l ∧ y = .int k ∧ H l = some (.lst xs) ∧ -(2 ^ 63) ≤ k ∧ k < 2 ^ 63 ∧ xs.length * k.toNat ≤ sizeLine ∧
  ∀ p, H p = none → Q (.ref p) (upd H p (.lst (List.replicate k.toNat xs).flatten))
theorem len_rep {α : Type} (xs : List α) (k : Nat) : (List.replicate k xs).flatten.length = k * xs.length := by
  induction k with
  | zero => simp
  | succ k ih => rw [List.replicate_succ, List.flatten_cons, List.length_append, ih, Nat.succ_mul, Nat.add_comm]
theorem op_rep : OpR X (binaryOp .Mult) rRep := by
  intro pins s σ H x y v u Q I rx ry h
  obtain ⟨l, k, xs, rfl, rfl, hH, h1, h2, hz, q⟩ := h
  cases rx
  obtain ⟨t, rfl⟩ := ry
  obtain ⟨z, its, n, r, hl, e⟩ := I.lstM hH
  have hlen : its.toArray.size * k.toNat ≤ sizeLine := by rw [List.size_toArray, ← hl]; exact hz
  have hcap : ¬ its.toArray.size * k.toNat > (2 ^ 63 - 1) / 8 := by
    have : (sizeLine : Nat) ≤ (2 ^ 63 - 1) / 8 := by decide
    omega
  have hfit : ¬ (!Builtin.List.listFitsIndex k) = true := by
    rw [fitsIndex_both h1 h2]
    exact Bool.false_ne_true
  have hlong : ¬ Builtin.List.listTooLong (its.toArray.size * k.toNat) = true := by
    rw [notLongL hlen]
    exact Bool.false_ne_true
  have hnew : List.foldl (fun x1 x2 => x1 ++ x2) #[] (List.replicate (if its.toArray.isEmpty = true then 0 else k.toNat) its.toArray) = (List.replicate k.toNat its).flatten.toArray := by
    have f0 : ∀ m : Nat, List.foldl (fun x1 x2 => x1 ++ x2) #[] (List.replicate m its.toArray) = (List.replicate m its).flatten.toArray := fun m => by
      have := foldl_rep its m []
      rw [List.nil_append] at this
      exact this
    rw [f0]
    cases its with
    | nil => simp
    | cons a r' => rw [if_neg (by simp)]
  refine wpAny_binaryOp_repeat_ref (T := "list") (U := "int") (by decide) ⟨_, e, rfl⟩ (fun s' => typeIs_int s' k t) noFill_list_mul F.fills_int_mul F.slot_int_rmul repeat_list F.slot_int_index.lookup
    (call_meets F.slot_int_rmul (typeIs_int s k t) F.entry_int_rmul (F.args_int_rmul_2 _ _) (int___rmul___int_list k t l its.toArray n)
      ⟨e, rfl, ⟨_, e, rfl⟩, call_meets F.slot_list_mul ⟨_, e, rfl⟩ F.entry_list_mul (F.args_list_mul_2 _ _) (AutoListH.list___mul___list_int_3 l its.toArray n k t hfit hcap hlong) ⟨e, ?_⟩⟩)
  rw [hnew]
  exact ⟨.ref _, _, I.lnew (t' := s.toks) (r.rep k.toNat) (by rw [len_rep, Nat.mul_comm]; exact hz), rfl, q _ I.fresh⟩

/-! ### del xs[i] -/
end

/-! ### xs[a:b] = ys -/
section
variable {prog : Program} {w : World} {A : Around} {E : Value → Shared → Prop} {s : Shared}
set_option maxRecDepth 100000 in
end

section
variable {X : Cx}
end
end L2

namespace L2
open PySem PySem.Spec PyProof.Rows

/-! ### lists of pairs as tables -/
section
variable {κ : Type} [DecidableEq κ]
def valV (kvs : List (κ × V)) (k : κ) : Option V := (kvs.find? fun kv => decide (kv.1 = k)).map (·.2)
/-- in its place, or at the end -/
def putK (kvs : List (κ × V)) (k : κ) (v : V) : List (κ × V) :=
  if (kvs.any fun kv => decide (kv.1 = k)) = true then kvs.map (fun kv => if kv.1 = k then (kv.1, v) else kv) else kvs ++ [(k, v)]

theorem valV_pos {p : κ × V} {r : List (κ × V)} {k : κ} (e : p.1 = k) : valV (p :: r) k = some p.2 := by simp [valV, List.find?_cons, e]
theorem valV_neg {p : κ × V} {r : List (κ × V)} {k : κ} (e : ¬ p.1 = k) : valV (p :: r) k = valV r k := by simp [valV, List.find?_cons, e]
theorem valV_any (k : κ) : ∀ kvs : List (κ × V), (kvs.any fun kv => decide (kv.1 = k)) = (valV kvs k).isSome
  | [] => rfl
  | p :: r => by
    rw [List.any_cons]
    by_cases e : p.1 = k
    · simp only [valV_pos e, decide_eq_true e, Bool.true_or, Option.isSome_some]
    · rw [valV_neg e, decide_eq_false e, Bool.false_or]; exact valV_any k r
theorem length_putK (kvs : List (κ × V)) (k : κ) (v : V) : (putK kvs k v).length ≤ kvs.length + 1 := by
  unfold putK
  split
  · rw [List.length_map]; omega
  · rw [List.length_append, List.length_cons, List.length_nil]; omega
theorem putK_new {kvs : List (κ × V)} {k : κ} (v : V) (h : valV kvs k = none) : putK kvs k v = kvs ++ [(k, v)] := by
  unfold putK
  rw [valV_any, h]
  exact if_neg (by decide)

theorem RelO.isSome_eq {o : Option V} {u : Option Value} (r : RelO o u) : o.isSome = u.isSome := by
  cases o with
  | none => cases u with
    | none => rfl
    | some _ => exact (show False from r).elim
  | some _ => cases u with
    | none => exact (show False from r).elim
    | some _ => rfl

/-- raw tables of the same keys -/
theorem KV.val {kvs : List (κ × V)} {vs : List (κ × Value)} (r : KV kvs vs) (k : κ) : RelO (valV kvs k) (valueAt vs k) := by
  unfold KV at r
  induction r with
  | nil => exact True.intro
  | @cons p q ps qs h t ih =>
    obtain ⟨h1, h2⟩ := h
    by_cases e : p.1 = k
    · have e' : q.1 = k := h1.symm.trans e
      have b : valueAt (q :: qs) k = some q.2 := by simp [valueAt, List.find?_cons, e']
      rw [valV_pos e, b]; exact h2
    · have e' : ¬ q.1 = k := fun z => e (h1.trans z)
      have b : valueAt (q :: qs) k = valueAt qs k := by simp [valueAt, List.find?_cons, e']
      rw [valV_neg e, b]; exact ih
theorem KV.any {kvs : List (κ × V)} {vs : List (κ × Value)} (r : KV kvs vs) (k : κ) : (kvs.any fun kv => decide (kv.1 = k)) = vs.any fun kv => decide (kv.1 = k) := by
  unfold KV at r
  induction r with
  | nil => rfl
  | cons h t ih => rw [List.any_cons, List.any_cons, ih, h.1]
theorem KV.repl {kvs : List (κ × V)} {vs : List (κ × Value)} (r : KV kvs vs) (k : κ) {y : V} {u : Value} (ry : RelV y u) :
    KV (kvs.map fun kv => if kv.1 = k then (kv.1, y) else kv) (vs.map fun kv => if kv.1 = k then (kv.1, u) else kv) := by
  unfold KV at r ⊢
  induction r with
  | nil => exact .nil
  | @cons p q ps qs h t ih =>
    rw [List.map_cons, List.map_cons]
    refine .cons ?_ ih
    obtain ⟨h1, h2⟩ := h
    by_cases e : p.1 = k
    · rw [if_pos e, if_pos (h1.symm.trans e)]; exact ⟨h1, ry⟩
    · rw [if_neg e, if_neg (fun z => e (h1.trans z))]; exact ⟨h1, h2⟩
theorem KV.put {kvs : List (κ × V)} {vs : List (κ × Value)} (r : KV kvs vs) (k : κ) {y : V} {u : Value} (ry : RelV y u) : KV (putK kvs k y) (stored vs k u) := by
  unfold putK stored
  rw [r.any k]
  by_cases e : (vs.any fun kv => decide (kv.1 = k)) = true
  · rw [if_pos e, if_pos e]; exact r.repl k ry
  · rw [if_neg e, if_neg e]; exact Paired.snoc r ⟨rfl, ry⟩
theorem KV.length {kvs : List (κ × V)} {vs : List (κ × Value)} (r : KV kvs vs) : kvs.length = vs.length := Paired.length r
end


/-! ### a tracked dict, its keys ints and texts or tuples of these -/
theorem kV_is {P : Program} {w : World} {k : Key} {u : Value} (r : RelV (kV k) u) : (mixKind P w).is k u = true := by
  cases k with
  | inl i => obtain ⟨t, e⟩ := (show ∃ t, u = Value.int i t from r); subst e; exact mixKind_int P w i t
  | inr x => obtain ⟨t, e⟩ := (show ∃ t, u = Value.str x t from r); subst e; exact mixKind_str P w x t
theorem items_are {P : Program} {w : World} : ∀ {ks : List Key} {us : List Value}, Vals (ks.map kV) us → ItemsAre (mixKind P w) ks us
  | [], _, r => by rw [List.map_nil] at r; cases r; exact .nil
  | k :: ks, _, r => by
    rw [List.map_cons] at r
    cases r with
    | cons h t => exact .cons (kV_is h) (items_are t)

/-- raw entries of a dict with tuple keys -/
abbrev KT (H : Hp) : List (List Key × V) → List (List Key × Addr × Value) → Prop := Paired fun p q => p.1 = q.1 ∧ H q.2.1 = some (.tup (p.1.map kV)) ∧ RelV p.2 q.2.2
theorem KT.val {H : Hp} {kvs : List (List Key × V)} {xs : List (List Key × Addr × Value)} (r : KT H kvs xs) (k : List Key) : RelO (valV kvs k) ((atKey xs k).map (·.2)) := by
  induction r with
  | nil => exact True.intro
  | @cons p q ps qs h t ih =>
    obtain ⟨h1, _, h2⟩ := h
    by_cases e : p.1 = k
    · have e' : q.1 = k := h1.symm.trans e
      have b : atKey (q :: qs) k = some q.2 := by simp [atKey, List.find?_cons, e']
      rw [valV_pos e, b]; exact h2
    · have e' : ¬ q.1 = k := fun z => e (h1.trans z)
      have b : atKey (q :: qs) k = atKey qs k := by simp [atKey, List.find?_cons, e']
      rw [valV_neg e, b]; exact ih
theorem KT.repl {H : Hp} {kvs : List (List Key × V)} {xs : List (List Key × Addr × Value)} (r : KT H kvs xs) (k : List Key) {y : V} {u : Value} (ry : RelV y u) :
    KT H (kvs.map fun kv => if kv.1 = k then (kv.1, y) else kv) (xs.map (putAt k u)) := by
  induction r with
  | nil => exact .nil
  | @cons p q ps qs h t ih =>
    rw [List.map_cons, List.map_cons]
    refine .cons ?_ ih
    obtain ⟨h1, h2, h3⟩ := h
    unfold putAt
    by_cases e : p.1 = k
    · rw [if_pos e, if_pos (h1.symm.trans e)]; exact ⟨h1, h2, ry⟩
    · rw [if_neg e, if_neg (fun z => e (h1.trans z))]; exact ⟨h1, h2, h3⟩
theorem KT.put {H : Hp} {kvs : List (List Key × V)} {xs : List (List Key × Addr × Value)} (r : KT H kvs xs) (k : List Key) {b : Addr} {y : V} {u : Value} (hb : H b = some (.tup (k.map kV))) (ry : RelV y u) :
    KT H (putK kvs k y) (storedH xs k b u) := by
  have e : (kvs.any fun kv => decide (kv.1 = k)) = (atKey xs k).isSome := by
    rw [valV_any, (r.val k).isSome_eq, Option.isSome_map]
  unfold putK storedH
  rw [e]
  by_cases q : (atKey xs k).isSome = true
  · rw [if_pos q, if_pos q]; exact r.repl k ry
  · rw [if_neg q, if_neg q]; exact Paired.snoc r ⟨rfl, hb, ry⟩
theorem KT.keeps {H H' : Hp} {kvs : List (List Key × V)} {xs : List (List Key × Addr × Value)} (r : KT H kvs xs) (ht : ∀ b ys, H b = some (.tup ys) → H' b = some (.tup ys)) : KT H' kvs xs :=
  Paired.mapP r fun _ _ z => ⟨z.1, ht _ _ z.2.1, z.2.2⟩

section
variable {P : Program} {w : World} {H : Hp} {h : Heap} {a : Addr}
theorem rd_of {u : HO} (ok : HOk P w H h) (e : Rd H a u) : ObjOk P w H h a u := e.ok ok
theorem dk_rd {kvs : List (Key × V)} (ok : HOk P w H h) (e : Rd H a (.dK kvs)) : kvs.length ≤ sizeLine ∧ (a == sysModules) = false ∧ ∃ vs, KV kvs vs ∧ h.DictOf (mixKind P w) a vs :=
  show ObjOk P w H h a (.dK kvs) from rd_of ok e
theorem dk_of {kvs : List (Key × V)} (ok : HOk P w H h) (e : H a = some (.dK kvs)) : kvs.length ≤ sizeLine ∧ (a == sysModules) = false ∧ ∃ vs, KV kvs vs ∧ h.DictOf (mixKind P w) a vs := dk_rd ok (.inl e)
/-- a tracked tuple of ints and texts is a key -/
theorem key_of {ks : List Key} (ok : HOk P w H h) (e : H a = some (.tup (ks.map kV))) : (tupleKind (mixKind P w)).is h ks a := by
  obtain ⟨_, its, r, o, h1, h2, n, h3⟩ := (show ObjOk P w H h a (.tup (ks.map kV)) from ok a _ e)
  exact ⟨o, its.toArray, n, h1, h2, h3, by simpa using items_are r⟩
theorem dt_rd {kvs : List (List Key × V)} (ok : HOk P w H h) (e : Rd H a (.dT kvs)) : kvs.length ≤ sizeLine ∧ (a == sysModules) = false ∧
    ∃ xs, KT H kvs xs ∧ h.DictOfH (tupleKind (mixKind P w)) a xs := by
  obtain ⟨z, y, xs, r, o, es, ep, h1, h2, h3, h4, h5⟩ := (show ObjOk P w H h a (.dT kvs) from rd_of ok e)
  refine ⟨z, y, xs, r, o, es, ep, h1, h2, h3, h4, fun x hx => ?_, h5⟩
  have all : ∀ {l : List (List Key × V)} {m : List (List Key × Addr × Value)}, KT H l m → ∀ x ∈ m, (tupleKind (mixKind P w)).is h x.1 x.2.1 := by
    intro l m q
    induction q with
    | nil => intro x hx; exact nomatch hx
    | @cons p q ps qs hq t ih =>
      intro x hx
      rcases List.mem_cons.mp hx with e | hx
      · subst e
        exact key_of ok (by rw [← hq.1]; exact hq.2.1)
      · exact ih x hx
  exact all r x hx
theorem dt_of {kvs : List (List Key × V)} (ok : HOk P w H h) (e : H a = some (.dT kvs)) : kvs.length ≤ sizeLine ∧ (a == sysModules) = false ∧
    ∃ xs, KT H kvs xs ∧ h.DictOfH (tupleKind (mixKind P w)) a xs := dt_rd ok (.inl e)
end

/-- what the dict at a holds at the key y -/
def DGet (H : Hp) (a : Addr) (y : V) (r : Option V) : Prop :=
  (∃ kvs k, Rd H a (.dK kvs) ∧ y = kV k ∧ r = valV kvs k) ∨ ∃ kvs k b, Rd H a (.dT kvs) ∧ y = .ref b ∧ H b = some (.tup (k.map kV)) ∧ r = valV kvs k
/-- the heap behind a[y] = v -/
def DPut (H : Hp) (a : Addr) (y v : V) (H' : Hp) : Prop :=
  (∃ kvs k, H a = some (.dK kvs) ∧ y = kV k ∧ kvs.length < sizeLine ∧ H' = upd H a (.dK (putK kvs k v))) ∨
  ∃ kvs k b, H a = some (.dT kvs) ∧ y = .ref b ∧ H b = some (.tup (k.map kV)) ∧ kvs.length < sizeLine ∧ H' = upd H a (.dT (putK kvs k v))
theorem DGet.k {H : Hp} {a : Addr} {kvs : List (Key × V)} {k : Key} (e : H a = some (.dK kvs)) : DGet H a (kV k) (valV kvs k) := .inl ⟨kvs, k, .inl e, rfl, rfl⟩
theorem DPut.k {H : Hp} {a : Addr} {kvs : List (Key × V)} {k : Key} {v : V} (e : H a = some (.dK kvs)) (hl : kvs.length < sizeLine) : DPut H a (kV k) v (upd H a (.dK (putK kvs k v))) := .inl ⟨kvs, k, e, rfl, hl, rfl⟩


section
variable {X : Cx} {pins : List (Addr × Obj)} {σ : St} {H : Hp} {s : Shared} {a : Addr} {y v : V} {u r : Value} {o : Option V} {A : Around} {E : Value → Shared → Prop}

theorem Inv.big (I : Inv X pins σ H s) : sysModules < s.heap.objs.size := by
  have h : mainGlobals < s.heap.objs.size := (I.mod.glob.keeps I.bk).lt
  exact Nat.lt_trans (by decide) h

/-- d[y], there -/
theorem d_getItem {Q : Value → Shared → Prop} (hu : A.units + 1 < cLine) (I : Inv X pins σ H s) (g : DGet H a y (some v)) (ry : RelV y u) (h : ∀ w' s', Inv X pins σ H s' → RelV v w' → Q w' s') :
    wpAny (model X.prog X.w) A (getItem (.ref a) u) Q E s := by
  rcases g with ⟨kvs, k, e, ey, l⟩ | ⟨kvs, k, b, e, ey, eb, l⟩
  · subst ey
    obtain ⟨z, hd, vs, rel, dd⟩ := dk_rd I.hok e
    obtain ⟨w', hw, rw'⟩ := RelO.some_of (v := v) (o := valueAt vs k) (by rw [l]; exact rel.val k)
    exact wpAny_getItem_of (kV_is ry) dd.mapOf hw (h w' _ (I.tok _) rw')
  · subst ey
    cases (show u = Value.ref b from ry)
    obtain ⟨z, hd, xs, rel, dd⟩ := dt_rd I.hok e
    obtain ⟨w', hw, rw'⟩ := RelO.some_of (v := v) (o := (atKey xs k).map (·.2)) (by rw [l]; exact rel.val k)
    obtain ⟨p, hp, hp2⟩ := Option.map_eq_some_iff.mp hw
    refine wpAny_getItem_heap (tupleKind_room_in1 hu) (key_of I.hok eb) dd hp ?_
    rw [hp2]
    exact h w' _ (I.tok _) rw'
/-- y in d -/
theorem d_in {Q : Value → Shared → Prop} (hu : A.units + 1 < cLine) (I : Inv X pins σ H s) (g : DGet H a y o) (ry : RelV y u) (h : ∀ s', Inv X pins σ H s' → Q (.bool o.isSome) s') :
    wpAny (model X.prog X.w) A (compareOp .In u (.ref a)) Q E s := by
  rcases g with ⟨kvs, k, e, ey, l⟩ | ⟨kvs, k, b, e, ey, eb, l⟩
  · subst ey
    obtain ⟨z, hd, vs, rel, dd⟩ := dk_rd I.hok e
    refine wpAny_in_of (kV_is ry) hd dd.mapOf ?_
    rw [← (rel.val k).isSome_eq, ← l]
    exact h _ (I.tok _)
  · subst ey
    cases (show u = Value.ref b from ry)
    obtain ⟨z, hd, xs, rel, dd⟩ := dt_rd I.hok e
    refine wpAny_in_heap (tupleKind_room_in1 hu) (key_of I.hok eb) hd dd ?_
    have q := (rel.val k).isSome_eq
    rw [Option.isSome_map] at q
    rw [← q, ← l]
    exact h _ (I.tok _)
theorem d_notIn {Q : Value → Shared → Prop} (hu : A.units + 1 < cLine) (I : Inv X pins σ H s) (g : DGet H a y o) (ry : RelV y u) (h : ∀ s', Inv X pins σ H s' → Q (.bool (!o.isSome)) s') :
    wpAny (model X.prog X.w) A (compareOp .NotIn u (.ref a)) Q E s := by
  rcases g with ⟨kvs, k, e, ey, l⟩ | ⟨kvs, k, b, e, ey, eb, l⟩
  · subst ey
    obtain ⟨z, hd, vs, rel, dd⟩ := dk_rd I.hok e
    refine wpAny_notIn_of (kV_is ry) hd dd.mapOf ?_
    rw [← (rel.val k).isSome_eq, ← l]
    exact h _ (I.tok _)
  · subst ey
    cases (show u = Value.ref b from ry)
    obtain ⟨z, hd, xs, rel, dd⟩ := dt_rd I.hok e
    refine wpAny_notIn_heap (tupleKind_room_in1 hu) (key_of I.hok eb) hd dd ?_
    have q := (rel.val k).isSome_eq
    rw [Option.isSome_map] at q
    rw [← q, ← l]
    exact h _ (I.tok _)
/-- a dict's object is replaced -/
theorem d_write {h' : Heap} {t' : Nat} {ob : HO} (I : Inv X pins σ H s) (mu : Mut (H a)) (hs : Heap.SameBut a s.heap h') (he : ∃ q, h'.get? a = some q) (new : ObjOk X.prog X.w (upd H a ob) h' a ob) :
    Inv X pins σ (upd H a ob) { s with heap := h', toks := t' } :=
  I.write (x := a) (e := a) mu (.inl rfl) (fun b q hb z => (hs.2 b hb).trans z) he new
theorem dk_new {P : Program} {w : World} {H' : Hp} {h' : Heap} {kvs : List (Key × V)} {vs : List (Key × Value)} (z : kvs.length ≤ sizeLine) (hd : (a == sysModules) = false) (rel : KV kvs vs) (dd : h'.DictOf (mixKind P w) a vs) :
    ObjOk P w H' h' a (.dK kvs) := ⟨z, hd, vs, rel, dd⟩
/-- d[y] = v -/
theorem d_setItem {H' : Hp} {Q : Unit → Shared → Prop} (hu : A.units + 1 < cLine) (I : Inv X pins σ H s) (g : DPut H a y v H') (ry : RelV y u) (rv : RelV v r) (h : ∀ s', Inv X pins σ H' s' → Q () s') :
    wpAny (model X.prog X.w) A (setItem (.ref a) u r) Q E s := by
  rcases g with ⟨kvs, k, e, ey, l, eH⟩ | ⟨kvs, k, b, e, ey, eb, l, eH⟩
  · subst ey eH
    obtain ⟨z, hd, vs, rel, dd⟩ := dk_of I.hok e
    have hz : vs.length ≤ sizeLine := by rw [← rel.length]; exact z
    have hl : (putK kvs k v).length ≤ sizeLine := by have := length_putK kvs k v; omega
    refine wpAny_setItem_pairs (hsz := hz) (kV_is ry) dd fun h' dd' hs => h _ ?_
    have he : ∃ q, h'.get? a = some q := let ⟨q, _, _, hq, _⟩ := dd'; ⟨q, hq⟩
    exact d_write I (by rw [e]; exact True.intro) hs he (dk_new hl hd (rel.put k rv) dd')
  · subst ey eH
    cases (show u = Value.ref b from ry)
    obtain ⟨z, hd, xs, rel, dd⟩ := dt_of I.hok e
    have hz : xs.length ≤ sizeLine := by rw [← Paired.length rel]; exact z
    have hl : (putK kvs k v).length ≤ sizeLine := by have := length_putK kvs k v; omega
    refine wpAny_setItem_heap (hsz := hz) (tupleKind_room_in1 hu) (key_of I.hok eb) dd fun h' dd' hs => h _ ?_
    obtain ⟨q, es, ep, hq, h2, h3, h4, _, h5⟩ := dd'
    refine d_write I (by rw [e]; exact True.intro) hs ⟨q, hq⟩ ⟨hl, hd, _, (rel.put k eb rv).keeps fun c ys ec => ?_, q, es, ep, hq, h2, h3, h4, h5⟩
    rw [upd_ne (ne_of ec e (fun z => nomatch z))]
    exact ec
end

section
variable {X : Cx} {pins : List (Addr × Obj)} {σ : St} {H : Hp} {s : Shared} {a : Addr} {kvs : List (Key × V)} {k : Key} {u : Value} {A : Around} {E : Value → Shared → Prop}
end


/-! ### readings and rules -/
/-- the element of a subscription, not a slice -/
def NoSl (i : Expr) : Prop := ∀ ov iv, subscripted i false ov iv = operate [ov, iv] (getItem ov iv)
theorem subD_of {prog : Program} {w : World} {A : Around} {E : Value → Shared → Prop} {s : Shared} {env : Env} {value slice : Expr} {pos : Pos} {T id : String} {Q : Value → Shared → Prop}
    (hl : typeLookup (.type T) "__getitem__" = pure (some (.builtin id))) (hs : NoSl slice)
    (h : wpAny (model prog w) A (eval value env) (fun o s₁ => wpAny (model prog w) A (eval slice env) (fun i s₂ => s₂.TypeIs o T ∧ wpAny (model prog w) A (getItem o i) Q E s₂) E s₁) E s) :
    wpAny (model prog w) A (eval (.Subscript value slice pos) env) Q E s := by
  refine Subscript_ (wpAny_mono h (fun o s₁ h₁ => wpAny_mono h₁ (fun i s₂ h₂ => ?_) fun _ _ x => x) fun _ _ x => x)
  obtain ⟨hT, h₂⟩ := h₂
  unfold subscriptTail
  refine wpAny_bind ?_
  rw [getitemInPython_of_ne hT.not_modules]
  refine wpAny_bind (wpAny_specialOf hT hl ?_)
  have fin : wpAny (model prog w) A (subscripted slice false o i) (fun r s₃ => wpAny (model prog w) A (letTemporaryGo value o r >>= fun _ => pure r) Q E s₃) E s₂ := by
    rw [hs o i]
    exact wpAny_operating (wpAny_mono h₂ (fun r s₃ h₃ => wpAny_bind (wpAny_letTemporaryGo (wpAny_pure h₃))) fun _ _ x => x)
  first
    | exact wpAny_pure (wpAny_bind fin)
    | exact wpAny_bind (wpAny_pure (wpAny_bind fin))
    | exact wpAny_bind fin

theorem dict_typeIs {X : Cx} {pins : List (Addr × Obj)} {σ : St} {H : Hp} {s : Shared} {a : Addr} {y : V} {o : Option V} (I : Inv X pins σ H s) (g : DGet H a y o) : s.TypeIs (.ref a) "dict" := by
  rcases g with ⟨kvs, k, e, _, _⟩ | ⟨kvs, k, b, e, _, _, _⟩
  · obtain ⟨_, _, vs, _, dd⟩ := dk_rd I.hok e
    exact dd.typeIs
  · obtain ⟨_, _, xs, _, dd⟩ := dt_rd I.hok e
    exact dd.typeIs

/-- d[y] -/
def tDGet (td ty : TE) : TE := fun σ H Q => td σ H fun x H1 => ty σ H1 fun y H2 => ∃ a v, x = .ref a ∧ DGet H2 a y (some v) ∧ Q v H2
/-- y in d, y not in d -/
def tDIn (ty td : TE) : TE := fun σ H Q => ty σ H fun y H1 => td σ H1 fun x H2 => ∃ a o, x = .ref a ∧ DGet H2 a y o ∧ Q (.bl o.isSome) H2
def tDNotIn (ty td : TE) : TE := fun σ H Q => ty σ H fun y H1 => td σ H1 fun x H2 => ∃ a o, x = .ref a ∧ DGet H2 a y o ∧ Q (.bl (!o.isSome)) H2
/-- d[y] = v -/
def sDPut (td ty tv : TE) : TS := fun D σ H => tv σ H fun v H1 => td σ H1 fun x H2 => ty σ H2 fun y H3 => ∃ a H4, x = .ref a ∧ DPut H3 a y v H4 ∧ D.nx σ H4

section
variable {X : Cx} {o i e value : Expr} {pos pos' tpos : Pos} {td ty tv : TE}
theorem pe_dget (hu : X.A.units + 1 < cLine) (ho : PE X o td) (hi : PE X i ty) (hs : NoSl i) : PE X (.Subscript o i pos) (tDGet td ty) := by
  intro pins s σ H Q I h
  refine subD_of PySem.F.slot_dict_getitem.lookup hs (thn (ho pins s σ H _ I h) fun u s1 ⟨x, H1, I1, rx, q1⟩ => thn (hi pins s1 σ H1 _ I1 q1) fun iv s2 ⟨y, H2, I2, ry, a, v, ex, g, q2⟩ => ?_)
  subst ex
  obtain rfl : u = Value.ref a := rx
  exact ⟨dict_typeIs I2 g, d_getItem hu I2 g ry fun w' s3 I3 rw' => ⟨v, H2, I3, rw', q2⟩⟩
theorem pc_din (hu : X.A.units + 1 < cLine) (hi : PE X i ty) (ho : PE X o td) : PC X .In i o (tDIn ty td) := by
  intro pins s σ H Q I h
  refine thn (hi pins s σ H _ I h) fun iv s1 ⟨y, H1, I1, ry, q1⟩ => thn (ho pins s1 σ H1 _ I1 q1) fun u s2 ⟨x, H2, I2, rx, a, ov, ex, g, q2⟩ => ?_
  subst ex
  obtain rfl : u = Value.ref a := rx
  exact d_in hu I2 g ry fun s3 I3 => ⟨.bl ov.isSome, H2, I3, rfl, q2⟩
theorem pc_dnotin (hu : X.A.units + 1 < cLine) (hi : PE X i ty) (ho : PE X o td) : PC X .NotIn i o (tDNotIn ty td) := by
  intro pins s σ H Q I h
  refine thn (hi pins s σ H _ I h) fun iv s1 ⟨y, H1, I1, ry, q1⟩ => thn (ho pins s1 σ H1 _ I1 q1) fun u s2 ⟨x, H2, I2, rx, a, ov, ex, g, q2⟩ => ?_
  subst ex
  obtain rfl : u = Value.ref a := rx
  exact d_notIn hu I2 g ry fun s3 I3 => ⟨.bl (!ov.isSome), H2, I3, rfl, q2⟩
theorem ps_dput (hu : X.A.units + 1 < cLine) (ho : PE X o td) (hi : PE X i ty) (hv : PE X value tv) (hs : swapsWith value (some (.Subscript o i pos')) pos.line X.env = pure false) :
    PS X (.Assign [.Subscript o i pos'] value pos) (sDPut td ty tv) := by
  intro pins s σ H D I h
  refine wpAny_Assign_Subscript (thn (hv pins s σ H _ I h) fun r s1 ⟨v, H1, I1, rv, q1⟩ => thn (ho pins s1 σ H1 _ I1 q1) fun u s2 ⟨x, H2, I2, rx, q2⟩ => thn (hi pins s2 σ H2 _ I2 q2) fun iv s3 ⟨y, H3, I3, ry, a, H4, ex, g, q3⟩ => ?_) hs
  subst ex
  obtain rfl : u = Value.ref a := rx
  exact d_setItem hu I3 g ry rv fun s4 I4 => ⟨σ, H4, I4, q3⟩
end


/-! ### displays -/
theorem dk_empty {P : Program} {w : World} {H : Hp} (h : Heap) (hb : sysModules < h.objs.size) : ObjOk P w H (h.push { cls := .type "dict", data := .dict #[] }) h.objs.size (.dK []) :=
  ⟨Nat.zero_le _, beq_eq_false_iff_ne.mpr (Ne.symm (Nat.ne_of_lt hb)), [], .nil, Heap.DictOf.new h⟩
/-- {}, to be a dict of the kind that is wanted -/
def tDNewK : TE := fun _ H Q => ∀ p, H p = none → Q (.ref p) (upd H p (.dK []))
section
variable {X : Cx} {pos : Pos}
theorem pe_dnewK : PE X (.Dict [] [] pos) tDNewK := fun pins s σ H Q I h =>
  wpAny_Dict_empty ⟨.ref s.heap.objs.size, _, I.laid (a := s.heap.objs.size) (o := .dK []) (t' := s.toks) (fun _ _ q => Heap.get?_push_of_some _ q) (Nat.le_refl _) (dk_empty s.heap I.big), rfl, h _ (I.hok.fresh (Nat.le_refl _))⟩
end




/-! ### methods -/


section
variable {X : Cx} {pins : List (Addr × Obj)} {σ : St} {H : Hp} {s : Shared} {a : Addr} {y d : V} {u r : Value} {o : Option V} {A : Around} {E : Value → Shared → Prop}
end

section
variable {X : Cx} {o e f : Expr} {apos cpos : Pos} {td ty tx : TE}
end

/-! ### dict(d): a copy -/
section
variable {X : Cx} {pins : List (Addr × Obj)} {σ : St} {H : Hp} {s : Shared} {a : Addr} {kvs : List (Key × V)} {A : Around} {E : Value → Shared → Prop}
end


section
variable {X : Cx} {pins : List (Addr × Obj)} {σ : St} {H : Hp} {s : Shared} {a : Addr} {y : V} {u : Value} {A : Around} {E : Value → Shared → Prop}
end
end L2

namespace Att
open PySem PySem.W PySem.Calls PyProof.Rows

/-! ### the script -/
theorem ints_of_wellAll {P : Params} {h : Heap} : ∀ (ns : List Int) (vs : List Value), WellAll P h vs (ns.map WData.int) → IntsAre vs ns := by
  intro ns
  induction ns with
  | nil =>
    intro vs w
    rw [List.map_nil] at w
    cases w
    exact .nil
  | cons n ns ih =>
    intro vs w
    rw [List.map_cons] at w
    cases w with
    | cons a b =>
      cases a
      exact .cons _ _ (ih _ b)

theorem script_of {l : OpenLaw} {n : Nat} (hn : l.most = some n) {P : Params} {h : Heap} {args : List WData} {vals : List Value}
    (hpre : l.row.toRowW.claim.pre args = true) (hwl : WellAll P h vals args) :
    ∃ a vs ns, vals = [Value.ref a] ∧ args = [WData.list (ns.map WData.int)] ∧ h.get? a = some { cls := .type "list", data := .seq vs.toArray } ∧ IntsAre vs ns ∧ ns.length ≤ n := by
  have hsh : WShape.hasAll [] args [.list .int] = true := (pre_splitW hpre).1
  have hc : l.pre.holds [] { args := args } = true := (pre_splitW hpre).2
  obtain ⟨d, r, rfl, h1, h2⟩ := hasAllW_cons hsh
  obtain rfl := hasAllW_nil h2
  obtain ⟨xs, rfl, h3⟩ := hasW_list h1
  obtain ⟨ns, rfl⟩ := items_int h3
  have hlen : ns.length ≤ n := by
    unfold OpenLaw.pre at hc
    have h4 : (WTm.not (.lt (.lit (.int (n : Int))) (.len (.arg 0)))).holds [] { args := [.list (ns.map .int)] } = true := by
      have h4 := (holds_andW hc).1
      rw [hn] at h4
      exact h4
    have h5 := condW_of h4 (w_not (w_lt w_lit (w_len_list (w_arg rfl))))
    rw [List.length_map] at h5
    refine Nat.le_of_not_lt fun q => ?_
    have q' : (n : Int) < ((ns.length : Nat) : Int) := by omega
    first
      | (rw [decide_eq_true q'] at h5; exact absurd h5 (by decide))
      | (simp at h5; omega)
  cases hwl with
  | cons w1 w2 =>
    cases w2
    cases w1 with
    | list ho hall => exact ⟨_, _, ns, rfl, rfl, ho, ints_of_wellAll ns _ hall, hlen⟩

theorem post_true (l : OpenLaw) (args : List WData) : l.row.toRowW.claim.post args (.bool true) args = true :=
  postW_of (r := l.row.toRowW) (X := (true == true))
    (show WShape.has [] (.bool true) .bool = true by first | rfl | decide | simp [WShape.has, WShape.arms, WShape.armsAll])
    (show (WTm.eq .res (.lit (.bool true))).value [] { args := args, res := some (.bool true), after := args } = some (.bool (true == true)) from w_eq_bool (w_res rfl) w_lit) rfl

/-! ### the attachment: holds_open's last premise (the goal 'hc' behind k_head) from a wpAny of the law's body -/

/-- the same from a codeAny of the CALL (for a layer whose function contracts speak of calls) -/
theorem attach_call {l : OpenLaw} {n : Nat} {q : Program} {loose : List Str} {XP : (Str → Option Value) → Heap → Prop} {YP : World → Heap → Prop} {d : DefRec}
    (hn : l.most = some n) (hdf : d.params.defaults = [])
    (call : ∀ (w : World) (s₀ s₁ : Shared) (mg mb : Str → Option Value) (fa : Addr) (o : Obj) (pm cd doc : Value) (a : Addr) (vs : List Value) (ns : List Int),
      Ground q loose [] XP w s₀ mg mb s₁.heap → YP w s₁.heap →
      s₁.heap.get? fa = some o → o.data = .func (docDef d.name d.params d.body d.scope pm cd doc) → s₁.heap.CodeRec cd d.name → mg d.name = some (.ref fa) →
      s₁.heap.get? a = some { cls := .type "list", data := .seq vs.toArray } → IntsAre vs ns → ns.length ≤ n → s₁.gens = #[] →
      codeAny (model l.prog w) callerA (.call (.ref fa) ⟨[.ref a], []⟩) (fun r s' => r = .ok (.ret (.bool true)) ∧ OldK s₁.heap s'.heap ∧ s'.os = s₁.os ∧ AllBare s'.gens) s₁) :
    WalkO q loose XP YP l.row.toRowW d [] (fun f vs => PySem.call f vs) := by
  intro w s₀ s₁ mg mb G Y fa o pm cd doc dV kV ho hd hcd hD hmg hg args vals as hpre hlay hrd hwl hlo
  obtain rfl : dV = .none := Dflts.none hD hdf
  obtain rfl : kV = .none := Dflts.noKw hD
  obtain ⟨a, vs, ns, rfl, rfl, hobj, hints, hlen⟩ := script_of hn hpre hwl
  refine enter_call (codeAny_mono (call w s₀ s₁ mg mb fa o pm cd doc a vs ns G Y ho (fd_plain hd) hcd hmg hobj hints hlen hg) fun r s' hq => ?_)
  obtain ⟨rfl, h2, h3, h4⟩ := hq
  exact ⟨.inl ⟨.bool true, .bool true, [], rfl, fun _ => rfl, .bool true, post_true l _, fun _ => ⟨List.Pairwise.nil, fun _ hm => (nomatch hm)⟩⟩, h2, h3, h4⟩


/-! ### rules over ANY heap (no ledger) from facts about the written part K: the library's own take a ledger (News) for what they write -/
section
variable {prog : Program} {w : World} {A : Around} {E : Value → Shared → Prop} {s : Shared} {K : Frag}





/-! the whole heap as the ledger: makes every rule that writes through a ledger a rule over any heap -/

end
end Att

namespace L2
open PySem PySem.Spec PyProof.Rows

theorem vals_ints : ∀ {vs : List Value} {ns : List Int}, IntsAre vs ns → Vals (ns.map V.int) vs
  | _, _, .nil => .nil
  | _, _, .cons n t h => .cons ⟨t, rfl⟩ (vals_ints h)

/-- nothing is tracked but the script, known to the object (or it is an object of the module) -/
def Only (H : Hp) : Prop := ∀ b, H b = none ∨ ∃ o xs, H b = some (.frz o (.lst xs))

/-- THE HEAD: the law's promise, at the heap behind the top. F, the promise of the law's def, may use that base is part of the heap (so K.In base, base.Ns mainGlobals mg stand in Mod) -/
theorem law_call {P : Program} {w : World} {K : PySem.W.Frag} {mg mb : Str → Option Value} {CX : CXT} {k : Nat} {fa a : Addr} {fd : FuncData} {x : Str} {sp : Sp} {s₁ : Shared} {vs : List Value} {ns : List Int}
    (KX : K.In s₁.heap) (hns : s₁.heap.Ns mainGlobals mg) (hb : s₁.heap.Ns builtinsNs mb) (hbb : ∀ x : Str, x ≠ "__name__" → mb x = bootBuiltins x) (hlim : s₁.heap.NoLimit) (hg : s₁.gens = #[])
    (ha : s₁.heap.get? a = some { cls := .type "list", data := .seq vs.toArray }) (hi : IntsAre vs ns) (hl : ns.length ≤ sizeLine) (hr : Room k callerA)
    (F : ∀ base : Heap, K.In base → base.Ns mainGlobals mg → FnOk P w K mg base CX k fa fd [x] sp) (hbind : ∀ (s : Shared) (u : Value), BindsTo s fd ⟨[u], []⟩ [(x, u)])
    (hsp : ∀ H : Hp, Only H → SqL K H a (ns.map V.int) → sp [.ref a] H (fun v _ => v = .bl true) fun _ _ _ => False)
    (hCX : ∀ H e s', CX [] H s₁ (fun _ _ _ => False) e s' → False) :
    codeAny (model P w) callerA (.call (.ref fa) ⟨[.ref a], []⟩) (fun r s' => r = .ok (.ret (.bool true)) ∧ OldK s₁.heap s'.heap ∧ s'.os = s₁.os ∧ AllBare s'.gens) s₁ := by
  have rv := vals_ints hi
  have lenV := hi.length
  -- from an abstract heap in which nothing but the script may be tracked
  have core : ∀ H : Hp, Only H → SqL K H a (ns.map V.int) → HOk P w H s₁.heap → (∀ b, H b ≠ none → b = a) → (H a ≠ none → K.lookup a = none) →
      codeAny (model P w) callerA (.call (.ref fa) ⟨[.ref a], []⟩) (fun r s' => r = .ok (.ret (.bool true)) ∧ OldK s₁.heap s'.heap ∧ s'.os = s₁.os ∧ AllBare s'.gens) s₁ := by
    intro H hO hS hok hA hK
    have base_of : ∀ {b : Addr} {o : Obj}, s₁.heap.get? b = some o → H b = none → (hidT s₁.heap H).get? b = some o := fun e n => hidT_get e n
    have noA : ∀ {b : Addr} {o : Obj} {es : Array DictEntry} {ep : Nat}, s₁.heap.get? b = some o → o.data = .dict es ep → H b = none := fun {b o es ep} e d => by
      cases q : H b with
      | none => rfl
      | some u =>
        have e' : b = a := hA b (by rw [q]; simp)
        subst e'
        rw [ha] at e; cases e
        have d' : Data.seq vs.toArray _ = Data.dict es ep := d
        cases d'
    have nsK : ∀ {b : Addr} {m : Str → Option Value}, s₁.heap.Ns b m → (hidT s₁.heap H).Ns b m := fun {b m} ⟨o, es, ep, e, d, r⟩ => ⟨o, es, ep, base_of e (noA e d), d, r⟩
    have hKb : K.In (hidT s₁.heap H) := fun b o e => base_of (KX b o e) (by
      cases q : H b with
      | none => rfl
      | some u =>
        have e' : b = a := hA b (by rw [q]; simp)
        subst e'
        rw [hK (by rw [q]; simp)] at e; cases e)
    have hM : Mod K mg (hidT s₁.heap H) := ⟨hKb, nsK hns, ⟨mb, nsK hb, hbb⟩, let ⟨mc, h1, h2⟩ := hlim; ⟨mc, nsK h1, h2⟩⟩
    have e0 : Env0 P w K mg (hidT s₁.heap H) callerA [] s₁ H := ⟨rfl, hM, fun b o e => of_hidT e, Nat.le_of_eq (hidT_size _ _), trivial, fun b hb => absurd (show b ∈ ([] : List Addr) from hb) (by simp), hok, .of_eq hg⟩
    refine codeAny_mono ((F _ hKb (nsK hns)).run callerA [] s₁ H ⟨[.ref a], []⟩ [.ref a] [.ref a] _ _ hr e0 (hbind s₁ (.ref a)) (.cons rfl .nil) (hsp H hO hS)) fun r s' h => ?_
    cases r with
    | error e => exact (hCX H e s' h).elim
    | ok fl =>
      cases fl with
      | next => exact False.elim h
      | brk => exact False.elim h
      | cont => exact False.elim h
      | ret u =>
        obtain ⟨v, H', os, bare, un, hok', r', q⟩ := h
        have q' : v = .bl true := q
        subst q'
        obtain rfl : u = Value.bool true := r'
        refine ⟨rfl, OldK.of_keep fun b o e => ?_, os, bare⟩
        cases q : H b with
        | none => exact un.keep b o e q (by intro z; exact absurd (show b ∈ ([] : List Addr) from z) (by simp)) (by simp)
        | some u =>
          rcases hO b with z | ⟨ob, xs, z⟩
          · rw [q] at z; cases z
          · have z2 := un.frzs b ob _ z
            obtain ⟨e1, _⟩ := hok b _ z
            obtain ⟨e2, _⟩ := hok' b _ z2
            rw [e] at e1; cases e1
            exact e2
  cases hk : K.lookup a with
  | some o =>
    -- the script is one of the module's own objects
    have e := KX a o hk
    rw [ha] at e
    cases e
    refine core (fun _ => none) (fun _ => .inl rfl) (.inr ⟨_, vs.toArray, _, hk, rfl, rfl, rfl, by rw [List.size_toArray, lenV]; exact hl, by simpa using rv⟩) (fun b u z => by have z' : (none : Option HO) = some u := z; cases z') (fun b z => absurd rfl z) fun z => absurd rfl z
  | none =>
    refine core (fun b => if b = a then some (.frz { cls := .type "list", data := .seq vs.toArray } (.lst (ns.map V.int))) else none) (fun b => ?_) (.inl (.inr ⟨{ cls := .type "list", data := .seq vs.toArray }, if_pos rfl⟩)) (fun b u z => ?_) (fun b z => ?_) fun _ => hk
    · by_cases hb : b = a
      · exact .inr ⟨_, _, if_pos hb⟩
      · exact .inl (if_neg hb)
    · by_cases hb : b = a
      · have z' := (if_pos hb).symm.trans z
        cases z'
        subst hb
        exact ⟨ha, by rw [List.length_map]; exact hl, vs, _, rv, ha⟩
      · have z' := (if_neg hb).symm.trans z
        cases z'
    · by_cases hb : b = a
      · exact hb
      · exact absurd (if_neg hb) z
end L2

namespace L2
open PySem PySem.Spec PyProof.Rows


/-- the goal that k_head leaves (case hc), from the law's promise. F gives the function object fd (K's own) once, then the promise over every base -/
theorem walk_of {l : PySem.W.OpenLaw} {n k : Nat} {q : Program} {loose : List Str} {XP : (Str → Option Value) → Heap → Prop} {YP : World → Heap → Prop} {d : DefRec} {K : Params → PySem.W.Frag} {CX : World → CXT} {sp : World → Sp} {x : Str}
    (hn : l.most = some n) (hn2 : n ≤ sizeLine) (hdf : d.params.defaults = []) (hr : Room k callerA)
    (hY : ∀ (w : World) (h : Heap), YP w h → (K w.params).In h)
    (F : ∀ (w : World) (mg : Str → Option Value) (fa : Addr) (h : Heap), (K w.params).In h → h.Ns mainGlobals mg → mg d.name = some (.ref fa) →
      ∃ fd : FuncData, (∀ (s : Shared) (u : Value), BindsTo s fd ⟨[u], []⟩ [(x, u)]) ∧
        ∀ base : Heap, (K w.params).In base → base.Ns mainGlobals mg → FnOk l.prog w (K w.params) mg base (CX w) k fa fd [x] (sp w))
    (hsp : ∀ (w : World) (H : Hp) (a : Addr) (ns : List Int), ns.length ≤ n → Only H → SqL (K w.params) H a (ns.map V.int) → sp w [.ref a] H (fun v _ => v = .bl true) fun _ _ _ => False)
    (hCX : ∀ (w : World) (H : Hp) (s : Shared) (e : Value) (s' : Shared), CX w [] H s (fun _ _ _ => False) e s' → False) :
    PySem.W.WalkO q loose XP YP l.row.toRowW d [] (fun f vs => PySem.call f vs) := by
  refine Att.attach_call hn hdf fun w s₀ s₁ mg mb fa o pm cd doc a vs ns G Y ho hd hcd hmg hobj hints hlen hg => ?_
  have KX := hY w _ Y
  obtain ⟨fd, hb, hF⟩ := F w mg fa _ KX G.T.g hmg
  exact law_call KX G.T.g G.T.b G.T.builtins G.T.nolimit hg hobj hints (Nat.le_trans hlen hn2) hr hF hb (fun H hO hS => hsp w H a ns hlen hO hS) fun H e s' => hCX w H s₁ e s'
end L2

/- THE LAST THEOREM (shape; LID, My.* are yours):
   My.Adr: a structure of the addresses that your layer names (classes, functions); My.Txt K t: a structure (Prop) of the equations over K;
   My.txt_mk : {K} {implicit addresses ..} (e1 : nsIn K mainGlobals "law" = some (some (.ref f))) (e2 : K.lookup f = some ⟨oc, od, .func (fnOf "law" "law" params body scope dV kV doc pm an cdv ct), sl⟩) (e3 : codeIn K cdv "law" = true) .. : ∃ t, My.Txt K t

set_option maxRecDepth 100000 in
set_option maxHeartbeats 0 in
theorem PySem.Challenge.cw_LID_holds : PySem.Challenge.rw_LID.Holds := by
  w_on; o_law; k_head; (case hw => w_witness2)
  k_fill
  refine L2.walk_of (l := PySem.Challenge.rw_LID) (n := 63) (k := 40) (x := "script") (CX := fun w => ..) (sp := fun _ => My.sp_law) rfl (by decide) rfl ⟨rfl, by decide, by decide⟩ (fun w h Y => PySem.W.kIn_of Y) ?F ?S ?C
  case F =>
    intro w mg fa h KX G hmg
    have T : ∃ t, My.Txt (L2.KOf KX) t := by
      dsimp only [L2.KOf]                          -- K must stand as «<heap const> w.params» for k_is
      refine' My.txt_mk ?e1 ?e2 ?e3 ..
      (case e1 => PySem.W.k_is)                    -- in the order: a name -> its address -> its object -> its parts
      (case e2 => PySem.W.k_is)
      ..
    obtain ⟨t, T⟩ := T
    have e0 := hmg.symm.trans (PySem.W.mg_of KX G T.law)
    cases e0                                       -- fa is the law's own address
    exact ⟨_, fun s u => .of_eq rfl, fun base kb nb => My.law_fn T kb nb⟩     -- if «.of_eq rfl» comes too early: refine' ⟨_, ?b, fun base kb nb => My.law_fn T kb nb⟩; exact fun s u => .of_eq rfl
  case S => exact fun w H a ns hl hO hS => ..
  case C => exact ..
(the tactic k_is has no namespace: write k_is) -/

/-! SHORT WORDS over the layer: a def of the text, its body, what a loop and a test want. -/
namespace L2
open PySem PySem.Spec PyProof.Rows

/-! ### the text by places -/
/-- the j-th statement of a class's body -/
def inClass (s : Stmt) (j : Nat) : Stmt := match s with
  | .ClassDef _ _ _ body _ _ _ _ _ _ _ => body.getD j (.Pass ⟨0, 0, 0, 0⟩)
  | _ => .Pass ⟨0, 0, 0, 0⟩
def defArgs (s : Stmt) : Arguments := match s with
  | .FunctionDef _ a _ _ _ _ _ _ _ _ => a
  | _ => { posonlyargs := [], args := [], vararg := none, kwonlyargs := [], kw_defaults := [], kwarg := none, defaults := [] }
def defBody (s : Stmt) : List Stmt := match s with
  | .FunctionDef _ _ b _ _ _ _ _ _ _ => b
  | _ => []
def defScope (s : Stmt) : Scope := match s with
  | .FunctionDef _ _ _ _ _ _ sc _ _ _ => sc
  | _ => { kind := .function, names := [], isGenerator := false, isCoroutine := false }

/-! ### no exception leaves a def -/
abbrev CX0 : CXT := fun _ _ _ _ _ _ => False
abbrev E0 : XK := fun _ _ _ => False
theorem pass0 {X : Cx} : Passes CX0 X E0 := fun _ _ _ _ _ _ _ h => h.elim

/-! ### a def (or method) of the text as it stands behind the top -/
structure Fun (K : PySem.W.Frag) (x qual : Str) (st : Stmt) (f : Addr) (fd : FuncData) : Prop where
  ex : ∃ (oc : Value) (od : Option Addr) (kV doc pm : Value) (an : Option Addr) (cdv ct : Value) (osl : Array (Option Value)),
    fd = PySem.W.fnOf x qual (defArgs st) (defBody st) (defScope st) .none kV doc pm an cdv ct ∧ K.lookup f = some ⟨oc, od, .func fd, osl⟩ ∧ PySem.W.codeIn K cdv qual = true
  kp : PySem.W.keepIn K (.ref f) = true
section
variable {P : Program} {w : World} {K : PySem.W.Frag} {mg : Str → Option Value} {base : Heap}
/-- THE RULE for a def: its body as a term of rules, and the reading of that term -/
theorem Fun.ok {x qual : Str} {st : Stmt} {f : Addr} {fd : FuncData} {N ps : List Str} {k : Nat} {sp : Sp} (F : Fun K x qual st f fd) (S : FnScope N ps (defScope st)) (len : ∀ vs H Q E, sp vs H Q E → vs.length = ps.length)
    (hbody : ∀ (cdv : Value) (A : Around) (outer : List Env) (s : Shared) (H : Hp) (vs : List V) (Q : VK) (E : XK), Room k (A.deeper (envOfC qual (defScope st) s.heap.objs.size f cdv)) → sp vs H Q E →
      ∃ t, PSs (cxOf CX0 P w K mg base N qual (defScope st) f cdv A outer s H E).nox (defBody st) t ∧ t { nx := fun _ H' => Q .non H', rt := Q } (start N vs) H) : FnOk P w K mg base CX0 (k + 1) f fd ps sp := by
  obtain ⟨oc, od, kV, doc, pm, an, cdv, ct, osl, rfl, lk, hcd⟩ := F.ex
  refine fn_of lk hcd S len fun A outer s H vs Q E hr hsp => ?_
  obtain ⟨t, h, q⟩ := hbody cdv A outer s H vs Q E hr hsp
  exact ⟨t, h.nox, q⟩
/-- how its arguments bind (no defaults): h is «fun _ _ _ _ _ _ us hl => match us, hl with | [_, _], _ => rfl», one _ a parameter -/
theorem Fun.binds {x qual : Str} {st : Stmt} {f : Addr} {fd : FuncData} {ps : List Str} (F : Fun K x qual st f fd)
    (h : ∀ (kV doc pm : Value) (an : Option Addr) (cdv ct : Value) (us : List Value), us.length = ps.length → bindArgs (PySem.W.fnOf x qual (defArgs st) (defBody st) (defScope st) .none kV doc pm an cdv ct) ⟨us, []⟩ = pure (ps.zip us)) : Binds K fd ps [] := by
  obtain ⟨oc, od, kV, doc, pm, an, cdv, ct, osl, rfl, lk, hcd⟩ := F.ex
  exact .all (h kV doc pm an cdv ct)
theorem fun_mk {x qual : Str} {st : Stmt} {f : Addr} {oc : Value} {od an : Option Addr} {osl : Array (Option Value)} {kV doc pm cdv ct : Value} (l : K.lookup f = some ⟨oc, od, .func (PySem.W.fnOf x qual (defArgs st) (defBody st) (defScope st) .none kV doc pm an cdv ct), osl⟩)
    (c : PySem.W.codeIn K cdv qual = true) (k : PySem.W.keepIn K (.ref f) = true) : Fun K x qual st f (PySem.W.fnOf x qual (defArgs st) (defBody st) (defScope st) .none kV doc pm an cdv ct) := ⟨⟨oc, od, kV, doc, pm, an, cdv, ct, osl, rfl, l, c⟩, k⟩
end

/-! ### expressions in short: the name that stands in the i-th slot -/
section
variable {X : Cx}
theorem pv (i : Nat) {x : Str} {pos : Pos} (hN : X.N[i]? = some x := by rfl) (hv : Vis X.env.scope x := by first | exact Or.inl rfl | exact Or.inr (Or.inl rfl) | exact Or.inr (Or.inr rfl)) (hd : (x == ("__debug__" : Str)) = false := by decide)
    (hcd : (x == ("__classdict__" : Str)) = false := by decide) : PE X (.Name x pos) (tVar i) := pe_var hN hv hd hcd
end

/-! ### tests -/
theorem ite2 {c A B : Prop} [Decidable c] (h1 : c → A) (h2 : ¬ c → B) : if c then A else B := by
  by_cases h : c
  · rw [if_pos h]
    exact h1 h
  · rw [if_neg h]
    exact h2 h

/-! ### heaps -/
/-- all that was tracked is as it was -/
def Same (H H' : Hp) : Prop := ∀ b o, H b = some o → H' b = some o
theorem Same.refl (H : Hp) : Same H H := fun _ _ h => h
theorem Same.trans {H H1 H2 : Hp} (a : Same H H1) (b : Same H1 H2) : Same H H2 := fun c o h => b c o (a c o h)
theorem Same.free {H H' : Hp} (e : Same H H') {l : Addr} (h : H' l = Option.none) : H l = Option.none := by
  cases q : H l with
  | none => rfl
  | some o =>
    rw [e l o q] at h
    cases h
/-! dict words -/
section
variable {X : Cx}
end

/-! ### a dict's pairs: keys that differ -/
section
variable {κ : Type} [DecidableEq κ]
end
end L2


set_option Elab.async false
set_option linter.all false
set_option maxRecDepth 100000
set_option maxHeartbeats 4000000
namespace L2
open PySem PySem.Spec PyProof.Rows

/-! ### a list comprehension of one clause, as a block of its own -/
def clStep (env : Env) (cs : List (Str × Addr)) (nk : Str × NameKind) : List (Str × Addr) :=
  if nk.2 == .free then (nk.1, (env.cells.lookup nk.1).getD 0) :: cs else cs
def clOf (scope : Scope) (env : Env) : List (Str × Addr) := scope.names.foldl (clStep env) []
theorem clos_of {scope : Scope} {env : Env} (h : ∀ y ∈ scope.names, y.2 = .free → ∃ c, env.cells.lookup y.1 = some c) : closureFor scope env = pure (clOf scope env) := by
  have all : ∀ (l : List (Str × NameKind)) (cs : List (Str × Addr)), (∀ y ∈ l, y.2 = .free → ∃ c, env.cells.lookup y.1 = some c) →
      (forIn l cs (fun x r => if (x.2 == NameKind.free) = true then do let a ← cellOf env x.1; pure (ForInStep.yield ((x.1, a) :: r)) else pure (ForInStep.yield r)) : Sem (List (Str × Addr))) = pure (l.foldl (clStep env) cs) := by
    intro l
    induction l with
    | nil => intro cs _; rfl
    | cons y r ih =>
      intro cs hy
      obtain ⟨n, k⟩ := y
      rw [List.forIn_cons, List.foldl_cons]
      by_cases hk : (k == NameKind.free) = true
      · obtain ⟨c, hc⟩ := hy (n, k) List.mem_cons_self (by simpa using hk)
        have e1 : cellOf env n = pure c := by unfold cellOf; rw [hc]
        have e2 : clStep env cs (n, k) = (n, c) :: cs := by unfold clStep; rw [if_pos hk, hc]; rfl
        rw [e2, ← ih _ fun z hz => hy z (List.mem_cons_of_mem _ hz)]
        dsimp only
        rw [if_pos hk, e1]
        rfl
      · have e2 : clStep env cs (n, k) = cs := by unfold clStep; rw [if_neg hk]
        rw [e2, ← ih _ fun z hz => hy z (List.mem_cons_of_mem _ hz)]
        dsimp only
        rw [if_neg hk]
        rfl
  have e := all scope.names [] h
  unfold closureFor clOf
  rw [← e]
  simp only [bind_pure]
theorem clOf_mem {env : Env} : ∀ {l : List (Str × NameKind)} {cs : List (Str × Addr)} {n : Str} {c : Addr}, (∀ y ∈ l, y.2 = .free → ∃ c, env.cells.lookup y.1 = some c) → (n, c) ∈ l.foldl (clStep env) cs → (n, c) ∈ cs ∨ env.cells.lookup n = some c
  | [], cs, n, c, _, m => .inl m
  | (y, k) :: r, cs, n, c, h, m => by
    rcases clOf_mem (fun z hz => h z (List.mem_cons_of_mem _ hz)) (show (n, c) ∈ r.foldl (clStep env) (clStep env cs (y, k)) from m) with q | q
    · unfold clStep at q
      by_cases hk : (k == NameKind.free) = true
      · rw [if_pos hk] at q
        rcases List.mem_cons.mp q with q | q
        · obtain ⟨d, hd⟩ := h (y, k) List.mem_cons_self (by simpa using hk)
          have hd : env.cells.lookup y = some d := hd
          injection q with q1 q2
          subst q1
          rw [hd] at q2
          subst q2
          exact .inr hd
        · exact .inl q
      · rw [if_neg hk] at q
        exact .inl q
    · exact .inr q
theorem clStep_sub {env : Env} : ∀ {l : List (Str × NameKind)} {cs : List (Str × Addr)} {p : Str × Addr}, p ∈ cs → p ∈ l.foldl (clStep env) cs
  | [], _, _, m => m
  | (y, k) :: r, cs, p, m => by
    refine clStep_sub (l := r) (cs := clStep env cs (y, k)) ?_
    unfold clStep
    split
    · exact List.mem_cons_of_mem _ m
    · exact m
theorem clOf_has {env : Env} : ∀ {l : List (Str × NameKind)} {cs : List (Str × Addr)} {n : Str}, (n, NameKind.free) ∈ l → ∃ c, (n, c) ∈ l.foldl (clStep env) cs
  | (y, k) :: r, cs, n, m => by
    rcases List.mem_cons.mp m with q | q
    · cases q
      exact ⟨(env.cells.lookup y).getD 0, clStep_sub (l := r) (by simp [clStep])⟩
    · exact clOf_has (l := r) q
theorem lookup_has {β : Type} : ∀ {l : List (Str × β)} {n : Str} {c : β}, (n, c) ∈ l → ∃ d, l.lookup n = some d
  | (k, v) :: r, n, c, m => by
    rw [List.lookup_cons]
    cases e : n == k with
    | true => exact ⟨v, rfl⟩
    | false =>
      rcases List.mem_cons.mp m with q | q
      · cases q
        simp at e
      · exact lookup_has q
theorem lookup_relabel_cell {env : Env} (hf : env.scope.kind = .function) : ∀ {names : List (Str × NameKind)} {x : Str}, names.lookup x = some .free → env.kindOf x = some .cell →
    (names.map fun (n, k) => if (k == NameKind.free && env.scope.kind == .function && env.kindOf n == some .cell) then (n, NameKind.cell) else (n, k)).lookup x = some .cell
  | [], _, h, _ => by simp at h
  | (n, k) :: r, x, h, hc => by
    have ih := @lookup_relabel_cell env hf r x
    show List.lookup x ((if (k == NameKind.free && env.scope.kind == .function && env.kindOf n == some .cell) = true then (n, NameKind.cell) else (n, k)) :: _) = _
    cases hx : x == n with
    | true =>
      have e : x = n := by simpa using hx
      subst e
      simp only [List.lookup_cons, hx] at h
      cases h
      rw [if_pos (by rw [hf, hc]; rfl)]
      simp [List.lookup_cons]
    | false =>
      simp only [List.lookup_cons, hx] at h
      by_cases hc' : (k == NameKind.free && env.scope.kind == .function && env.kindOf n == some .cell) = true
      · rw [if_pos hc']; simp only [List.lookup_cons, hx]; exact ih h hc
      · rw [if_neg hc']; simp only [List.lookup_cons, hx]; exact ih h hc

/-- the block's names N', each its own (none) or that of a slot around -/
def frOk (sc scope : Scope) (N : List Str) : List Str → List (Option Nat) → Bool
  | [], [] => true
  | _ :: r, none :: f => frOk sc scope N r f
  | y :: r, some i :: f => (N[i]? == some y) && (scope.names.lookup y == some .free) && (sc.names.lookup y == some .cell) && frOk sc scope N r f
  | _, _ => false
structure CompSc (sc scope : Scope) (N N' : List Str) (fr : List (Option Nat)) : Prop where
  kind : scope.kind = .function
  nocell : ∀ y ∈ scope.names, y.2 ≠ .cell
  names : ∀ y ∈ scope.names, y.2 = .local → scope.names.lookup y.1 = some .local
  free : ∀ y ∈ scope.names, y.2 = .free → sc.names.lookup y.1 = some .cell
  nd : N'.Nodup
  fr : frOk sc scope N N' fr = true
def frSt (fr : List (Option Nat)) (σ : St) : St := fr.map fun o => o.bind fun i => (σ[i]?).join
theorem frOk_len {sc scope : Scope} {N : List Str} : ∀ {N' : List Str} {fr : List (Option Nat)}, frOk sc scope N N' fr = true → fr.length = N'.length
  | [], [], _ => rfl
  | _ :: r, none :: f, h => by simp only [List.length_cons]; rw [frOk_len (N' := r) (fr := f) h]
  | y :: r, some i :: f, h => by
    unfold frOk at h
    simp only [Bool.and_eq_true] at h
    simp only [List.length_cons]; rw [frOk_len (N' := r) (fr := f) h.2]
  | [], _ :: _, h => by simp [frOk] at h
  | _ :: _, [], h => by simp [frOk] at h
theorem frOk_at {sc scope : Scope} {N : List Str} : ∀ {N' : List Str} {fr : List (Option Nat)} {j i : Nat} {y : Str}, frOk sc scope N N' fr = true → N'[j]? = some y → fr[j]? = some (some i) → N[i]? = some y ∧ scope.names.lookup y = some .free ∧ sc.names.lookup y = some .cell
  | [], [], _, _, _, _, h, _ => by simp at h
  | _ :: r, none :: f, 0, i, y, _, _, h => by simp at h
  | _ :: r, none :: f, j + 1, i, y, h, h1, h2 => frOk_at (N' := r) (fr := f) (j := j) h (by simpa using h1) (by simpa using h2)
  | z :: r, some k :: f, 0, i, y, h, h1, h2 => by
    unfold frOk at h
    simp only [Bool.and_eq_true, beq_iff_eq] at h
    have e1 : z = y := by simpa using h1
    have e2 : k = i := by simpa using h2
    subst e1 e2
    exact ⟨h.1.1.1, h.1.1.2, h.1.2⟩
  | z :: r, some k :: f, j + 1, i, y, h, h1, h2 => by
    unfold frOk at h
    simp only [Bool.and_eq_true] at h
    exact frOk_at (N' := r) (fr := f) (j := j) h.2 (by simpa using h1) (by simpa using h2)
  | [], _ :: _, _, _, _, h, _, _ => by simp [frOk] at h
  | _ :: _, [], _, _, _, h, _, _ => by simp [frOk] at h

def cxComp (X : Cx) (scope : Scope) (C : Addr) (N' : List Str) (s₀ : Shared) (H₀ : Hp) (fp : List Addr) : Cx where
  prog := X.prog
  w := X.w
  K := X.K
  mg := X.mg
  base := X.base
  A := X.A
  N := N'
  s₀ := s₀
  H₀ := H₀
  env := compEnvC scope (clOf scope X.env) C X.env
  outer := X.stack
  stack := X.stack
  ex := fp
  calm := true
  fn := fun _ => false
  pn := []
  xe := fun _ _ => False

section
variable {X : Cx} {scope : Scope} {N' : List Str} {fr : List (Option Nat)} {pins : List (Addr × Obj)} {σ : St} {H : Hp} {s : Shared} {fp : List Addr}

theorem Inv.block {h1 : Heap} {t1 : Nat} {m : Str → Option Value} (S : CompSc X.env.scope scope X.N N' fr) (hc : X.calm = true) (I : Inv X pins σ H s) (hf : ∀ b ∈ fp, FpOk X pins H b) (hlt : ∀ b ∈ fp, b < s.heap.objs.size)
    (hns : h1.Ns s.heap.objs.size m) (old : ∀ b o, s.heap.get? b = some o → h1.get? b = some o) :
    Inv (cxComp X scope s.heap.objs.size N' s H fp) [] (frSt fr σ) H { s with heap := h1, toks := t1 } := by
  have hfree : ∀ y ∈ scope.names, y.2 = .free → ∃ c, X.env.cells.lookup y.1 = some c := fun y hy e => I.ok.has y.1 (.inl (S.free y hy e))
  have cl1 : ∀ y c, (clOf scope X.env).lookup y = some c → X.env.cells.lookup y = some c := fun y c e => by
    rcases clOf_mem (cs := []) hfree (PySem.mem_of_lookup e) with q | q
    · exact absurd q (by simp)
    · exact q
  have has : ∀ y, ((relabel scope X.env).names.lookup y = some .cell ∨ (relabel scope X.env).names.lookup y = some .free) → ∃ c, (clOf scope X.env).lookup y = some c := fun y hy => by
    have q : (y, NameKind.free) ∈ scope.names := by
      have m : ∃ k, (k = NameKind.cell ∨ k = NameKind.free) ∧ (y, k) ∈ (relabel scope X.env).names := by
        rcases hy with hy | hy
        · exact ⟨_, .inl rfl, PySem.mem_of_lookup hy⟩
        · exact ⟨_, .inr rfl, PySem.mem_of_lookup hy⟩
      obtain ⟨k, hk, m⟩ := m
      obtain ⟨⟨n, k0⟩, hm, e⟩ := List.mem_map.mp m
      dsimp only at e
      by_cases hq : (k0 == NameKind.free && X.env.scope.kind == .function && X.env.kindOf n == some .cell) = true
      · rw [if_pos hq] at e
        simp only [Bool.and_eq_true, beq_iff_eq] at hq
        injection e with e1 e2
        rw [← e1, ← hq.1.1]
        exact hm
      · rw [if_neg hq] at e
        injection e with e1 e2
        subst e1 e2
        rcases hk with hk | hk
        · exact absurd hk (S.nocell _ hm)
        · rw [← hk]; exact hm
    obtain ⟨c, mc⟩ := clOf_has (env := X.env) (cs := []) q
    exact lookup_has mc
  have ltC : ∀ y c, X.env.cells.lookup y = some c → c < s.heap.objs.size := fun y c e => by
    obtain ⟨v, q⟩ := I.cell y c e
    exact q.lt
  refine ⟨⟨I.ok.mod, S.kind, I.ok.glob, I.ok.blt, Nat.le_refl _, fun x y c e1 e2 => I.ok.inj x y c (cl1 x c e1) (cl1 y c e2), has, fun x c e _ => absurd e (by simp [cxComp]), fun _ => I.ok.hd hc, I.ok.frames, .inl rfl,
      fun b hb => ⟨Nat.ne_of_lt (hlt b hb), fun x c e => (hf b hb).2.2.2.2.1 x c (cl1 x c e)⟩, I.bs, Nat.le_trans I.ok.bsz I.sz, fun b o e hb => ?_, fun b hb z => ?_, I.stack, I.stkFree⟩,
    rfl, I.bare, Un.kept old, ⟨m, hns, fun i x v e1 e2 e3 => ?_⟩, fun x c e => ?_, I.fresh, fun x c e => I.freeC x c (cl1 x c e), fun p hp => absurd hp (by simp [cxComp]), I.hok.kept old, ?_⟩
  · rcases (hf b hb).2.2.2.1 with z | z
    · exact I.ok.noex b o e z
    · exact absurd (Nat.lt_of_lt_of_le (Heap.lt_size e) (Nat.le_trans I.ok.bsz z)) (Nat.lt_irrefl _)
  · rcases List.mem_cons.mp (I.stkSub b z) with q | q
    · exact (hf b hb).2.1 q
    · exact (hf b hb).2.2.1 q
  · -- a name of the block at its entry: one from around
    have e2 : (frSt fr σ)[i]? = some (some v) := e2
    unfold frSt at e2
    rw [List.getElem?_map] at e2
    cases q : fr[i]? with
    | none => rw [q] at e2; cases e2
    | some o =>
      rw [q] at e2
      cases o with
      | none => cases e2
      | some j =>
        have e2 : (σ[j]?).join = some v := Option.some.inj e2
        have e4 : σ[j]? = some (some v) := by
          cases r : σ[j]? with
          | none => rw [r] at e2; cases e2
          | some w => rw [r] at e2; exact congrArg some e2
        obtain ⟨f1, f2, f3⟩ := frOk_at S.fr e1 q
        obtain ⟨m0, _, hl⟩ := I.loc
        obtain ⟨u, r, l⟩ := hl j x v f1 e4 (.inr (.inl f3))
        refine ⟨u, r, .inr ⟨.inl (lookup_relabel_cell I.ok.kind f2 f3), ?_⟩⟩
        obtain ⟨c, hc⟩ := has x (.inl (lookup_relabel_cell I.ok.kind f2 f3))
        rcases l with ⟨k, _⟩ | ⟨_, c', hc', ho⟩
        · have k : X.env.scope.names.lookup x = some .local := k
          rw [f3] at k; cases k
        · have e : c = c' := Option.some.inj ((cl1 x c hc).symm.trans hc')
          subst e
          obtain ⟨o, ho, hd⟩ := ho
          exact ⟨c, hc, o, old c o ho, hd⟩
  · obtain ⟨v, o, ho, hd⟩ := I.cell x c (cl1 x c e)
    exact ⟨v, o, old c o ho, hd⟩
  · show (frSt fr σ).length = N'.length
    unfold frSt
    rw [List.length_map]
    exact frOk_len S.fr
end

def PTs (X : Cx) (ifs : List Expr) (t : TT) : Prop :=
  ∀ (pins : List (Addr × Obj)) (s : Shared) (σ : St) (H : Hp) (Q : Bool → Hp → Prop), Inv X pins σ H s → t σ H Q →
    wpAny (model X.prog X.w) X.A (forIn ifs true fun c r => if r = true then do let ok ← isTrue c X.env (eval c X.env); pure (ForInStep.yield ok) else pure (ForInStep.yield r)) (TP X pins σ Q) X.xe s
def tYes : TT := fun _ H Q => Q true H
theorem pts_nil {X : Cx} : PTs X [] tYes := fun _ _ _ H _ I q => wpAny_tests_nil ⟨H, I, q⟩
theorem pts_one {X : Cx} {c : Expr} {t : TT} (h : PT X c t) : PTs X [c] t := fun pins s σ H Q I q => wpAny_tests_one (h pins s σ H Q I q)

theorem compLoop_any {prog : Program} {w : World} {A : Around} {R : Result → Shared → Prop} {s : Shared} {elt target iter : Expr} {ifs : List Expr} {scope : Scope} {pos : Pos} {it acc : Value} {env : Env} (I : Nat → Shared → Prop)
    (turn : ∀ n s, I n s → wpAny (model prog w) A (pyNext it) (fun r s₁ => match r with
      | none => R (.ok .next) s₁
      | some v => wpAny (model prog w) A (letOwnedTupleGo target it v) (fun _ s₀ => wpAny (model prog w) A (assign target env v) (fun _ s₂ =>
          wpAny (model prog w) A (forIn ifs true fun c r => if r = true then do let ok ← isTrue c env (eval c env); pure (ForInStep.yield ok) else pure (ForInStep.yield r)) (fun ok s₃ =>
            if ok = true then wpAny (model prog w) A (eval elt env) (fun x s₄ =>
              wpAny (model prog w) A (call (.builtin "list.append") [acc, x]) (fun _ s₅ => ∃ m, m < n ∧ I m s₅) (fun _ _ => False) s₄) (fun _ _ => False) s₃
            else ∃ m, m < n ∧ I m s₃) (fun _ _ => False) s₂) (fun _ _ => False) s₀) (fun _ _ => False) s₁) (fun _ _ => False) s)
    (n : Nat) (h : I n s) :
    codeAny (model prog w) A (.compLoop (.ListComp elt [⟨target, iter, ifs, 0⟩] scope pos) 0 it acc env) R s := by
  refine codeAny_loop rfl I (fun n s hI => ?_) n h
  show wpAny _ A ((compTurn (.ListComp elt [⟨target, iter, ifs, 0⟩] scope pos) 0 it acc env).onRaise (fun x => do noteFrame x env; theTreesLotGoes x)) _ _ s
  refine wpAny_noted ?_
  rw [compTurn_list]
  refine wpAny_bind (wpAny_standAt (wpAny_bind (wpAny_mono (turn n s hI) (fun r s₁ h₁ => ?_) fun _ _ h' => h'.elim)))
  cases r with
  | none => exact wpAny_pure h₁
  | some v =>
    refine wpAny_bind (wpAny_mono h₁ (fun _ s₀ h₀ => ?_) fun _ _ h' => h'.elim)
    refine wpAny_bind (wpAny_mono h₀ (fun _ s₂ h₂ => wpAny_bind (wpAny_mono h₂ (fun ok s₃ h₃ => ?_) fun _ _ h' => h'.elim)) fun _ _ h' => h'.elim)
    cases ok with
    | false => exact wpAny_pure ⟨rfl, h₃⟩
    | true =>
      exact wpAny_bind (wpAny_bind (wpAny_mono h₃ (fun x s₄ h₄ => wpAny_bind (wpAny_mono h₄ (fun _ s₅ h₅ => wpAny_pure (wpAny_pure ⟨rfl, h₅⟩)) fun _ _ h' => h'.elim)) fun _ _ h' => h'.elim))

/-- W: by the turn, a measure, the block's names, what has come, the heap -/
def tComp (fr : List (Option Nat)) (wi : TI) (g : TG) (tt : TT) (te : TE) : TE := fun σ H Q => wi σ H fun J H1 => ∀ D, H1 D = none →
  ∃ W : Nat → Nat → St → List V → Hp → Prop, (∃ m, W 0 m (frSt fr σ) [] (upd H1 D (.lst []))) ∧ ∀ i m σ ys H, W i m σ ys H →
    (J.stop i H ∧ Q (.ref D) H) ∨ (J.go i H ∧ ∃ N : St → List V → Hp → Prop, (∀ σ' ys' H', N σ' ys' H' → ∃ m', m' < m ∧ W (i + 1) m' σ' ys' H') ∧ ∀ x H', J.yld i H x H' → g x σ H' fun σ2 H2 => tt σ2 H2 fun b H3 =>
      if b = true then te σ2 H3 fun v H4 => H4 D = some (.lst ys) ∧ ys.length < sizeLine ∧ N σ2 (ys ++ [v]) (upd H4 D (.lst (ys ++ [v])))
      else N σ2 ys H3)

theorem comp_run {X : Cx} {elt tg iter : Expr} {ifs : List Expr} {scope : Scope} {pos cpos : Pos} {wi : TI} {g : TG} {tt : TT} {te : TE} {N' : List Str} {fr : List (Option Nat)} (S : CompSc X.env.scope scope X.N N' fr) (hc : X.calm = true) (hi : PI X tg iter wi)
    (hg : ∀ C s0 H0 fp, PG (cxComp X scope C N' s0 H0 fp) tg g) (ht : ∀ C s0 H0 fp, PTs (cxComp X scope C N' s0 H0 fp) ifs tt) (he : ∀ C s0 H0 fp, PE (cxComp X scope C N' s0 H0 fp) elt te)
    (hs : ∀ x, foldedSetIterable iter X.env x = pure x) {pins : List (Addr × Obj)} {s : Shared} {σ : St} {H : Hp} {Q : VK} (I : Inv X pins σ H s) (h : tComp fr wi g tt te σ H Q) (use : Option (Value → Sem Unit)) (QQ : Value → Shared → Prop)
    (fin : ∀ (D C : Addr) (H5 : Hp) (s6 : Shared), Inv X pins σ H5 s6 → Q (.ref D) H5 → H5 C = none → C ≠ X.env.locals → X.s₀.heap.objs.size ≤ C → (∀ x c, X.env.cells.lookup x = some c → c ≠ C) → (∀ p ∈ X.pn ++ pins, p.1 ≠ C) → (∃ m, s6.heap.Ns C m) →
      compPost (model X.prog X.w) X.A X.xe use QQ (.ref D) C (.ok .next) s6) :
    wpAny (model X.prog X.w) X.A (comprehension (.ListComp elt [⟨tg, iter, ifs, 0⟩] scope pos) scope X.env cpos (newList []) false (eval iter X.env) use) QQ X.xe s := by
  have hfree : ∀ y ∈ scope.names, y.2 = .free → ∃ c, X.env.cells.lookup y.1 = some c := fun y hy e => I.ok.has y.1 (.inl (S.free y hy e))
  refine wpAny_comprehension_free (use := use) rfl hs (clos_of hfree) S.kind S.names (thn (hi pins s σ H _ I h) fun v s1 h1 => thn h1 fun itv s2 h2 => ?_)
  obtain ⟨it, fp, tn, J, H2, e, I2, T, st2, f2, hD⟩ := h2
  subst e
  obtain ⟨W, ⟨m0, w0⟩, turn⟩ := hD s2.heap.objs.size I2.fresh
  -- the new list
  refine wpAny_newObj_type ?_
  have I3 : Inv X pins σ (upd H2 s2.heap.objs.size (.lst [])) { s2 with heap := s2.heap.push { cls := .type "list", data := .seq ([] : List Value).toArray }, toks := s2.toks } := I2.lnew (ys := []) .nil (Nat.zero_le _)
  revert I3
  generalize eD : s2.heap.objs.size = D at *
  generalize e3 : ({ s2 with heap := s2.heap.push { cls := .type "list", data := .seq ([] : List Value).toArray }, toks := s2.toks } : Shared) = s3
  intro I3
  have k3 : ∀ b o, s2.heap.get? b = some o → s3.heap.get? b = some o := fun b o e => by rw [← e3]; exact Heap.get?_push_of_some _ e
  refine wpAny_newFunctionEnv S.nocell (by intro y hy; simp at hy) (fun h4 hns hsb => ?_) S.kind
  have old : ∀ b o, s3.heap.get? b = some o → h4.get? b = some o := fun b o e => hsb.extBut b o (Nat.ne_of_lt (Heap.lt_size e)) (Heap.get?_push_of_some _ e)
  have fD : ∀ b ∈ fp, b ≠ D := fun b hb z => by
    obtain ⟨o, ho, _⟩ := T.obj _ _ st2 b hb
    exact absurd (Heap.lt_size ho) (by rw [z, eD]; exact Nat.lt_irrefl _)
  have f3 : ∀ b ∈ fp, FpOk X pins (upd H2 D (.lst [])) b := fun b hb => ⟨by rw [upd_ne (fD b hb)]; exact (f2 b hb).1, (f2 b hb).2⟩
  have l3 : ∀ b ∈ fp, b < s3.heap.objs.size := fun b hb => by
    obtain ⟨o, ho, _⟩ := T.obj _ _ st2 b hb
    exact Heap.lt_size (k3 b o ho)
  have I4 := Inv.block (t1 := s3.toks + ([] : List (Str × Value)).length) (scope := scope) S hc I3 f3 l3 hns old
  generalize eX : cxComp X scope s3.heap.objs.size N' s3 (upd H2 D (.lst [])) fp = X' at I4
  have st4 : tn 0 h4 := T.keep _ _ _ st2 fun b hb o e => old b o (k3 b o e)
  have stat : ∀ {H' : Hp}, (∀ b ∈ fp, H' b = none) → ∀ b ∈ fp, FpOk X' [] H' b := fun {H'} hn b hb => by
    subst eX
    refine ⟨hn b hb, Nat.ne_of_lt (l3 b hb), ?_, .inl hb, ?_, fun p hp => absurd hp (by simp [cxComp])⟩
    · exact I4.ok.exfs b hb
    · exact (I4.ok.exf b hb).2
  show codeAny _ _ (.compStart _ 0 (.ref it) (.ref D) (compEnvC scope (clOf scope X.env) s3.heap.objs.size X.env)) (compPost _ _ _ use _ (.ref D) s3.heap.objs.size) _
  have hX : X'.prog = X.prog ∧ X'.w = X.w ∧ X'.K = X.K ∧ X'.A = X.A ∧ X'.calm = true ∧ X'.env = compEnvC scope (clOf scope X.env) s3.heap.objs.size X.env ∧ X'.xe = (fun _ _ => False) ∧ X'.s₀ = s3 ∧ X'.H₀ = upd H2 D (.lst []) ∧ X'.fs = frs X.stack ∧ X'.ex = fp := by
    subst eX
    exact ⟨rfl, rfl, rfl, rfl, rfl, rfl, rfl, rfl, rfl, rfl, rfl⟩
  have hg' : PG X' tg g := by subst eX; exact hg _ _ _ _
  have ht' : PTs X' ifs tt := by subst eX; exact ht _ _ _ _
  have he' : PE X' elt te := by subst eX; exact he _ _ _ _
  clear eX
  obtain ⟨x1, x2, x3, x4, x5, x6, x7, x8, x9, x10, x11⟩ := hX
  have loop : codeAny (model X.prog X.w) X.A (.compLoop (.ListComp elt [⟨tg, iter, ifs, 0⟩] scope pos) 0 (.ref it) (.ref D) (compEnvC scope (clOf scope X.env) s3.heap.objs.size X.env))
      (compPost (model X.prog X.w) X.A X.xe use QQ (.ref D) s3.heap.objs.size) { s3 with heap := h4, toks := s3.toks + ([] : List (Str × Value)).length } := by
    refine compLoop_any (fun n s' => ∃ i σ' ys H', Inv X' [] σ' H' s' ∧ tn i s'.heap ∧ (∀ b ∈ fp, H' b = none) ∧ W i n σ' ys H') ?_ m0 ⟨0, _, [], _, I4, st4, fun b hb => (f3 b hb).1, w0⟩
    rintro n s5 ⟨i, σ5, ys, H5, I5, st5, fr5, w5⟩
    rcases turn i n σ5 ys H5 w5 with ⟨stop, qn⟩ | ⟨go, N, hN, step⟩
    · have z := T.done X' x1 x2 x3 x5 i [] s5 σ5 H5 (fun _ _ => False) I5 (stat fr5) st5 stop
      rw [x4] at z
      refine thn z fun r s6 ⟨hr, I6⟩ => ?_
      subst hr
      -- the end
      obtain ⟨mm, hn6, _⟩ := I6.loc
      have hL : X'.env.locals = s3.heap.objs.size := by rw [x6]; rfl
      rw [hL] at hn6
      have nC : H5 s3.heap.objs.size = none := by have := I6.free; rw [hL] at this; exact this
      have base := I6.base
      rw [x8, x9, x10, x11] at base
      have hok : HOk X.prog X.w H5 s6.heap := by have q := I6.hok; rw [x1, x2] at q; exact q
      have os : s6.os = s3.os := by have := I6.os; rw [x8] at this; exact this
      have IX : Inv X pins σ H5 s6 := I3.call' os base hok I6.bare fun b hb => ⟨(f3 b hb).2.2.2.1, (f3 b hb).2.1, (f3 b hb).2.2.2.2.1, (f3 b hb).2.2.2.2.2⟩
      refine fin D s3.heap.objs.size H5 s6 IX qn nC (Nat.ne_of_gt I3.lt) I3.sz (fun x c e => ?_) (fun p hp => ?_) ⟨mm, hn6⟩
      · obtain ⟨v, q⟩ := I3.cell x c e
        exact Nat.ne_of_lt q.lt
      · exact Nat.ne_of_lt (Heap.lt_size (I3.pin p hp).1)
    · have z := T.item X' x1 x2 x3 x5 i [] s5 σ5 H5 (fun _ _ => False) I5 (stat fr5) st5 go
      rw [x4] at z
      refine thn z fun r s6 ⟨u, hr, h6⟩ => ?_
      subst hr
      refine thn h6 fun _ s7 ⟨x, H7, I7, r7, y7, st7, fr7⟩ => ?_
      have I7' := I7.pinned (stat fr7) (T.obj _ _ st7)
      have again : ∀ {σ' : St} {H' : Hp} {s' : Shared}, Inv X' ([] ++ pinsAt fp s7.heap) σ' H' s' → Inv X' [] σ' H' s' ∧ tn (i + 1) s'.heap ∧ ∀ b ∈ fp, H' b = none := fun {σ' H' s'} J => by
        refine ⟨J.unpinned, T.keep _ _ _ st7 fun b hb o e => (J.pin (b, o) (List.mem_append_right _ (List.mem_append_right _ (mem_pinsAt hb e)))).1, fun b hb => ?_⟩
        obtain ⟨o, e, d⟩ := T.obj _ _ st7 b hb
        exact (J.pin (b, o) (List.mem_append_right _ (List.mem_append_right _ (mem_pinsAt hb e)))).2.1
      have z := hg' _ s7 σ5 H7 x u _ I7' r7 (step x H7 y7)
      rw [x1, x2, x4, x6, x7] at z
      refine thn z fun _ s8 ⟨σ8, H8, I8, q8⟩ => ?_
      have z := ht' _ s8 σ8 H8 _ I8 q8
      rw [x1, x2, x4, x6, x7] at z
      refine thn z fun b s9 ⟨H9, I9, q9⟩ => ?_
      cases b with
      | false =>
        rw [if_neg Bool.false_ne_true] at q9 ⊢
        obtain ⟨m', hm, w9⟩ := hN _ _ _ q9
        obtain ⟨a1, a2, a3⟩ := again I9
        exact ⟨m', hm, i + 1, σ8, ys, H9, a1, a2, a3, w9⟩
      | true =>
        rw [if_pos rfl] at q9 ⊢
        have z := he' _ s9 σ8 H9 _ I9 q9
        rw [x1, x2, x4, x6, x7] at z
        refine thn z fun v' s10 ⟨y, H10, I10, r10, hD10, hz, w10⟩ => ?_
        have z := mt_append (X := X') _ s10 σ8 H10 (.ref D) [y] (.ref D) [v'] (fun _ H' => N σ8 (ys ++ [y]) H') I10 rfl (.cons r10 .nil) ⟨D, ys, y, rfl, rfl, hD10, hz, w10⟩
        rw [x1, x2, x4, x7] at z
        refine thn z fun _ s11 ⟨_, H11, I11, _, w11⟩ => ?_
        obtain ⟨m', hm, w11⟩ := hN _ _ _ w11
        obtain ⟨a1, a2, a3⟩ := again I11
        exact ⟨m', hm, i + 1, σ8, _, H11, a1, a2, a3, w11⟩
  exact codeAny_compStart_list loop (T.self _ 0 _ _ _ st4 loop)
theorem pe_comp {X : Cx} {elt tg iter : Expr} {ifs : List Expr} {scope : Scope} {pos : Pos} {wi : TI} {g : TG} {tt : TT} {te : TE} {N' : List Str} {fr : List (Option Nat)} (S : CompSc X.env.scope scope X.N N' fr) (hc : X.calm = true) (hi : PI X tg iter wi)
    (hg : ∀ C s0 H0 fp, PG (cxComp X scope C N' s0 H0 fp) tg g) (ht : ∀ C s0 H0 fp, PTs (cxComp X scope C N' s0 H0 fp) ifs tt) (he : ∀ C s0 H0 fp, PE (cxComp X scope C N' s0 H0 fp) elt te)
    (hs : ∀ x, foldedSetIterable iter X.env x = pure x := by intro _; rfl) : PE X (.ListComp elt [⟨tg, iter, ifs, 0⟩] scope pos) (tComp fr wi g tt te) := by
  intro pins s σ H Q I h
  rw [eval_ListComp]
  refine comp_run S hc hi hg ht he hs I h none _ fun D C H5 s6 IX q nC c1 c2 c3 c4 hm => ?_
  obtain ⟨m, hm⟩ := hm
  refine ⟨m, hm, fun h' hs' => ⟨.ref D, H5, IX.turned (t' := s6.toks) (it := C) (fun b o hb e => hs'.extBut b o hb e) nC c1 (.inr c2) c3 c4, rfl, q⟩⟩
/-- name = [..], the name a local one -/
theorem ps_comp {X : Cx} {elt tg iter : Expr} {ifs : List Expr} {scope : Scope} {pos spos py : Pos} {y : Str} {i : Nat} {wi : TI} {g : TG} {tt : TT} {te : TE} {N' : List Str} {fr : List (Option Nat)} (hN : X.N.Nodup) (hy : X.N[i]? = some y) (hl : X.env.scope.names.lookup y = some .local)
    (S : CompSc X.env.scope scope X.N N' fr) (hc : X.calm = true) (hi : PI X tg iter wi)
    (hg : ∀ C s0 H0 fp, PG (cxComp X scope C N' s0 H0 fp) tg g) (ht : ∀ C s0 H0 fp, PTs (cxComp X scope C N' s0 H0 fp) ifs tt) (he : ∀ C s0 H0 fp, PE (cxComp X scope C N' s0 H0 fp) elt te)
    (hs : ∀ x, foldedSetIterable iter X.env x = pure x := by intro _; rfl) (hsw : swapsWith (.ListComp elt [⟨tg, iter, ifs, 0⟩] scope pos) (some (.Name y py)) spos.line X.env = pure true := by rfl) :
    PS X (.Assign [.Name y py] (.ListComp elt [⟨tg, iter, ifs, 0⟩] scope pos) spos) (tAsg (tComp fr wi g tt te) (gName i)) := by
  intro pins s σ H D I h
  rw [exec_Assign_Name_used _ _ _ _ hsw]
  refine wpAny_bind (wpAny_standAt (wpAny_bind ?_))
  show wpAny _ X.A (do let _ ← comprehension (.ListComp elt [⟨tg, iter, ifs, 0⟩] scope pos) scope X.env _ (newList []) false (eval iter X.env) (some (assign (.Name y py) X.env))) _ _ s
  refine wpAny_bind (thn (comp_run S hc hi hg ht he hs I h (some (assign (.Name y py) X.env)) (fun _ s' => SP X pins D .next s') fun L C H5 s6 IX q nC c1 c2 c3 c4 hm => ?_) fun _ s' hq => wpAny_pure (wpAny_pure hq))
  obtain ⟨m, hm⟩ := hm
  show wpAny _ X.A (assign (.Name y py) X.env (.ref L)) _ _ _
  refine wpAny_assign_Name (store_ok2 IX hN hy (.inl hl) (show RelV (.ref L) (Value.ref L) from rfl) (fun s7 I7 hch => ?_) (.inr hl))
  obtain ⟨a, hsb, ha⟩ := hch
  have hCa : C ≠ a := by
    rcases ha with ha | ha
    · rw [ha]; exact c1
    · exact (c3 _ _ ha).symm
  refine ⟨m, hm.at' (fun o e => (hsb.2 C hCa).trans e), fun h' hs' => ⟨_, H5, I7.turned (t' := s7.toks) (it := C) (fun b o hb e => hs'.extBut b o hb e) nC c1 (.inr c2) c3 c4, q⟩⟩

/-! ### the forms one uses -/
theorem comp_list {K : PySem.W.Frag} {a : Addr} {xs : List V} {g : TG} {tt : TT} {te : TE} {R : Hp → Prop} {D : Addr} {σ0 : St} {H0 : Hp} (Pv : Nat → St → List V → Hp → Prop) (h0 : Pv 0 σ0 [] H0) (hl : ∀ i σ ys H, i ≤ xs.length → Pv i σ ys H → SqL K H a xs)
    (hs : ∀ i x σ ys H, xs[i]? = some x → Pv i σ ys H → g x σ H fun σ2 H2 => tt σ2 H2 fun b H3 =>
      if b = true then te σ2 H3 fun v H4 => H4 D = some (.lst ys) ∧ ys.length < sizeLine ∧ Pv (i + 1) σ2 (ys ++ [v]) (upd H4 D (.lst (ys ++ [v]))) else Pv (i + 1) σ2 ys H3)
    (hd : ∀ σ ys H, Pv xs.length σ ys H → R H) :
    ∃ W : Nat → Nat → St → List V → Hp → Prop, (∃ m, W 0 m σ0 [] H0) ∧ ∀ i m σ ys H, W i m σ ys H →
      ((Itl K a).stop i H ∧ R H) ∨ ((Itl K a).go i H ∧ ∃ N : St → List V → Hp → Prop, (∀ σ' ys' H', N σ' ys' H' → ∃ m', m' < m ∧ W (i + 1) m' σ' ys' H') ∧ ∀ x H', (Itl K a).yld i H x H' → g x σ H' fun σ2 H2 => tt σ2 H2 fun b H3 =>
        if b = true then te σ2 H3 fun v H4 => H4 D = some (.lst ys) ∧ ys.length < sizeLine ∧ N σ2 (ys ++ [v]) (upd H4 D (.lst (ys ++ [v]))) else N σ2 ys H3) := by
  refine ⟨fun i m σ ys H => m = xs.length - i ∧ i ≤ xs.length ∧ Pv i σ ys H, ⟨xs.length, by simp, Nat.zero_le _, h0⟩, ?_⟩
  rintro i m σ ys H ⟨rfl, hi, p⟩
  have q := hl i σ ys H hi p
  by_cases hlt : i < xs.length
  · refine .inr ⟨⟨xs, xs[i], q, by simp [hlt]⟩, Pv (i + 1), fun σ' ys' H' p' => ⟨xs.length - (i + 1), by omega, rfl, hlt, p'⟩, fun x H' y => ?_⟩
    obtain ⟨e, y⟩ := y
    subst e
    exact hs i x σ ys _ (y xs q) p
  · have e : i = xs.length := by omega
    subst e
    exact .inl ⟨⟨xs, q, Nat.le_refl _⟩, hd σ ys H p⟩
end L2


set_option Elab.async false
set_option linter.all false
set_option maxRecDepth 100000
set_option maxHeartbeats 4000000
namespace SF
open PySem

/-! ### a table of a set: its places rise -/


/-! ### the order by the text -/
end SF


set_option Elab.async false
set_option linter.all false
set_option maxRecDepth 100000
set_option maxHeartbeats 4000000
namespace SF
open PySem PySem.Calls PyProof.Rows


section
variable {prog : Program} {w : World} {A : Around} {E : Value → Shared → Prop} {s : Shared}



/-! ### the next place -/

/-! ### iter(set) -/
end
end SF


set_option Elab.async false
set_option linter.all false
set_option maxRecDepth 100000
set_option maxHeartbeats 4000000
namespace SF
open PySem PySem.Calls PyProof.Rows
section
variable {prog : Program} {w : World} {A : Around} {E : Value → Shared → Prop} {s : Shared}


end
end SF


set_option Elab.async false
set_option linter.all false
set_option maxRecDepth 100000
set_option maxHeartbeats 4000000
namespace SF
open PySem PySem.Calls PyProof.Rows

section
variable {prog : Program} {w : World} {A : Around} {E : Value → Shared → Prop} {s : Shared}

set_option maxHeartbeats 8000000 in
end
end SF


set_option Elab.async false
set_option linter.all false
set_option maxRecDepth 100000
set_option maxHeartbeats 4000000
namespace L2
open PySem PySem.Spec PyProof.Rows

/-! ### sets of ints: made of a list, sorted -/
section
variable {X : Cx}
/-! ### isinstance against a built-in type -/
/-! ### lists that differ -/
end
end L2


set_option Elab.async false
set_option linter.all false
set_option maxRecDepth 100000
set_option maxHeartbeats 4000000
namespace L2
open PySem PySem.Spec PyProof.Rows
section
variable {X : Cx}
end
end L2


set_option Elab.async false
set_option linter.all false
set_option maxRecDepth 100000
set_option maxHeartbeats 4000000
namespace L2
open PySem PySem.W PySem.Spec PySem.Calls PyProof.Rows
/-! ### a dict keyed by None and ints, its values all True -/
section
variable {X : Cx} {pos pos' : Pos} {o i value : Expr} {td ty tv : TE}
/-! ### lists that are alike -/
end
end L2


set_option Elab.async false
set_option linter.all false
set_option maxRecDepth 100000
set_option maxHeartbeats 4000000
namespace L2
open PySem PySem.Spec PyProof.Rows
section
variable {X : Cx} {pins : List (Addr × Obj)} {σ : St} {H : Hp} {s : Shared} {h' : Heap}
/-- records of ours have turned, and a new object came -/
theorem Inv.turnedNew {t' : Nat} {its : List Addr} {a : Addr} {o : HO} (I : Inv X pins σ H s) (k : ∀ b u, b ∉ its → s.heap.get? b = some u → h'.get? b = some u) (hf : ∀ b ∈ its, FpOk X pins H b)
    (hp : s.heap.objs.size ≤ a) (new : ObjOk X.prog X.w (upd H a o) h' a o) : Inv X pins σ (upd H a o) { s with heap := h', toks := t' } := by
  have hn : H a = none := I.hok.fresh hp
  have nit : ∀ b u, H b = some u → b ∉ its := fun b u e z => by rw [(hf b z).1] at e; cases e
  have nea : ∀ b u, s.heap.get? b = some u → b ≠ a := fun b u e => Nat.ne_of_lt (Nat.lt_of_lt_of_le (Heap.lt_size e) hp)
  refine I.step (g' := s.gens) (d' := s.drawn) (ch := its) (fun b hb => ?_) (fun b o _ _ hc e _ => k b o hc e) (fun b o _ _ hc e _ => ⟨o.slots, k b o hc e⟩) (fun b u _ e n => ?_)
    (fun b o hc e => ⟨o, k b o hc e⟩) (fun b xs e => ?_) (fun b u v e => ?_) (fun b ps e => ⟨#[], ?_⟩) (fun m hm => ?_) (fun b u e => ?_) I.bare
  · obtain ⟨_, f1, f2, f3, f4, f5⟩ := hf b hb
    exact ⟨f3, f1, f4, f5⟩
  · rw [upd_ne (nea b u e)]; exact n
  · rw [upd_ne (ne_of_none e hn)]; exact e
  · rw [upd_ne (ne_of_none e hn)]; exact e
  · rw [upd_ne (ne_of_none e hn), e]; simp
  · obtain ⟨o, es, ep, ho, r⟩ := hm
    exact ⟨o, es, ep, k _ o (fun z => (hf _ z).2.1 rfl) ho, r⟩
  · by_cases hb : b = a
    · subst hb
      rw [upd_same] at e
      cases e
      exact new
    · rw [upd_ne hb] at e
      refine (I.hok b u e).stay (fun c v hc q => k c v ?_ q) (fun c q => by rw [upd_ne (ne_of_none q hn)]; exact q) fun c xs q => by rw [upd_ne (ne_of_none q hn)]; exact q
      rcases hc with z | z
      · rw [z]; exact nit b u e
      · exact nit c _ z
/-- records of ours have turned -/
theorem Inv.turnedL {t' : Nat} {its : List Addr} (I : Inv X pins σ H s) (k : ∀ b u, b ∉ its → s.heap.get? b = some u → h'.get? b = some u) (hf : ∀ b ∈ its, FpOk X pins H b) : Inv X pins σ H { s with heap := h', toks := t' } := by
  have nit : ∀ b u, H b = some u → b ∉ its := fun b u e z => by rw [(hf b z).1] at e; cases e
  refine I.step (g' := s.gens) (d' := s.drawn) (ch := its) (fun b hb => ?_) (fun b o _ _ hc e _ => k b o hc e) (fun b o _ _ hc e _ => ⟨o.slots, k b o hc e⟩) (fun b u _ e n => n)
    (fun b o hc e => ⟨o, k b o hc e⟩) (fun b xs e => e) (fun b u v e => e) (fun b ps e => ⟨#[], by rw [e]; simp⟩) (fun m hm => ?_) (fun b u e => ?_) I.bare
  · obtain ⟨_, f1, f2, f3, f4, f5⟩ := hf b hb
    exact ⟨f3, f1, f4, f5⟩
  · obtain ⟨o, es, ep, ho, r⟩ := hm
    exact ⟨o, es, ep, k _ o (fun z => (hf _ z).2.1 rfl) ho, r⟩
  · refine (I.hok b u e).stay (fun c v hc q => k c v ?_ q) (fun _ q => q) fun _ _ q => q
    rcases hc with z | z
    · rw [z]; exact nit b u e
    · exact nit c _ z
end
/-- i and the list's item there, as a new pair -/
def Ite (K : PySem.W.Frag) (a : Addr) : It :=
  ⟨fun i H => ∃ xs x, SqL K H a xs ∧ xs[i]? = some x,
   fun i H x H' => ∃ t y, H t = none ∧ x = .ref t ∧ H' = upd H t (.tup [.int i, y]) ∧ ∀ xs, SqL K H a xs → xs[i]? = some y,
   fun i H => ∃ xs, SqL K H a xs ∧ xs.length ≤ i⟩
theorem turn_enum {P : Program} {w : World} {K : PySem.W.Frag} {elts : List Expr} {x1} {pos : Pos} (a e it : Addr) (hne : e ≠ it) :
    Turn P w K (.Tuple elts x1 pos) (Ite K a) [e, it] e (fun i h => (∃ old, IsEnum h e it i old) ∧ h.IsListIter it a i) where
  mem := by simp
  obj := fun i h st b hb => by
    obtain ⟨⟨old, he⟩, o, eo, c, d⟩ := st
    rcases List.mem_cons.mp hb with rfl | hb
    · exact ⟨_, he, fun v z => by
        have z' : Data.fields _ = Data.cell v := z
        cases z'⟩
    · rw [List.mem_singleton.mp hb]
      exact ⟨o, eo, fun v z => by rw [d] at z; cases z⟩
  keep := fun i h h' st k => ⟨st.1.elim fun old he => ⟨old, k e (by simp) _ he⟩, st.2.at fun o eo => k it (by simp) o eo⟩
  item := by
    intro X hP hw hK hc i pins s σ H E I hf st hg
    subst hP hw hK
    obtain ⟨xs, x, hq, hx⟩ := hg
    obtain ⟨⟨old, he⟩, hit⟩ := st
    obtain ⟨its, rv, p, hz⟩ := I.list hq
    obtain ⟨u, hu, ru⟩ := rv.get hx
    refine wpAny_pyNext_enum_item he hit p.isList (x := u) (by simpa using hu) hne fun h1 he1 hit1 ht1 hz1 k1 => ?_
    refine ⟨_, rfl, wpAny_letOwnedTupleGo_enum he1 fun h2 he2 hs2 => ?_⟩
    have hne2 : s.heap.objs.size ≠ e := Nat.ne_of_gt (Heap.lt_size he)
    have ht2 := (hs2.2 s.heap.objs.size hne2).trans ht1
    have hk : ∀ b o, b ∉ [e, it] → s.heap.get? b = some o → h2.get? b = some o := fun b o hb e' => by
      have hb' : b ≠ e ∧ b ≠ it := by simpa using hb
      exact (hs2.2 b hb'.1).trans (k1 b o hb'.1 hb'.2 e')
    have hfr : H s.heap.objs.size = none := I.hok.fresh (Nat.le_refl _)
    refine ⟨.ref s.heap.objs.size, upd H s.heap.objs.size (.tup [.int i, x]), I.turnedNew (t' := s.toks + 1) hk hf (Nat.le_refl _) ?_, rfl, ⟨_, x, hfr, rfl, rfl, fun ys hy => by rw [I.list_inj hy hq]; exact hx⟩, ⟨⟨u, ?_⟩, ?_⟩, fun b hb => ?_⟩
    · exact ⟨by show 2 ≤ sizeLine; decide, [.int i s.toks, u], .cons ⟨_, rfl⟩ (.cons ru .nil), ⟨_, ht2, rfl, _, rfl⟩⟩
    · exact he2
    · obtain ⟨o, e1, e2⟩ := hit1
      exact ⟨o, (hs2.2 it (Ne.symm hne)).trans e1, e2⟩
    · have : b ≠ s.heap.objs.size := by
        rcases List.mem_cons.mp hb with rfl | hb
        · exact Ne.symm hne2
        · rw [List.mem_singleton.mp hb]
          obtain ⟨o, e1, _⟩ := hit
          exact Nat.ne_of_lt (Heap.lt_size e1)
      rw [upd_ne this]
      exact (hf b hb).1
  done := by
    intro X hP hw hK hc i pins s σ H E I hf st hg
    subst hP hw hK
    obtain ⟨xs, hq, hx⟩ := hg
    obtain ⟨⟨old, he⟩, hit⟩ := st
    obtain ⟨its, rv, p, hz⟩ := I.list hq
    obtain ⟨f0, f1, f2, f3, f4, f5⟩ := hf it (by simp)
    have hl := rv.length
    exact wpAny_pyNext_enum_end (I.ok.hd hc) he hit p.isList (by simp; omega) fun h' eb => ⟨rfl, I.turned (t' := s.toks) (fun b o hb e => eb b o hb e) f0 f1 f3 f4 f5⟩
  self := fun _ _ _ _ _ st h => st.1.elim fun _ he => wpAny_pyIter_enum he h
section
variable {X : Cx}
def iEnum (K : PySem.W.Frag) (ta : TA) : TI := fun σ H R => ta σ H fun vs H1 => ∃ a, vs = [.ref a] ∧ (∃ xs, SqL K H1 a xs) ∧ R (Ite K a) H1
theorem bt_enum : bootBuiltins "enumerate" = some (.type "enumerate") := by decide +kernel
theorem pi_enum {a : Expr} {ta : TA} {p pos : Pos} {elts : List Expr} {x1} {tpos : Pos} (hg : Gl X "enumerate") (hm : X.mg "enumerate" = none) (ha : PA X [a] ta) (hs : starEach [a] X.env = [(false, eval a X.env)] := by rfl) :
    PI X (.Tuple elts x1 tpos) (.Call (.Name "enumerate" p) [a] [] pos) (iEnum X.K ta) := by
  intro pins s σ H R I h
  refine Call_ (ld_blt I hg hm bt_enum (PyProof.Rows.callWith_type1 (thn (ha pos pins s σ H _ I h) fun us s1 ⟨vs, H1, I1, r1, q1⟩ => ?_) hs rfl))
  obtain ⟨a, e, ⟨xs, hq⟩, q⟩ := q1
  subst e
  obtain ⟨u, rfl, ru⟩ := vals1 r1
  cases ru
  obtain ⟨its, rv, p, hz⟩ := I1.list hq
  refine call_enumerate_list p.isList fun h' he hit hsz hk => ?_
  refine wpAny_pyIter_enum he ?_
  refine ⟨s1.heap.objs.size + 1, [s1.heap.objs.size + 1, s1.heap.objs.size], _, _, H1, rfl, I1.kept (t' := s1.toks) hk, turn_enum a _ _ (Nat.succ_ne_self _), ⟨⟨_, he⟩, hit⟩, fun b hb => ?_, q⟩
  have hb' : s1.heap.objs.size ≤ b := by
    rcases List.mem_cons.mp hb with rfl | hb
    · exact Nat.le_succ _
    · rw [List.mem_singleton.mp hb]; exact Nat.le_refl _
  exact I1.fpOk hb' (I1.hok.fresh hb')
/-- over enumerate of a list that the body leaves as it is -/
theorem for_enum {K : PySem.W.Frag} {a : Addr} {xs : List V} {g : TG} {tb : TS} {D : Ends} {σ : St} {H : Hp} (Pv : Nat → St → Hp → Prop) (h0 : Pv 0 σ H) (hl : ∀ i σ H, i ≤ xs.length → Pv i σ H → SqL K H a xs)
    (hs : ∀ i x σ H t, xs[i]? = some x → H t = none → Pv i σ H → g (.ref t) σ (upd H t (.tup [.int i, x])) fun σ2 H2 => tb { D with nx := Pv (i + 1), ct := Pv (i + 1), bk := D.nx } σ2 H2) (hd : ∀ σ H, Pv xs.length σ H → D.nx σ H) :
    ∃ W : Nat → Nat → St → Hp → Prop, (∃ m, W 0 m σ H) ∧ ∀ i m σ H, W i m σ H →
      ((Ite K a).stop i H ∧ D.nx σ H) ∨ ((Ite K a).go i H ∧ ∃ N : St → Hp → Prop, (∀ σ' H', N σ' H' → ∃ m', m' < m ∧ W (i + 1) m' σ' H') ∧ ∀ x H', (Ite K a).yld i H x H' → g x σ H' fun σ2 H2 => tb { D with nx := N, ct := N, bk := D.nx } σ2 H2) := by
  refine ⟨fun i m σ H => m = xs.length - i ∧ i ≤ xs.length ∧ Pv i σ H, ⟨xs.length, by simp, Nat.zero_le _, h0⟩, ?_⟩
  rintro i m σ H ⟨rfl, hi, p⟩
  have q := hl i σ H hi p
  by_cases hlt : i < xs.length
  · refine .inr ⟨⟨xs, xs[i], q, by simp [hlt]⟩, Pv (i + 1), fun σ' H' p' => ⟨xs.length - (i + 1), by omega, rfl, hlt, p'⟩, fun x H' y => ?_⟩
    obtain ⟨t, y, hn, e1, e2, hy⟩ := y
    subst e1 e2
    exact hs i y σ _ t (hy xs q) hn p
  · have e : i = xs.length := by omega
    subst e
    exact .inl ⟨⟨xs, q, Nat.le_refl _⟩, hd σ H p⟩
end
end L2


set_option Elab.async false
set_option linter.all false
set_option maxRecDepth 100000
set_option maxHeartbeats 4000000
namespace L2
open PySem PySem.W PySem.Spec PySem.Calls PyProof.Rows
/-! ### a dict that is walked: frozen while it is so -/
def NF (X : Cx) (a : Addr) : Prop := ∀ o u, X.H₀ a ≠ some (.frz o u)
section
variable {X : Cx} {pins : List (Addr × Obj)} {σ : St} {H : Hp} {s : Shared} {a : Addr} {kvs : List (Key × V)}
theorem Inv.freeze (I : Inv X pins σ H s) (e : H a = some (.dK kvs)) : NF X a ∧ ∃ o, s.heap.get? a = some o ∧ Inv X pins σ (upd H a (.frz o (.dK kvs))) s := by
  have x := I.hok a _ e
  obtain ⟨z, y, vs, r, ob, es, ep, g, c⟩ := id x
  refine ⟨fun o u h => ?_, ob, g, ?_⟩
  · have := I.base.frzs a o u h
    rw [e] at this
    cases this
  · exact I.write (x := a) (e := a) (h' := s.heap) (t' := s.toks) (by rw [e]; exact True.intro) (.inl rfl) (fun b u _ q => q) ⟨ob, g⟩ ⟨g, z, y, vs, r, ob, es, ep, g, c⟩
theorem Inv.thaw {o : Obj} (I : Inv X pins σ H s) (e : H a = some (.frz o (.dK kvs))) (n : NF X a) : Inv X pins σ (upd H a (.dK kvs)) s := by
  have x : ObjOk X.prog X.w H s.heap a (.frz o (.dK kvs)) := I.hok a _ e
  have ne : ∀ b u, H b = some u → (∀ o' u', u ≠ .frz o' u') → b ≠ a := fun b u h hn => ne_of h e (hn _ _)
  refine ⟨I.ok, I.os, I.bare, ⟨I.base.keep, I.base.slot, fun b ob q nb hx => ?_, I.base.there, fun b xs q => ?_, fun b ob u q => ?_, fun b ps q => ?_⟩, I.loc, I.cell, ?_, fun y c hc => ?_, fun p hp => ?_, fun b u q => ?_, I.len⟩
  · have h := I.base.free b ob q nb hx
    rw [upd_ne (fun z => by rw [z, e] at h; cases h)]
    exact h
  · have h := I.base.tups b xs q
    rw [upd_ne (ne b _ h (by intro _ _ z; cases z))]
    exact h
  · have h := I.base.frzs b ob u q
    have hb : b ≠ a := fun z => n ob u (by rw [← z]; exact q)
    rw [upd_ne hb]
    exact h
  · obtain ⟨more, h⟩ := I.base.tbls b ps q
    refine ⟨more, ?_⟩
    rw [upd_ne (ne b _ h (by intro _ _ z; cases z))]
    exact h
  · rw [upd_ne (fun z => by have := I.free; rw [z, e] at this; cases this)]
    exact I.free
  · rw [upd_ne (fun z => by have := I.freeC y c hc; rw [z, e] at this; cases this)]
    exact I.freeC y c hc
  · obtain ⟨p1, p2, p3⟩ := I.pin p hp
    refine ⟨p1, ?_, p3⟩
    rw [upd_ne (fun z => by rw [z, e] at p2; cases p2)]
    exact p2
  · by_cases hb : b = a
    · subst hb
      rw [upd_same] at q
      cases q
      exact x.2.stay (fun c v _ q => q) (fun c q => by rw [upd_ne (ne c _ q (by intro _ _ z; cases z))]; exact q) fun c xs q => by rw [upd_ne (ne c _ q (by intro _ _ z; cases z))]; exact q
    · rw [upd_ne hb] at q
      exact (I.hok b u q).stay (fun c v _ q => q) (fun c q => by rw [upd_ne (ne c _ q (by intro _ _ z; cases z))]; exact q) fun c xs q => by rw [upd_ne (ne c _ q (by intro _ _ z; cases z))]; exact q
end
def sThaw (X : Cx) (t : TS) : TS := fun D σ H => t { D with nx := fun σ' H' => ∃ a o kvs, H' a = some (.frz o (.dK kvs)) ∧ NF X a ∧ D.nx σ' (upd H' a (.dK kvs)) } σ H
theorem ps_thaw {X : Cx} {st : Stmt} {t : TS} (h : PS X st t) : PS X st (sThaw X t) := fun pins s σ H D I hw =>
  wpAny_mono (h pins s σ H _ I hw) (fun f s' q => by
    cases f with
    | next =>
      obtain ⟨σ', H', I', a, o, kvs, ea, n, q⟩ := q
      exact ⟨σ', _, I'.thaw ea n, q⟩
    | brk => exact q
    | cont => exact q
    | ret u => exact q) fun _ _ z => z
theorem paired_get {α β : Type} {R : α → β → Prop} {xs : List α} {ys : List β} (r : Paired R xs ys) : ∀ {i : Nat} {x : α}, xs[i]? = some x → ∃ y, ys[i]? = some y ∧ R x y := by
  induction r with
  | nil => intro i x h; simp at h
  | cons h t ih =>
    intro i x e
    cases i with
    | zero =>
      have e' := Option.some.inj e
      subst e'
      exact ⟨_, rfl, h⟩
    | succ i => exact ih (by simpa using e)
theorem kV_rel {P : Program} {w : World} {k : Key} {u : Value} (h : (mixKind P w).is k u = true) : RelV (kV k) u := by
  rcases keyIs_shape h with ⟨i, t, rfl, rfl⟩ | ⟨x, t, rfl, rfl⟩
  · exact ⟨t, rfl⟩
  · exact ⟨t, rfl⟩
theorem frz_at {X : Cx} {pins : List (Addr × Obj)} {σ : St} {H : Hp} {s : Shared} {a : Addr} {o : Obj} {kvs : List (Key × V)} (I : Inv X pins σ H s) (e : H a = some (.frz o (.dK kvs))) :
    (a == sysModules) = false ∧ kvs.length ≤ sizeLine ∧ ∃ vs es ep, o.data = .dict es ep ∧ KV kvs vs ∧ s.heap.DictAt (mixKind X.prog X.w) a vs ep := by
  obtain ⟨g, z, y, vs, r, ob, es, ep, g', c1, c2, c3⟩ := (show ObjOk X.prog X.w H s.heap a (.frz o (.dK kvs)) from I.hok a _ e)
  rw [g] at g'
  cases g'
  exact ⟨y, z, vs, es, ep, c2, r, o, es, g, c1, c2, c3⟩
/-- the keys -/
def Itk (a : Addr) (o : Obj) (kvs : List (Key × V)) : It :=
  ⟨fun i H => H a = some (.frz o (.dK kvs)) ∧ i < kvs.length,
   fun i H x H' => H' = H ∧ ∃ k y, kvs[i]? = some (k, y) ∧ x = kV k,
   fun i H => H a = some (.frz o (.dK kvs)) ∧ kvs.length ≤ i⟩
theorem turn_keys {P : Program} {w : World} {K : PySem.W.Frag} {tg : Expr} (a it : Addr) (o : Obj) (kvs : List (Key × V)) {es : Array DictEntry} {ep : Nat} (ho : o.data = .dict es ep) :
    Turn P w K tg (Itk a o kvs) [it] it (fun i h => h.IsKeyIter it a i kvs.length ep) where
  mem := by simp
  obj := fun i h st b hb => by
    obtain ⟨ob, eo, c, d⟩ := st
    rw [List.mem_singleton.mp hb]
    exact ⟨ob, eo, fun v z => by rw [d] at z; cases z⟩
  keep := fun i h h' st k => st.at fun ob eo => k it (by simp) ob eo
  item := by
    intro X hP hw hK hc i pins s σ H E I hf st hg
    subst hP hw hK
    obtain ⟨ha, hi⟩ := hg
    obtain ⟨y, z, vs, es', ep', ho', r, dA⟩ := frz_at I ha
    rw [ho] at ho'
    cases ho'
    have hl := r.length
    have hk1 : kvs[i]? = some kvs[i] := List.getElem?_eq_getElem hi
    obtain ⟨kv, hkv, rk, ru⟩ := paired_get r hk1
    obtain ⟨ob, eo, c, d⟩ := id st
    rw [hl] at st
    refine wpAny_pyNext_dict_item st dA (k := kv.1) (v := kv.2) hkv fun key h' hkey hit' hs' => ?_
    refine ⟨key, rfl, ?_⟩
    obtain ⟨ob', eo', c', d'⟩ := id hit'
    obtain ⟨f0, f1, f2, f3, f4, f5⟩ := hf it (by simp)
    refine go_of (n := "dict_keyiterator") eo' c' d' (by decide) ?_
    refine ⟨kV kv.1, H, I.turned (t' := s.toks) (fun b o hb e => (hs'.2 b hb).trans e) f0 f1 f3 f4 f5, kV_rel hkey, ⟨rfl, kvs[i].1, kvs[i].2, hk1, by rw [rk]⟩, by rw [hl]; exact hit', fun b hb => (hf b hb).1⟩
  done := by
    intro X hP hw hK hc i pins s σ H E I hf st hg
    subst hP hw hK
    obtain ⟨ha, hi⟩ := hg
    obtain ⟨y, z, vs, es', ep', ho', r, dA⟩ := frz_at I ha
    rw [ho] at ho'
    cases ho'
    have hl := r.length
    rw [hl] at st
    obtain ⟨f0, f1, f2, f3, f4, f5⟩ := hf it (by simp)
    exact wpAny_pyNext_dict_end (I.ok.hd hc) st dA (List.getElem?_eq_none (by omega)) fun h' eb => ⟨rfl, I.turned (t' := s.toks) (fun b o hb e => eb b o hb e) f0 f1 f3 f4 f5⟩
  self := fun _ _ _ _ _ st h => wpAny_pyIter_keyiter st h
section
variable {X : Cx}
def iKeys (X : Cx) (td : TE) : TI := fun σ H R => td σ H fun x H1 => ∃ a kvs, x = .ref a ∧ H1 a = some (.dK kvs) ∧ ∀ o, NF X a → R (Itk a o kvs) (upd H1 a (.frz o (.dK kvs)))
theorem pi_keys {tg e : Expr} {td : TE} (hd : PE X e td) : PI X tg e (iKeys X td) := by
  intro pins s σ H R I h
  refine thn (hd pins s σ H _ I h) fun u s1 ⟨x, H1, I1, rx, a, kvs, ex, ea, q⟩ => ?_
  subst ex
  obtain rfl : u = Value.ref a := rx
  obtain ⟨nf, o, ho, I2⟩ := I1.freeze ea
  obtain ⟨y, z, vs, es, ep, hod, r, dA⟩ := frz_at I2 (upd_same (H := H1) (a := a))
  have hl := r.length
  refine wpAny_pyIter_dict y dA ?_
  have hn := I2.hok.fresh (Nat.le_refl s1.heap.objs.size)
  refine ⟨s1.heap.objs.size, [s1.heap.objs.size], _, _, _, rfl, I2.kept (t' := s1.toks) (fun b o e => Heap.get?_push_of_some _ e), turn_keys a _ o kvs hod, ?_, fun b hb => ?_, q o nf⟩
  · exact ⟨_, Heap.get?_push_size _ rfl, rfl, by rw [hl]; rfl⟩
  · rw [List.mem_singleton.mp hb]
    exact I2.fpOk (Nat.le_refl _) hn
/-! ### loops and comprehensions over them -/
theorem for_keys {a : Addr} {o : Obj} {kvs : List (Key × V)} {g : TG} {tb : TS} {D : Ends} {σ : St} {H : Hp} (Pv : Nat → St → Hp → Prop) (h0 : Pv 0 σ H) (hl : ∀ i σ H, i ≤ kvs.length → Pv i σ H → H a = some (.frz o (.dK kvs)))
    (hs : ∀ i k y σ H, kvs[i]? = some (k, y) → Pv i σ H → g (kV k) σ H fun σ2 H2 => tb { D with nx := Pv (i + 1), ct := Pv (i + 1), bk := D.nx } σ2 H2) (hd : ∀ σ H, Pv kvs.length σ H → D.nx σ H) :
    ∃ W : Nat → Nat → St → Hp → Prop, (∃ m, W 0 m σ H) ∧ ∀ i m σ H, W i m σ H →
      ((Itk a o kvs).stop i H ∧ D.nx σ H) ∨ ((Itk a o kvs).go i H ∧ ∃ N : St → Hp → Prop, (∀ σ' H', N σ' H' → ∃ m', m' < m ∧ W (i + 1) m' σ' H') ∧ ∀ x H', (Itk a o kvs).yld i H x H' → g x σ H' fun σ2 H2 => tb { D with nx := N, ct := N, bk := D.nx } σ2 H2) := by
  refine ⟨fun i m σ H => m = kvs.length - i ∧ i ≤ kvs.length ∧ Pv i σ H, ⟨kvs.length, by simp, Nat.zero_le _, h0⟩, ?_⟩
  rintro i m σ H ⟨rfl, hi, p⟩
  have q := hl i σ H hi p
  by_cases hlt : i < kvs.length
  · refine .inr ⟨⟨q, hlt⟩, Pv (i + 1), fun σ' H' p' => ⟨kvs.length - (i + 1), by omega, rfl, hlt, p'⟩, fun x H' y => ?_⟩
    obtain ⟨rfl, k, v, e, rfl⟩ := y
    exact hs i k v σ _ e p
  · have e : i = kvs.length := by omega
    subst e
    exact .inl ⟨⟨q, Nat.le_refl _⟩, hd σ H p⟩
end
end L2


set_option Elab.async false
set_option linter.all false
set_option maxRecDepth 100000
set_option maxHeartbeats 4000000
namespace L2
open PySem PySem.W PySem.Spec PySem.Calls PyProof.Rows
/-! ### == of a list of ints, None, lists, tuples and dicts: what is alike -/
section
variable {X : Cx} {pins : List (Addr × Obj)} {σ : St} {H : Hp} {s : Shared} {A : Around}
end
end L2


set_option Elab.async false
set_option linter.all false
set_option maxRecDepth 100000
set_option maxHeartbeats 4000000
namespace L2
open PySem PySem.W PySem.Spec PySem.Calls PyProof.Rows
section
variable {prog : Program} {w : World} {K : Type} [DecidableEq K] {knd : KeyKind prog w K} {A : Around} {R : Result → Shared → Prop}
end
end L2


set_option Elab.async false
set_option linter.all false
set_option maxRecDepth 100000
set_option maxHeartbeats 4000000
namespace L2
open PySem PySem.W PySem.Spec PySem.Calls PyProof.Rows
/-! ### d.update(e): other keys -/
/-! ### x in range(n) -/
end L2


set_option Elab.async false
set_option linter.all false
set_option maxRecDepth 100000
set_option maxHeartbeats 4000000
namespace L2
open PySem PySem.Spec PyProof.Rows
/-! ### the call of what an expression tells -/
section
variable {X : Cx} {k : Nat} {e a : Expr} {es : List Expr} {pos : Pos} {te : TE} {t : TA}
end
end L2


set_option Elab.async false
set_option linter.all false
set_option maxRecDepth 100000
set_option maxHeartbeats 4000000
namespace L2
open PySem PySem.Spec PyProof.Rows
/-- a dict of the top, keyed by texts: what it holds at x -/
def KHas (K : PySem.W.Frag) (P : Params) (a : Addr) (x : Str) (r : Option V) : Prop :=
  ∃ (es : Array DictEntry) (n : Nat), K.lookup a = some ⟨.type "dict", none, .dict es n, #[]⟩ ∧ PySem.W.KeysLit P es.toList ∧ (a == sysModules) = false ∧ ∃ q, PySem.W.nsIn K a x = some q ∧ RelO r q
def tKGet (K : PySem.W.Frag) (P : Params) (td ty : TE) : TE := fun σ H Q => td σ H fun x H1 => ty σ H1 fun y H2 => ∃ a k v, x = .ref a ∧ y = .str k ∧ KHas K P a k (some v) ∧ Q v H2
section
variable {X : Cx} {o i : Expr} {pos : Pos} {td ty : TE}
theorem pe_kget (ho : PE X o td) (hi : PE X i ty) (hs : NoSl i) : PE X (.Subscript o i pos) (tKGet X.K X.w.params td ty) := by
  intro pins s σ H Q I h
  refine subD_of PySem.F.slot_dict_getitem.lookup hs (thn (ho pins s σ H _ I h) fun u s1 ⟨x, H1, I1, rx, q1⟩ => thn (hi pins s1 σ H1 _ I1 q1) fun iv s2 ⟨y, H2, I2, ry, a, k, v, ex, ey, g, q2⟩ => ?_)
  subst ex ey
  obtain rfl : u = Value.ref a := rx
  obtain ⟨t, rfl⟩ := ry
  obtain ⟨es, n, hl, hk, hm, q, hq, rq⟩ := g
  obtain ⟨w', hw, rw'⟩ := RelO.some_of (v := v) (o := q) rq
  subst hw
  have mo := PySem.W.mapOf_K (prog := X.prog) (w := X.w) I2.kIn hl hk
  exact ⟨mo.typeIs, wpAny_getItem_of (strKind_is X.prog X.w k t) mo (PySem.W.find_K hl hq) ⟨v, H2, I2.tok _, rw', q2⟩⟩
end
end L2


set_option Elab.async false
set_option linter.all false
set_option maxRecDepth 100000
set_option maxHeartbeats 4000000
namespace L2
open PySem PySem.Spec PyProof.Rows
/-! ### d.get(k, x) of a dict of the top -/
section
variable {X : Cx} {o e f : Expr} {apos cpos : Pos} {td ty tx : TE}
end
end L2


set_option Elab.async false
set_option linter.all false
set_option maxRecDepth 100000
set_option maxHeartbeats 4000000
namespace L2
open PySem PySem.Spec PyProof.Rows
/-! ### t * n -/
end L2


set_option Elab.async false
set_option linter.all false
set_option maxRecDepth 100000
set_option maxHeartbeats 4000000
namespace L2
open PySem PySem.Spec PyProof.Rows
theorem comp_enum {K : PySem.W.Frag} {a : Addr} {xs : List V} {g : TG} {tt : TT} {te : TE} {R : Hp → Prop} {D : Addr} {σ0 : St} {H0 : Hp} (Pv : Nat → St → List V → Hp → Prop) (h0 : Pv 0 σ0 [] H0) (hl : ∀ i σ ys H, i ≤ xs.length → Pv i σ ys H → SqL K H a xs)
    (hs : ∀ i x σ ys H t, xs[i]? = some x → H t = none → Pv i σ ys H → g (.ref t) σ (upd H t (.tup [.int i, x])) fun σ2 H2 => tt σ2 H2 fun b H3 =>
      if b = true then te σ2 H3 fun v H4 => H4 D = some (.lst ys) ∧ ys.length < sizeLine ∧ Pv (i + 1) σ2 (ys ++ [v]) (upd H4 D (.lst (ys ++ [v]))) else Pv (i + 1) σ2 ys H3)
    (hd : ∀ σ ys H, Pv xs.length σ ys H → R H) :
    ∃ W : Nat → Nat → St → List V → Hp → Prop, (∃ m, W 0 m σ0 [] H0) ∧ ∀ i m σ ys H, W i m σ ys H →
      ((Ite K a).stop i H ∧ R H) ∨ ((Ite K a).go i H ∧ ∃ N : St → List V → Hp → Prop, (∀ σ' ys' H', N σ' ys' H' → ∃ m', m' < m ∧ W (i + 1) m' σ' ys' H') ∧ ∀ x H', (Ite K a).yld i H x H' → g x σ H' fun σ2 H2 => tt σ2 H2 fun b H3 =>
        if b = true then te σ2 H3 fun v H4 => H4 D = some (.lst ys) ∧ ys.length < sizeLine ∧ N σ2 (ys ++ [v]) (upd H4 D (.lst (ys ++ [v]))) else N σ2 ys H3) := by
  refine ⟨fun i m σ ys H => m = xs.length - i ∧ i ≤ xs.length ∧ Pv i σ ys H, ⟨xs.length, by simp, Nat.zero_le _, h0⟩, ?_⟩
  rintro i m σ ys H ⟨rfl, hi, p⟩
  have q := hl i σ ys H hi p
  by_cases hlt : i < xs.length
  · refine .inr ⟨⟨xs, xs[i], q, by simp [hlt]⟩, Pv (i + 1), fun σ' ys' H' p' => ⟨xs.length - (i + 1), by omega, rfl, hlt, p'⟩, fun x H' y => ?_⟩
    obtain ⟨t, y, hn, e1, e2, hy⟩ := y
    subst e1 e2
    exact hs i y σ ys _ t (hy xs q) hn p
  · have e : i = xs.length := by omega
    subst e
    exact .inl ⟨⟨xs, q, Nat.le_refl _⟩, hd σ ys H p⟩
end L2


set_option Elab.async false
set_option linter.all false
namespace L2
open PySem PySem.Spec PyProof.Rows
/-! ### a block cut at a place: what is true there -/
def tMid (t u : TS) : TS := fun D σ H => ∃ J : St → Hp → Prop, t { D with nx := J } σ H ∧ ∀ σ' H', J σ' H' → u D σ' H'
theorem pss_mid {X : Cx} {st : Stmt} {rest : List Stmt} {t u : TS} (h1 : PS X st t) (h2 : PSs X rest u) : PSs X (st :: rest) (tMid t u) := by
  intro pins s σ H D I h
  obtain ⟨J, h, hJ⟩ := h
  refine wpAny_execs_cons (thn (h1 pins s σ H { D with nx := J } I h) fun f s1 q => ?_)
  cases f with
  | next =>
    obtain ⟨σ', H', I', q⟩ := q
    exact h2 pins s1 σ' H' D I' (hJ _ _ q)
  | ret v => exact q
  | brk => exact q
  | cont => exact q
/-- an expression whose ways come together -/
def eMid (t : TE) : TE := fun σ H Q => ∃ J : VK, t σ H J ∧ ∀ v H', J v H' → Q v H'
theorem pe_mid {X : Cx} {e : Expr} {t : TE} (h : PE X e t) : PE X e (eMid t) := by
  intro pins s σ H Q I q
  obtain ⟨J, q, hJ⟩ := q
  exact thn (h pins s σ H J I q) fun v s1 ⟨x, H1, I1, r, q1⟩ => ⟨x, H1, I1, r, hJ _ _ q1⟩
end L2


set_option Elab.async false
set_option linter.all false
namespace L2
open PySem PySem.Spec PyProof.Rows
/-! ### texts put together: told by one function of the names -/
section
variable {X : Cx}
end
end L2
namespace L2
open PySem PySem.Spec PyProof.Rows
/-! ### what they come to -/
section
variable {σ : St}
end
end L2
namespace L2
open PySem PySem.Spec PyProof.Rows
/-! ### statements with such lists: shut off (else Lean runs through the display at each look) -/
structure PSx (X : Cx) (st : Stmt) (t : TS) : Prop where
  ps : PS X st t
structure PSsx (X : Cx) (b : List Stmt) (t : TS) : Prop where
  ps : PSs X b t
section
variable {X : Cx}
theorem psx_of {st : Stmt} {t : TS} (h : PS X st t) : PSx X st t := ⟨h⟩
theorem psx_if {c : Expr} {a b : List Stmt} {tc : TT} {t u : TS} {pos : Pos} (hc : PT X c tc) (ha : PSsx X a t) (hb : PSsx X b u) : PSx X (.If c a b pos) (tIfS tc t u) := ⟨ps_if hc ha.ps hb.ps⟩
theorem pssx_nil {t : TS} (h : PSs X [] t) : PSsx X [] t := ⟨h⟩
theorem pssx_cons {st : Stmt} {b : List Stmt} {t u : TS} (h : PSx X st t) (k : PSsx X b u) : PSsx X (st :: b) (tSeq t u) := ⟨pss_cons h.ps k.ps⟩
theorem pssx_mid {st : Stmt} {b : List Stmt} {t u : TS} (h : PSx X st t) (k : PSsx X b u) : PSsx X (st :: b) (tMid t u) := ⟨pss_mid h.ps k.ps⟩
theorem pssx_one {st : Stmt} {t : TS} (h : PSx X st t) : PSsx X [st] t := ⟨pss_one h.ps⟩
theorem wrapX {b : List Stmt} {t : TS} {R : TS → Prop} (h : PSsx X b t) (hr : R t) : ∃ t, PSs X b t ∧ R t := ⟨t, h.ps, hr⟩
end
end L2
namespace L2
open PySem PySem.Spec PyProof.Rows
/-! ### whole numbers put together, and their texts -/
section
variable {X : Cx}
end
end L2


set_option Elab.async false
set_option linter.all false
set_option maxRecDepth 100000
set_option maxHeartbeats 4000000
namespace L2
open PySem PySem.Spec PyProof.Rows
section
variable {X : Cx}
end
end L2


set_option Elab.async false
set_option linter.all false
set_option maxRecDepth 100000
set_option maxHeartbeats 4000000
namespace L2
open PySem PySem.Spec PyProof.Rows
section
variable {X : Cx}
end
end L2


set_option Elab.async false
set_option linter.all false
set_option maxRecDepth 100000
set_option maxHeartbeats 4000000
namespace L2
open PySem PySem.Spec PyProof.Rows
/-! ### things as data, of any depth; == and != of two of them -/
inductive Da where
  | non | bl (b : Bool) | int (i : Int) | str (s : Str) | tup (l : List Da) | lst (l : List Da)
mutual
def Da.beq : Da → Da → Bool
  | .non, .non => true
  | .bl a, .bl b => a == b
  | .int a, .int b => decide (a = b)
  | .str a, .str b => decide (a = b)
  | .tup a, .tup b => Da.beqs a b
  | .lst a, .lst b => Da.beqs a b
  | _, _ => false
def Da.beqs : List Da → List Da → Bool
  | [], [] => true
  | a :: r, b :: t => Da.beq a b && Da.beqs r t
  | _, _ => false
end
mutual
theorem Da.beq_iff : ∀ a b : Da, Da.beq a b = true ↔ a = b
  | .non, b => by cases b <;> simp [Da.beq]
  | .bl x, b => by cases b <;> simp [Da.beq]
  | .int x, b => by cases b <;> simp [Da.beq]
  | .str x, b => by cases b <;> simp [Da.beq]
  | .tup x, b => by
    cases b <;> simp [Da.beq]
    exact Da.beqs_iff _ _
  | .lst x, b => by
    cases b <;> simp [Da.beq]
    exact Da.beqs_iff _ _
theorem Da.beqs_iff : ∀ a b : List Da, Da.beqs a b = true ↔ a = b
  | [], b => by cases b <;> simp [Da.beqs]
  | x :: r, [] => by simp [Da.beqs]
  | x :: r, y :: t => by
    simp [Da.beqs]
    rw [Da.beq_iff x y, Da.beqs_iff r t]
end
instance : DecidableEq Da := fun a b => decidable_of_iff _ (Da.beq_iff a b)
/-- v is the thing that d tells -/
inductive DaAt (K : PySem.W.Frag) (H : Hp) : V → Da → Prop
  | non : DaAt K H .non .non
  | bl (b : Bool) : DaAt K H (.bl b) (.bl b)
  | int (i : Int) : DaAt K H (.int i) (.int i)
  | str (x : Str) : DaAt K H (.str x) (.str x)
  | tup {p : Addr} {xs : List V} {ds : List Da} : SqT K H p xs → xs.length = ds.length → (∀ (i : Nat) x d, xs[i]? = some x → ds[i]? = some d → DaAt K H x d) → DaAt K H (.ref p) (.tup ds)
  | lst {p : Addr} {xs : List V} {ds : List Da} : SqL K H p xs → xs.length = ds.length → (∀ (i : Nat) x d, xs[i]? = some x → ds[i]? = some d → DaAt K H x d) → DaAt K H (.ref p) (.lst ds)
/-- no truth within -/
inductive Da.Nb : Nat → Da → Prop
  | non {n} : Da.Nb n .non
  | int {n i} : Da.Nb n (.int i)
  | str {n i} : Da.Nb n (.str i)
  | tup {n l} : (∀ d ∈ l, Da.Nb n d) → Da.Nb (n + 1) (.tup l)
  | lst {n l} : (∀ d ∈ l, Da.Nb n d) → Da.Nb (n + 1) (.lst l)
theorem beqs_range : ∀ (a b : List Da), a.length = b.length → ((List.range a.length).all fun i => decide (a[i]? = b[i]?)) = decide (a = b) := fun a b h => by
  by_cases e : a = b
  · subst e
    simp
  · rw [decide_eq_false e]
    rw [Bool.eq_false_iff]
    intro z
    apply e
    apply List.ext_getElem? 
    intro i
    by_cases hi : i < a.length
    · have := (List.all_eq_true.mp z) i (List.mem_range.mpr hi)
      exact of_decide_eq_true this
    · rw [List.getElem?_eq_none (by omega), List.getElem?_eq_none (by omega)]
section
variable {X : Cx} {pins : List (Addr × Obj)} {σ : St} {H : Hp} {s : Shared}
theorem arr_at {its : List Value} {xs : List V} (r : Vals xs its) {j : Nat} (h : j < its.toArray.size) : ∃ x, xs[j]? = some x ∧ RelV x its.toArray[j] := by
  have l := r.length
  have j1 : j < xs.length := by simp at h; omega
  have z1 : xs[j]? = some xs[j] := List.getElem?_eq_getElem j1
  obtain ⟨u1, w1, q1⟩ := r.get z1
  have e1 : its.toArray[j] = u1 := by
    have : its[j]? = some its[j] := List.getElem?_eq_getElem (by omega)
    rw [this] at w1
    simpa using w1
  exact ⟨_, z1, by rw [e1]; exact q1⟩
theorem not_both {p : Addr} {i1 i2 : Array Value} (t1 : s.heap.IsTuple p i1) (t2 : s.heap.IsList p i2) : False := by
  obtain ⟨o, e, c1, n, d⟩ := t1
  obtain ⟨o', e', c2, n', d'⟩ := t2
  rw [e] at e'; cases e'
  rw [c1] at c2
  exact absurd c2 (by decide)
theorem da_one (I : Inv X pins σ H s) {x : V} {a b : Da} (ha : DaAt X.K H x a) (hb : DaAt X.K H x b) : a = b := by
  induction ha generalizing b with
  | non => cases hb; rfl
  | bl _ => cases hb; rfl
  | int _ => cases hb; rfl
  | str _ => cases hb; rfl
  | @tup p xs ds hp hl hd ih =>
    cases hb with
    | @tup q ys es hq hl2 hd2 =>
      have exy : xs = ys := I.tuple_inj hp hq
      subst exy
      refine congrArg Da.tup ?_
      apply List.ext_getElem (by omega)
      intro j h1 h2
      have g0 : xs[j]? = some xs[j] := List.getElem?_eq_getElem (by omega)
      have g1 : ds[j]? = some ds[j] := List.getElem?_eq_getElem h1
      have g2 : es[j]? = some es[j] := List.getElem?_eq_getElem h2
      exact ih j _ _ g0 g1 (hd2 j _ _ g0 g2)
    | @lst q ys es hq hl2 hd2 =>
      obtain ⟨i1, r1, t1, _⟩ := I.tuple hp
      obtain ⟨i2, r2, t2, _⟩ := I.list hq
      exact (not_both t1 t2.isList).elim
  | @lst p xs ds hp hl hd ih =>
    cases hb with
    | @lst q ys es hq hl2 hd2 =>
      have exy : xs = ys := I.list_inj hp hq
      subst exy
      refine congrArg Da.lst ?_
      apply List.ext_getElem (by omega)
      intro j h1 h2
      have g0 : xs[j]? = some xs[j] := List.getElem?_eq_getElem (by omega)
      have g1 : ds[j]? = some ds[j] := List.getElem?_eq_getElem h1
      have g2 : es[j]? = some es[j] := List.getElem?_eq_getElem h2
      exact ih j _ _ g0 g1 (hd2 j _ _ g0 g2)
    | @tup q ys es hq hl2 hd2 =>
      obtain ⟨i1, r1, t1, _⟩ := I.tuple hq
      obtain ⟨i2, r2, t2, _⟩ := I.list hp
      exact (not_both t1 t2.isList).elim
/-- two rows of things, side by side -/
theorem rows_at {A : Around} {m : Nat} {xs ys : List V} {ds es : List Da} {i1 i2 : List Value} (r1 : Vals xs i1) (r2 : Vals ys i2) (hl : xs.length = ds.length) (hl2 : ys.length = es.length)
    (ih : ∀ (j : Nat) x d y e u v, xs[j]? = some x → ds[j]? = some d → ys[j]? = some y → es[j]? = some e → RelV x u → RelV y v → SeqAt.EqAt A s u v (decide (d = e)))
    (j : Nat) (h1 : j < i1.toArray.size) (h2 : j < i2.toArray.size) : SeqAt.EqAt A s i1.toArray[j] i2.toArray[j] (decide (ds[j]? = es[j]?)) := by
  obtain ⟨x1, z1, q1⟩ := arr_at r1 h1
  obtain ⟨x2, z2, q2⟩ := arr_at r2 h2
  have k1 := (List.getElem?_eq_some_iff.mp z1).1
  have k2 := (List.getElem?_eq_some_iff.mp z2).1
  have g1 : ds[j]? = some (ds[j]'(by omega)) := List.getElem?_eq_getElem (by omega)
  have g2 : es[j]? = some (es[j]'(by omega)) := List.getElem?_eq_getElem (by omega)
  have r := ih j x1 _ x2 _ _ _ z1 g1 z2 g2 q1 q2
  have e : decide (ds[j]? = es[j]?) = decide (ds[j]'(by omega) = es[j]'(by omega)) := by rw [g1, g2]; simp
  rw [e]
  exact r
theorem tup_b {xs ys : List V} {ds es : List Da} {i1 i2 : List Value} (r1 : Vals xs i1) (r2 : Vals ys i2) (hl : xs.length = ds.length) (hl2 : ys.length = es.length) :
    ((List.range (min i1.toArray.size i2.toArray.size)).all (fun j => decide (ds[j]? = es[j]?)) && i1.toArray.size == i2.toArray.size) = decide (ds = es) := by
  have l1 := r1.length
  have l2 := r2.length
  by_cases z : ds.length = es.length
  · have y := beqs_range ds es z
    have s1 : i1.toArray.size = ds.length := by simp; omega
    have s2 : i2.toArray.size = ds.length := by simp; omega
    rw [s1, s2, Nat.min_self, y]
    simp
  · rw [decide_eq_false (fun y => z (by rw [y]))]
    have : (i1.toArray.size == i2.toArray.size) = false := by simp; omega
    rw [this, Bool.and_false]
theorem lst_b {xs ys : List V} {ds es : List Da} {i1 i2 : List Value} (r1 : Vals xs i1) (r2 : Vals ys i2) (hl : xs.length = ds.length) (hl2 : ys.length = es.length) (z : ds.length = es.length) :
    ((List.range i1.toArray.size).all (fun j => decide (ds[j]? = es[j]?))) = decide (ds = es) := by
  have l1 := r1.length
  have s1 : i1.toArray.size = ds.length := by simp; omega
  rw [s1, beqs_range ds es z]
theorem dec_tup (ds es : List Da) : decide (Da.tup ds = Da.tup es) = decide (ds = es) := decide_eq_decide.mpr ⟨Da.tup.inj, congrArg _⟩
theorem dec_lst (ds es : List Da) : decide (Da.lst ds = Da.lst es) = decide (ds = es) := decide_eq_decide.mpr ⟨Da.lst.inj, congrArg _⟩
theorem da_at {A : Around} {n : Nat} (hu : A.units + n < cLine) (I : Inv X pins σ H s) {x y : V} {a b : Da} (ha : DaAt X.K H x a) (hb : DaAt X.K H y b) (na : a.Nb n) (nb : b.Nb n) {u v : Value} (ru : RelV x u) (rv : RelV y v) : SeqAt.EqAt A s u v (decide (a = b)) := by
  induction ha generalizing A n y b u v with
  | non =>
    obtain rfl : u = Value.none := ru
    cases hb with
    | non => obtain rfl : v = Value.none := rv; exact SeqAt.EqAt.same _
    | bl _ => cases nb
    | int j => obtain ⟨t, rfl⟩ := rv; exact SeqAt.EqAt.none_int _ _
    | str j => obtain ⟨t, rfl⟩ := rv; exact SeqAt.EqAt.none_str _ _
    | tup hq => cases rv; obtain ⟨its, r1, p1, _⟩ := I.tuple hq; exact SeqAt.EqAt.none_tuple p1 (by omega)
    | lst hq => cases rv; obtain ⟨its, r1, p1, _⟩ := I.list hq; exact SeqAt.EqAt.none_list p1.isList (by omega)
  | bl _ => cases na
  | int i =>
    obtain ⟨t0, rfl⟩ := ru
    cases hb with
    | non => obtain rfl : v = Value.none := rv; exact SeqAt.EqAt.int_none _ _
    | bl _ => cases nb
    | int j =>
      obtain ⟨t, rfl⟩ := rv
      have := SeqAt.EqAt.int_int (A := A) (s := s) i t0 j t
      have e : (i == j) = decide (Da.int i = Da.int j) := by
        by_cases z : i = j
        · subst z; simp
        · rw [decide_eq_false (fun y => z (Da.int.inj y))]; simp [z]
      rwa [e] at this
    | str j => obtain ⟨t, rfl⟩ := rv; exact SeqAt.EqAt.int_str _ _ _ _
    | tup hq => cases rv; obtain ⟨its, r1, p1, _⟩ := I.tuple hq; exact SeqAt.EqAt.int_tuple _ _ p1 (by omega)
    | lst hq => cases rv; obtain ⟨its, r1, p1, _⟩ := I.list hq; exact SeqAt.EqAt.int_list _ _ p1.isList (by omega)
  | str i =>
    obtain ⟨t0, rfl⟩ := ru
    cases hb with
    | non => obtain rfl : v = Value.none := rv; exact SeqAt.EqAt.str_none _ _
    | bl _ => cases nb
    | int j => obtain ⟨t, rfl⟩ := rv; exact SeqAt.EqAt.str_int _ _ _ _
    | str j =>
      obtain ⟨t, rfl⟩ := rv
      have := SeqAt.EqAt.str_str (A := A) (s := s) i t0 j t
      have e : (i == j) = decide (Da.str i = Da.str j) := by
        by_cases z : i = j
        · subst z; simp
        · rw [decide_eq_false (fun y => z (Da.str.inj y))]; simp [z]
      rwa [e] at this
    | tup hq => cases rv; obtain ⟨its, r1, p1, _⟩ := I.tuple hq; exact SeqAt.EqAt.str_tuple _ _ p1 (by omega)
    | lst hq => cases rv; obtain ⟨its, r1, p1, _⟩ := I.list hq; exact SeqAt.EqAt.str_list _ _ p1.isList (by omega)
  | @tup p xs ds hp hl hd ih =>
    cases ru
    obtain ⟨i1, r1, t1, _⟩ := I.tuple hp
    cases hb with
    | non => obtain rfl : v = Value.none := rv; exact SeqAt.EqAt.tuple_none t1 (by omega)
    | bl _ => cases nb
    | int j => obtain ⟨t, rfl⟩ := rv; exact SeqAt.EqAt.tuple_int _ _ t1 (by omega)
    | str j => obtain ⟨t, rfl⟩ := rv; exact SeqAt.EqAt.tuple_str _ _ t1 (by omega)
    | @tup q ys es hq hl2 hd2 =>
      cases rv
      by_cases c : p = q
      · subst c
        have := da_one I (DaAt.tup hp hl hd) (DaAt.tup hq hl2 hd2)
        rw [decide_eq_true this]
        exact SeqAt.EqAt.same _
      cases na with
      | @tup m l na =>
      cases nb with
      | @tup m l nb =>
      obtain ⟨i2, r2, t2, _⟩ := I.tuple hq
      have key := SeqAt.RcAt.tuples (A := A) (s := s) (e := fun j => decide (ds[j]? = es[j]?)) t1 t2 (by omega) (rows_at (m := m) r1 r2 hl hl2 fun j x d y e u v h1 h2 h3 h4 ru rv =>
        ih j x d h1 h2 (A := A.in1) (n := m) (by show A.units + 1 + m < cLine; omega) (hd2 j y e h3 h4) (na _ (List.mem_of_getElem? h2)) (nb _ (List.mem_of_getElem? h4)) ru rv)
      rw [tup_b r1 r2 hl hl2] at key
      rw [dec_tup]
      exact SeqAt.EqAt.of_refs c key
    | @lst q ys es hq hl2 hd2 =>
      cases rv
      obtain ⟨i2, r2, t2, _⟩ := I.list hq
      by_cases c : p = q
      · subst c
        exact (not_both t1 t2.isList).elim
      · exact SeqAt.EqAt.of_refs c (SeqAt.RcAt.tuple_list t1 t2.isList (by omega))
  | @lst p xs ds hp hl hd ih =>
    cases ru
    obtain ⟨i1, r1, t1, _⟩ := I.list hp
    cases hb with
    | non => obtain rfl : v = Value.none := rv; exact SeqAt.EqAt.list_none t1.isList (by omega)
    | bl _ => cases nb
    | int j => obtain ⟨t, rfl⟩ := rv; exact SeqAt.EqAt.list_int _ _ t1.isList (by omega)
    | str j => obtain ⟨t, rfl⟩ := rv; exact SeqAt.EqAt.list_str _ _ t1.isList (by omega)
    | @lst q ys es hq hl2 hd2 =>
      cases rv
      by_cases c : p = q
      · subst c
        have := da_one I (DaAt.lst hp hl hd) (DaAt.lst hq hl2 hd2)
        rw [decide_eq_true this]
        exact SeqAt.EqAt.same _
      cases na with
      | @lst m l na =>
      cases nb with
      | @lst m l nb =>
      obtain ⟨i2, r2, t2, _⟩ := I.list hq
      have l1 := r1.length
      have l2 := r2.length
      rw [dec_lst]
      by_cases z : ds.length = es.length
      · have key := SeqAt.RcAt.lists (A := A) (s := s) (e := fun j => decide (ds[j]? = es[j]?)) t1.isList t2.isList (by simp; omega) (by omega) (rows_at (m := m) r1 r2 hl hl2 fun j x d y e u v h1 h2 h3 h4 ru rv =>
          ih j x d h1 h2 (A := A.in1) (n := m) (by show A.units + 1 + m < cLine; omega) (hd2 j y e h3 h4) (na _ (List.mem_of_getElem? h2)) (nb _ (List.mem_of_getElem? h4)) ru rv)
        rw [lst_b r1 r2 hl hl2 z] at key
        exact SeqAt.EqAt.of_refs c key
      · rw [decide_eq_false (fun y => z (by rw [y]))]
        exact SeqAt.EqAt.of_refs c (SeqAt.RcAt.lists_lengths t1.isList t2.isList (by simp; omega) (by omega))
    | @tup q ys es hq hl2 hd2 =>
      cases rv
      obtain ⟨i2, r2, t2, _⟩ := I.tuple hq
      by_cases c : p = q
      · subst c
        exact (not_both t2 t1.isList).elim
      · exact SeqAt.EqAt.of_refs c (SeqAt.RcAt.list_tuple t1.isList t2 (by omega))
end
/-- a list or a tuple and another -/
def rEqA (K : PySem.W.Frag) (ne : Bool) : R2 := fun x y H Q => ∃ (n : Nat) (p q : Addr) (a b : Da), x = .ref p ∧ y = .ref q ∧ DaAt K H x a ∧ DaAt K H y b ∧ a.Nb n ∧ b.Nb n ∧ n ≤ 6 ∧ Q (.bl (ne ^^ decide (a = b))) H
section
variable {X : Cx}
theorem op_eqA (hu : X.A.units + 6 < cLine) : OpR X (compareOp .Eq) (rEqA X.K false) := by
  intro pins s σ H x y v u Q I rx ry h
  obtain ⟨n, p, q, a, b, rfl, rfl, ha, hb, na, nb, hn, k⟩ := h
  cases rx
  cases ry
  rw [Bool.false_xor] at k
  cases ha with
  | @tup p xs ds hp hl hd =>
    obtain ⟨i1, r1, t1, _⟩ := I.tuple hp
    cases hb with
    | @tup q ys es hq hl2 hd2 =>
      cases na with
      | @tup m l na =>
      cases nb with
      | @tup m l nb =>
      obtain ⟨i2, r2, t2, _⟩ := I.tuple hq
      have key := SeqAt.RcAt.tuples (A := X.A) (s := s) (e := fun j => decide (ds[j]? = es[j]?)) t1 t2 (by omega) (rows_at (m := m) r1 r2 hl hl2 fun j x d y e u v h1 h2 h3 h4 ru rv =>
        da_at (A := X.A.in1) (n := m) (by show X.A.units + 1 + m < cLine; omega) I (hd j x d h1 h2) (hd2 j y e h3 h4) (na _ (List.mem_of_getElem? h2)) (nb _ (List.mem_of_getElem? h4)) ru rv)
      rw [tup_b r1 r2 hl hl2] at key
      rw [dec_tup] at k
      exact key _ _ _ _ ⟨.bl _, H, I, rfl, k⟩
    | @lst q ys es hq hl2 hd2 =>
      obtain ⟨i2, r2, t2, _⟩ := I.list hq
      exact (SeqAt.RcAt.tuple_list (A := X.A) t1 t2.isList (by omega)) _ _ _ _ ⟨.bl _, H, I, rfl, k⟩
  | @lst p xs ds hp hl hd =>
    obtain ⟨i1, r1, t1, _⟩ := I.list hp
    cases hb with
    | @lst q ys es hq hl2 hd2 =>
      cases na with
      | @lst m l na =>
      cases nb with
      | @lst m l nb =>
      obtain ⟨i2, r2, t2, _⟩ := I.list hq
      have l1 := r1.length
      have l2 := r2.length
      rw [dec_lst] at k
      by_cases z : ds.length = es.length
      · have key := SeqAt.RcAt.lists (A := X.A) (s := s) (e := fun j => decide (ds[j]? = es[j]?)) t1.isList t2.isList (by simp; omega) (by omega) (rows_at (m := m) r1 r2 hl hl2 fun j x d y e u v h1 h2 h3 h4 ru rv =>
          da_at (A := X.A.in1) (n := m) (by show X.A.units + 1 + m < cLine; omega) I (hd j x d h1 h2) (hd2 j y e h3 h4) (na _ (List.mem_of_getElem? h2)) (nb _ (List.mem_of_getElem? h4)) ru rv)
        rw [lst_b r1 r2 hl hl2 z] at key
        exact key _ _ _ _ ⟨.bl _, H, I, rfl, k⟩
      · rw [decide_eq_false (fun y => z (by rw [y]))] at k
        exact (SeqAt.RcAt.lists_lengths (A := X.A) t1.isList t2.isList (by simp; omega) (by omega)) _ _ _ _ ⟨.bl _, H, I, rfl, k⟩
    | @tup q ys es hq hl2 hd2 =>
      obtain ⟨i2, r2, t2, _⟩ := I.tuple hq
      exact (SeqAt.RcAt.list_tuple (A := X.A) t1.isList t2 (by omega)) _ _ _ _ ⟨.bl _, H, I, rfl, k⟩
theorem op_neA (hu : X.A.units + 6 < cLine) : OpR X (compareOp .NotEq) (rEqA X.K true) := by
  intro pins s σ H x y v u Q I rx ry h
  obtain ⟨n, p, q, a, b, rfl, rfl, ha, hb, na, nb, hn, k⟩ := h
  cases rx
  cases ry
  rw [Bool.true_xor] at k
  cases ha with
  | @tup p xs ds hp hl hd =>
    obtain ⟨i1, r1, t1, _⟩ := I.tuple hp
    cases hb with
    | @tup q ys es hq hl2 hd2 =>
      cases na with
      | @tup m l na =>
      cases nb with
      | @tup m l nb =>
      obtain ⟨i2, r2, t2, _⟩ := I.tuple hq
      have key := SeqAt.RcNeAt.tuples (A := X.A) (s := s) (e := fun j => decide (ds[j]? = es[j]?)) t1 t2 (by omega) (rows_at (m := m) r1 r2 hl hl2 fun j x d y e u v h1 h2 h3 h4 ru rv =>
        da_at (A := X.A.in1) (n := m) (by show X.A.units + 1 + m < cLine; omega) I (hd j x d h1 h2) (hd2 j y e h3 h4) (na _ (List.mem_of_getElem? h2)) (nb _ (List.mem_of_getElem? h4)) ru rv)
      rw [tup_b r1 r2 hl hl2] at key
      rw [dec_tup] at k
      exact key _ _ _ _ ⟨.bl _, H, I, rfl, k⟩
    | @lst q ys es hq hl2 hd2 =>
      obtain ⟨i2, r2, t2, _⟩ := I.list hq
      exact (SeqAt.RcNeAt.tuple_list (A := X.A) t1 t2.isList (by omega)) _ _ _ _ ⟨.bl _, H, I, rfl, k⟩
  | @lst p xs ds hp hl hd =>
    obtain ⟨i1, r1, t1, _⟩ := I.list hp
    cases hb with
    | @lst q ys es hq hl2 hd2 =>
      cases na with
      | @lst m l na =>
      cases nb with
      | @lst m l nb =>
      obtain ⟨i2, r2, t2, _⟩ := I.list hq
      have l1 := r1.length
      have l2 := r2.length
      rw [dec_lst] at k
      by_cases z : ds.length = es.length
      · have key := SeqAt.RcNeAt.lists (A := X.A) (s := s) (e := fun j => decide (ds[j]? = es[j]?)) t1.isList t2.isList (by simp; omega) (by omega) (rows_at (m := m) r1 r2 hl hl2 fun j x d y e u v h1 h2 h3 h4 ru rv =>
          da_at (A := X.A.in1) (n := m) (by show X.A.units + 1 + m < cLine; omega) I (hd j x d h1 h2) (hd2 j y e h3 h4) (na _ (List.mem_of_getElem? h2)) (nb _ (List.mem_of_getElem? h4)) ru rv)
        rw [lst_b r1 r2 hl hl2 z] at key
        exact key _ _ _ _ ⟨.bl _, H, I, rfl, k⟩
      · rw [decide_eq_false (fun y => z (by rw [y]))] at k
        exact (SeqAt.RcNeAt.lists_lengths (A := X.A) t1.isList t2.isList (by simp; omega) (by omega)) _ _ _ _ ⟨.bl _, H, I, rfl, k⟩
    | @tup q ys es hq hl2 hd2 =>
      obtain ⟨i2, r2, t2, _⟩ := I.tuple hq
      exact (SeqAt.RcNeAt.list_tuple (A := X.A) t1.isList t2 (by omega)) _ _ _ _ ⟨.bl _, H, I, rfl, k⟩
end
end L2


set_option Elab.async false
set_option linter.all false
set_option maxRecDepth 100000
set_option maxHeartbeats 4000000
namespace L2
open PySem PySem.Spec PyProof.Rows
section
variable {X : Cx}
/-! ### sorted(list of ints), list.remove(int) -/
end
end L2


set_option Elab.async false
set_option linter.all false
set_option maxRecDepth 100000
set_option maxHeartbeats 4000000
namespace L2
open PySem PySem.W PySem.Spec PySem.Calls PyProof.Rows
/-! ### a heap with some of its objects taken away -/
def lessObj (S : List Addr) (i : Nat) (o : Obj) : Obj := if i ∈ S then { o with data := .freed } else o
def less (h : Heap) (S : List Addr) : Heap := { h with objs := h.objs.mapIdx (lessObj S) }
theorem less_in {h : Heap} {S : List Addr} {b : Addr} (hb : b ∈ S) : (less h S).get? b = none := by
  unfold Heap.get? less
  simp only [Array.getElem?_mapIdx]
  cases e : h.objs[b]? with
  | none => rfl
  | some o =>
    simp only [Option.map_some, lessObj, if_pos hb]
theorem less_out {h : Heap} {S : List Addr} {b : Addr} (hb : b ∉ S) : (less h S).get? b = h.get? b := by
  unfold Heap.get? less
  simp only [Array.getElem?_mapIdx]
  cases e : h.objs[b]? with
  | none => rfl
  | some o =>
    simp only [Option.map_some, lessObj, if_neg hb]
theorem less_stays {h : Heap} {S : List Addr} : (less h S).StaysIn h := fun b o e => by
  by_cases hb : b ∈ S
  · rw [less_in hb] at e; cases e
  · rwa [less_out hb] at e
theorem less_funs {h base : Heap} {S : List Addr} : ∀ {l : List Env}, h.FunFrames base l → (∀ b ∈ frs l, b ∈ S) → h.FunFrames (less h S) l
  | [], _, _ => trivial
  | env :: r, ⟨hk, ⟨L, o, hf, hn, ho, hd⟩, hr⟩, hs => by
    have e : frs (env :: r) = L :: frs r := by unfold frs; rw [List.filterMap_cons, hf]
    rw [e] at hs
    exact ⟨hk, ⟨L, o, hf, less_in (hs L (by simp)), ho, hd⟩, less_funs hr fun b hb => hs b (by simp [hb])⟩
/-! ### how an exception lies behind a call -/
theorem ObjOk.some_ {P : Program} {w : World} {H : Hp} {h : Heap} {a : Addr} {o : HO} (x : ObjOk P w H h a o) : ∃ u, h.get? a = some u := by
  cases o with
  | lst xs => obtain ⟨_, _, _, _, e⟩ := x; exact ⟨_, e⟩
  | tup xs => obtain ⟨_, _, _, ob, e, _⟩ := x; exact ⟨_, e⟩
  | dK kvs => obtain ⟨_, _, _, _, o, _, _, e, _⟩ := x; exact ⟨_, e⟩
  | dT kvs => obtain ⟨_, _, _, _, o, _, _, e, _⟩ := x; exact ⟨_, e⟩
  | set S n => obtain ⟨o, _, _, _, e, _⟩ := x; exact ⟨_, e⟩
  | ins C dx fs => obtain ⟨_, _, _, e, _⟩ := x; exact ⟨_, e⟩
  | own y => exact x
  | xd fs => obtain ⟨_, ⟨_, _, _, e, _⟩, _⟩ := x; exact ⟨_, e⟩
  | rng lo hi => obtain ⟨_, _, _, e⟩ := x; exact ⟨_, e⟩
  | frz ob u => obtain ⟨e, _⟩ := x; exact ⟨_, e⟩
  | tbl ps => exact ⟨_, (show h.get? a = some _ from x)⟩
  | met f y => exact ⟨_, (show h.get? a = some _ from x)⟩
  | ext φ => exact x.2.1
/-- an own class of exceptions without an __init__ of its own, as the top has written it -/
structure XCls (K : PySem.W.Frag) (C : Addr) (bmB : List Value) (newId : String) : Prop where
  isIn : excIn K C bmB newId = true
theorem XCls.obj {K : PySem.W.Frag} {C : Addr} {bmB : List Value} {newId : String} {h₀ : Heap} (c : XCls K C bmB newId) (X : K.In h₀) : ∃ bm N nm q bs hdct sn sub ab col dd k0 k1 k2 k3 k5 mN,
      h₀.get? C = some (excClassObj nm q C N bs bm hdct sn sub ab col dd k0 k1 k2 k3 k5 newId) ∧ h₀.Ns N mN ∧ mN (Str.ofString "__init__") = none ∧ OwnTail h₀ bmB bm := by
  have q := c.isIn
  unfold excIn at q
  split at q
  · rename_i dd cd sl ho
    split at q
    · rename_i C' bm k0 k1 k2 k3 n k5 hm hs
      simp only [Bool.and_eq_true, beq_iff_eq, Bool.not_eq_true'] at q
      obtain ⟨⟨⟨⟨⟨rfl, rfl⟩, hdel⟩, ht⟩, hok⟩, hni⟩ := q
      obtain ⟨nm, bs, mro, ns, qn, hd, sn, sub, ab, col, del⟩ := cd
      dsimp only at hm hdel hok hni
      subst hm hdel
      have hsl : sl = #[k0, k1, k2, k3, some (.builtin n), k5] := by
        obtain ⟨l⟩ := sl
        simp only at hs
        rw [hs]
      subst hsl
      exact ⟨bm, ns, nm, qn, bs, hd, sn, sub, ab, col, dd, k0, k1, k2, k3, k5, _, X _ _ ho, .of_isNs (isNs_of_in X hok), nsMap_none_of_in X hok hni, tail_of_in X ht⟩
    · cases q
  · cases q
section
variable {P : Program} {w : World} {K : PySem.W.Frag} {mg : Str → Option Value} {base : Heap} {N : List Str} {qual : Str} {scope : Scope} {f : Addr} {cd : Value} {A : Around} {outer : List Env} {s₀ : Shared} {H₀ : Hp} {E : XK}
end
end L2


set_option Elab.async false
set_option linter.all false
set_option maxRecDepth 100000
set_option maxHeartbeats 4000000
namespace L2
open PySem PySem.W PySem.Spec PySem.Calls PyProof.Rows
/-- a def by its body, exceptions and all -/
theorem Fun.okX {P : Program} {w : World} {K : PySem.W.Frag} {mg : Str → Option Value} {base : Heap} {CX : CXT} {x qual : Str} {st : Stmt} {f : Addr} {fd : FuncData} {N ps : List Str} {k : Nat} {sp : Sp} (F : Fun K x qual st f fd) (S : FnScope N ps (defScope st)) (len : ∀ vs H Q E, sp vs H Q E → vs.length = ps.length)
    (hbody : ∀ (cdv : Value) (A : Around) (outer : List Env) (s : Shared) (H : Hp) (vs : List V) (Q : VK) (E : XK), Room k (A.deeper (envOfC qual (defScope st) s.heap.objs.size f cdv)) → sp vs H Q E →
      ∃ t, PSs (cxOf CX P w K mg base N qual (defScope st) f cdv A outer s H E) (defBody st) t ∧ t { nx := fun _ H' => Q .non H', rt := Q } (start N vs) H) : FnOk P w K mg base CX (k + 1) f fd ps sp := by
  obtain ⟨oc, od, kV, doc, pm, an, cdv, ct, osl, rfl, lk, hcd⟩ := F.ex
  exact fn_of lk hcd S len fun A outer s H vs Q E hr hsp => hbody cdv A outer s H vs Q E hr hsp
section
variable {X : Cx} {pins : List (Addr × Obj)} {σ : St}
/-- what flies stands apart from B: over another heap -/
theorem fly_less {B h : Heap} {l : List Env} {ea : Addr} {cls a0 : Value} (fly : B.FlyingW l ea cls a0 h) : ∃ T, B.get? ea = none ∧ B.get? T = none ∧ (less h (frs l ++ [ea, T])).FlyingW l ea cls a0 h := by
  obtain ⟨f1, f2, f3, oe, vs, T, oT, ts, g1, g2, g3, g4, g5, g6, g7, g8, g9⟩ := fly
  exact ⟨T, f2, g5, less_stays, less_in (by simp), less_funs f3 (fun b hb => by simp [hb]), oe, vs, T, oT, ts, g1, g2, g3, g4, less_in (by simp), g6, g7, g8, g9⟩
end
end L2


set_option Elab.async false
set_option linter.all false
set_option maxRecDepth 100000
set_option maxHeartbeats 4000000
namespace L2
open PySem PySem.W PySem.Spec PySem.Calls PyProof.Rows
section
variable {X : Cx} {pins : List (Addr × Obj)} {σ : St} {H : Hp} {s : Shared}
/-- a name is taken away again (behind an except suite) -/
theorem forget_ok {M : Model} {A : Around} {E : Value → Shared → Prop} {i : Nat} {x : Str} {pos : Pos} {Q : Unit → Shared → Prop} (I : Inv X pins σ H s) (hN : X.N.Nodup) (hi : X.N[i]? = some x) (hk : X.env.kindOf x = some .local)
    (h : ∀ s', Inv X pins (σ.set i none) H s' → Q () s') : wpAny M A (do bindName X.env x .none; unbindBehindTheSuite X.env x pos) Q E s := by
  obtain ⟨m, hn, hl⟩ := id I.loc
  have hcls : (X.env.scope.kind == .class || (X.env.scope.kind == .module && X.env.locals != X.env.globals)) = false := by rw [I.ok.kind]; rfl
  have hiσ : i < σ.length := by rw [I.len]; exact (List.getElem?_eq_some_iff.mp hi).1
  have cne := I.cne
  have tracked : ∀ {a : Addr} {h' : Heap}, (∃ o, s.heap.get? a = some o ∧ H a = none) → Heap.SameBut a s.heap h' → HOk X.prog X.w H h' := fun {a h'} ha hs b ob e => by
    obtain ⟨_, _, hfree⟩ := ha
    refine (I.hok b ob e).stay (fun c w' hc q => (hs.2 c ?_).trans q) (fun _ q => q) fun _ _ q => q
    rintro rfl
    rcases hc with rfl | hc
    · rw [hfree] at e; cases e
    · rw [hfree] at hc; cases hc
  refine wpAny_nameGoes_keeps hk hn hcls fun h' v hn' hs => ?_
  obtain ⟨oL, _, _, hoL, _⟩ := id hn
  refine h _ ⟨I.ok, I.os, I.bare, ⟨fun b o e n hb hx => ?_, fun b o e n hb hx => ?_, I.base.free, fun b o e hx => ?_, I.base.tups, I.base.frzs, I.base.tbls⟩, ⟨_, hn', fun j y v' e1 e2 e3 => ?_⟩, fun y c e => ?_, I.free, I.freeC, fun p hp => ?_, tracked ⟨oL, hoL, I.free⟩ hs, by simpa using I.len⟩
  · exact (hs.2 b (Nat.ne_of_lt (Nat.lt_of_lt_of_le (Heap.lt_size e) I.ok.above))).trans (I.base.keep b o e n hb hx)
  · obtain ⟨sl, e1⟩ := I.base.slot b o e n hb hx
    exact ⟨sl, (hs.2 b (Nat.ne_of_lt (Nat.lt_of_lt_of_le (Heap.lt_size e) I.ok.above))).trans e1⟩
  · obtain ⟨o', e1⟩ := I.base.there b o e hx
    exact ⟨o', (hs.2 b (Nat.ne_of_lt (Nat.lt_of_lt_of_le (Heap.lt_size e) I.ok.above))).trans e1⟩
  · by_cases hj : j = i
    · subst hj
      rw [List.getElem?_set_self hiσ] at e2
      cases e2
    · rw [List.getElem?_set_ne (Ne.symm hj)] at e2
      obtain ⟨u', r', q⟩ := hl j y v' e1 e2 e3
      refine ⟨u', r', ?_⟩
      rcases q with ⟨k, e⟩ | ⟨k, c, e, z⟩
      · refine .inl ⟨k, ?_⟩
        have : y ≠ x := fun e => hj (nodup_ix hN e1 (e ▸ hi))
        simp [this, e]
      · exact .inr ⟨k, c, e, z.sameBut hs (cne y c e)⟩
  · obtain ⟨w', z⟩ := I.cell y c e
    exact ⟨w', z.sameBut hs (cne y c e)⟩
  · obtain ⟨e, n, ne, nf, d⟩ := I.pin p hp
    exact ⟨(hs.2 p.1 ne).trans e, n, ne, nf, d⟩
/-- within an except suite, the exception at ea -/
abbrev Cx.inSuite (X : Cx) (ea : Addr) : Cx := { X with A := X.A.mark (some (.ref ea)), calm := false, xe := fun _ _ => False }
theorem Inv.suite (I : Inv X pins σ H s) (ea : Addr) : Inv (X.inSuite ea) pins σ H s :=
  ⟨⟨I.ok.mod, I.ok.kind, I.ok.glob, I.ok.blt, I.ok.above, I.ok.inj, I.ok.has, I.ok.cab, (fun z => by cases z), I.ok.frames, I.ok.stk, I.ok.exf, I.ok.bs, I.ok.bsz, I.ok.noex, I.ok.exfs, I.ok.funs, I.ok.frf⟩, I.os, I.bare, I.base, I.loc, I.cell, I.free, I.freeC, I.pin, I.hok, I.len⟩
theorem Inv.unsuite {ea : Addr} (ok : X.Ok) (I : Inv (X.inSuite ea) pins σ H s) : Inv X pins σ H s := ⟨ok, I.os, I.bare, I.base, I.loc, I.cell, I.free, I.freeC, I.pin, I.hok, I.len⟩
end
end L2


set_option Elab.async false
set_option linter.all false
set_option maxRecDepth 100000
set_option maxHeartbeats 4000000
namespace L2
open PySem PySem.W PySem.Spec PySem.Calls PyProof.Rows
/-- the ends of an except suite: the name at i goes -/
def Ends.less (D : Ends) (i : Nat) : Ends := { nx := fun σ H => D.nx (σ.set i none) H, rt := D.rt, bk := fun σ H => D.bk (σ.set i none) H, ct := fun σ H => D.ct (σ.set i none) H }
section
variable {X : Cx} {k : Nat} {f C cR : Addr} {fd : FuncData} {ps : List Str} {sp : Sp} {dvs : List V} {ds : List Value} {x m n : Str} {np pos apos p2 p3 p4 : Pos} {o : Expr} {ta : TE} {ts : TS} {i : Nat} {b₀ : Stmt} {suite : List Stmt} {L : Addr}
end
end L2


set_option Elab.async false
set_option linter.all false
set_option maxRecDepth 100000
set_option maxHeartbeats 4000000
namespace L2
open PySem PySem.W PySem.Spec PySem.Calls PyProof.Rows PySem.Builtin PySem.Builtin.ObjectAttr PySem.Builtin.Getset_descriptor
section
variable {prog : Program} {w : World} {A : Around} {E : Value → Shared → Prop} {s : Shared} {K : PySem.W.Frag} {x C : Addr}
/-- what the top tells of a class of exceptions, for reading __class__ -/
structure XRead (K : PySem.W.Frag) (C : Addr) : Prop where
  ga : findIn K (.ref C) "__getattribute__" = some (some (.builtin "BaseException.__getattribute__"))
  gh : findIn K (.ref C) "__getattr__" = some none
  cl : findIn K (.ref C) "__class__" = some (some (.builtin "object.__class__"))
  gt : specialIn K (.builtin "object.__class__") "__get__" = some (some (.builtin "getset_descriptor.__get__"))
  tk : takesIn K (.builtin "object.__class__") = some true
  ob : mroIn K C (.type "object") = some true
  bx : mroIn K C (.type "BaseException") = some true
  ci : (clsIn K C).isSome = true
theorem check_exc {M : Model} {nameV : Value} {Q : Unit → Shared → Prop} (L0 : Looks M s.heap (typeOf (.ref x)) (.ref C)) (L3 : Looks M s.heap (isSubtype (.ref C) (.type "BaseException")) true) (hq : Q () s) : wpAny M A (checkBuiltinCall "BaseException.__getattribute__" ⟨[.ref x, nameV], []⟩) Q E s := by
  have hk : builtinKind "BaseException.__getattribute__" = some .slot := by decide +kernel
  have hsplit : splitId "BaseException.__getattribute__" = some ("BaseException", "__getattribute__") := by decide +kernel
  have ha := F.args_bexc_ga (.ref x) nameV
  obtain ⟨hh, g, d, t, os⟩ := s
  simp only [checkBuiltinCall, hk, hsplit]
  refine wpAny_bind ?_
  · unfold isInstance
    repeat (first | lk | wp_step)
    exact hq
end
end L2


set_option Elab.async false
set_option linter.all false
set_option maxRecDepth 100000
set_option maxHeartbeats 4000000
namespace L2
open PySem PySem.W PySem.Spec PySem.Calls PyProof.Rows
section
variable {X : Cx} {C : Addr} {Bn : String}
end
end L2


set_option Elab.async false
set_option linter.all false
set_option maxRecDepth 100000
set_option maxHeartbeats 4000000
namespace L2
open PySem PySem.W PySem.Spec PySem.Calls PyProof.Rows
/-! ### exceptions with attributes of their own: their dict stays while they fly -/
def Dct (h : Heap) (e : Addr) (od : Option Addr) : Prop := ∃ o, h.get? e = some o ∧ o.dict = od
theorem dict_mapFields (o : Obj) (f : Array Value → Array Value) : (Obj.mapFields f o).dict = o.dict := by
  unfold Obj.mapFields
  split <;> rfl
section
variable {M : Model} {A : Around} {XE : Value → Shared → Prop} {s : Shared} {B : Heap} {env : Env} {outer l : List Env} {L e : Addr} {cls a0 fl : Value} {od : Option Addr} {Q : Unit → Shared → Prop}
theorem noRec {h : Heap} {e b : Addr} {oe o : Obj} {vs : Array Value} (he : h.get? e = some oe) (hd : oe.data = .fields vs) (hb : h.get? b = some o) (n : ∀ vs, o.data ≠ .fields vs) : b ≠ e := fun z => by
  subst z
  cases he.symm.trans hb
  exact n vs hd
theorem entryD {oe : Obj} {vs : Array Value} {head : Value} {hn : Bool} (fr : A.frames = some (env :: outer)) (fu : s.heap.FunFrames B (env :: outer)) (hf : env.frame = some L) (he : s.heap.get? e = some oe) (st : B.StaysIn s.heap) (ne : B.get? e = none)
    (hd : oe.data = .fields vs) (sz : 1 < vs.size) (h0 : vs[0]? = some a0) (k : ∀ h', Heap.NotedW B (env :: outer) e oe.cls a0 (rawInt L) s.heap h' → Dct h' e oe.dict → Q () { s with heap := h' }) :
    wpAny M A (do
      let a ← frameOf env
      let pl ← entryPlaceOf L hn
      let b ← EntryCells.newEntry head a .none (rawInt L) .none pl
      setField (.ref e) 1 b) Q XE s := by
  have nf : e ∉ frs (env :: outer) := fun z => by
    obtain ⟨_, o, ho, n⟩ := fu.mem z
    cases he.symm.trans ho
    exact n vs hd
  refine wpAny_bind (wpAny_frameOf_fun fr fu hf fun g kg => ?_)
  have e1 : g.get? e = some oe := (kg.2.1 e nf).trans he
  have key : ∀ (tb : Obj) (ts : Array Value), tb.data = .fields ts → ts[3]? = some (rawInt L) → wpAny M A (setField (.ref e) 1 (.ref g.objs.size)) Q XE { s with heap := g.push tb } := fun tb ts td t3 => by
    have e2 := Heap.get?_push_of_some tb e1
    have nT : g.objs.size ≠ e := Nat.ne_of_gt (Heap.lt_size e1)
    have d3 := Obj.data_mapFields hd (·.setIfInBounds 1 (Value.ref g.objs.size))
    have e3 := Heap.get?_update_self (Obj.mapFields (·.setIfInBounds 1 (Value.ref g.objs.size))) e2 (Obj.isFreed_of_fields d3)
    have hT : (g.push tb).get? g.objs.size = some tb := Heap.get?_push_size g (Obj.isFreed_of_fields td)
    have hT3 := (Heap.get?_update_other (g.push tb) (Obj.mapFields (·.setIfInBounds 1 (Value.ref g.objs.size))) nT.symm).trans hT
    have keep : ∀ b o, b ≠ e → g.get? b = some o → ((g.push tb).update e (Obj.mapFields (·.setIfInBounds 1 (Value.ref g.objs.size)))).get? b = some o := fun b o n hb => (Heap.get?_update_other _ _ n.symm).trans (Heap.get?_push_of_some _ hb)
    have stg : B.StaysIn g := fun b o hb => (kg.2.1 b fun z => by
      have := (fu.mem z).1
      rw [hb] at this
      cases this).trans (st b o hb)
    refine wpAny_setField e2 hd sz (k _ ⟨fun b o hb => keep b o (fun z => by rw [z, ne] at hb; cases hb) (stg b o hb), fu.of_keeps fun b o hb n => ?_, ?_, fun b o hb n => ?_⟩ ⟨_, e3, dict_mapFields _ _⟩)
    · obtain ⟨sl, hs⟩ := kg.2.2 b o hb
      exact ⟨_, keep b _ (noRec he hd hb n) hs, rfl⟩
    · exact ⟨_, _, g.objs.size, _, _, e3, ⟨Obj.cls_mapFields _ _, by rw [Array.getElem?_setIfInBounds_ne (by decide)]; exact h0⟩, d3, by simp [sz], stg.fresh, nT, hT3, td, t3⟩
    · obtain ⟨sl, hs⟩ := kg.2.2 b o hb
      exact ⟨sl, keep b _ (noRec he hd hb n) hs⟩
  refine wpAny_bind (wpAny_entryPlaceOf fun pl hp => ?_)
  unfold EntryCells.newEntry newFields
  refine wpAny_bind (wpAny_newObj_type ?_ (hp.sizeOk5 _ _ _ _ _))
  exact key _ _ rfl (by first | (simp; done) | (rcases hp with rfl | ⟨_, _, _, _, _, _, _, rfl⟩ <;> simp))
theorem noteFirstD {oe : Obj} {vs : Array Value} (fr : A.frames = some (env :: outer)) (fu : s.heap.FunFrames B (env :: outer)) (hf : env.frame = some L) (he : s.heap.get? e = some oe) (st : B.StaysIn s.heap) (ne : B.get? e = none)
    (hd : oe.data = .fields vs) (h1 : vs[1]? = some .none) (h0 : vs[0]? = some a0) (k : ∀ h', Heap.NotedW B (env :: outer) e oe.cls a0 (rawInt L) s.heap h' → Dct h' e oe.dict → Q () { s with heap := h' }) :
    wpAny M A (noteFrame (.ref e) env) Q XE s := by
  unfold noteFrame
  simp only [hf]
  refine wpAny_bind (wpAny_field he hd h1 ?_)
  rw [if_neg (by decide)]
  exact entryD fr fu hf he st ne hd (Array.getElem?_eq_some_iff.mp h1).1 h0 k
theorem noteNextD (fr : A.frames = some (env :: outer)) (hf : env.frame = some L) (fly : B.FlyingW (env :: outer) e cls a0 s.heap) (dc : Dct s.heap e od)
    (k : ∀ h', Heap.NotedW B (env :: outer) e cls a0 (rawInt L) s.heap h' → Dct h' e od → Q () { s with heap := h' }) : wpAny M A (noteFrame (.ref e) env) Q XE s := by
  obtain ⟨st, ne, fu, oe, vs, T, oT, ts, he, ⟨hc, h0⟩, hd, h1, nT, Te, hT, dT, h3⟩ := fly
  subst hc
  obtain ⟨oe', he', hod⟩ := dc
  cases he.symm.trans he'
  subst hod
  unfold noteFrame
  simp only [hf]
  refine wpAny_bind (wpAny_field he hd h1 ?_)
  rw [if_pos (by simp)]
  refine wpAny_bind (wpAny_field hT dT h3 ?_)
  rw [if_neg (by simp [rawInt])]
  refine wpAny_bind (wpAny_setField hT dT (Array.getElem?_eq_some_iff.mp h3).1 ?_)
  have oth : ∀ b, b ≠ T → (s.heap.update T (Obj.mapFields (·.setIfInBounds 3 Value.none))).get? b = s.heap.get? b := fun b n => Heap.get?_update_other _ _ n.symm
  refine entryD fr (fu.of_keeps fun b o hb n => ⟨o, (oth b (noRec hT dT hb n)).trans hb, rfl⟩) hf ((oth e Te.symm).trans he) (fun b o hb => (oth b fun z => by
    rw [z, nT] at hb
    cases hb).trans (st b o hb)) ne hd (Array.getElem?_eq_some_iff.mp h1).1 h0 fun h' q q2 => k h' ⟨q.1, q.2.1, q.2.2.1, fun b o hb n => q.2.2.2 b o ((oth b (noRec hT dT hb n)).trans hb) n⟩ q2
theorem flightD (st : B.StaysIn s.heap) (fu : s.heap.FunFrames B l) (tr : s.heap.TracedAtW B e cls a0 fl) (dc : Dct s.heap e od)
    (k : ∀ h', B.StaysIn h' → h'.FunFrames B l → h'.TracedW B e cls a0 → (∀ b o, s.heap.get? b = some o → (∀ vs, o.data ≠ .fields vs) → h'.get? b = some o) → Dct h' e od → Q () { s with heap := h' }) : wpAny M A (setFlight (.ref e) none) Q XE s := by
  obtain ⟨oe, vs, T, oT, ts, he, hc, hd, h1, nT, Te, hT, dT, h3⟩ := tr
  obtain ⟨oe', he', hod⟩ := dc
  cases he.symm.trans he'
  have sz : 3 < ts.size := (Array.getElem?_eq_some_iff.mp h3).1
  have oth : ∀ b, b ≠ T → (s.heap.update T (Obj.mapFields (·.setIfInBounds 3 ((none : Option Addr).elim Value.none fun f => rawInt f)))).get? b = s.heap.get? b := fun b n => Heap.get?_update_other _ _ n.symm
  unfold setFlight
  refine wpAny_bind (wpAny_field he hd h1 ?_)
  rw [if_pos (by simp)]
  refine wpAny_setField hT dT sz (k _ (fun b o hb => (oth b fun z => by
    rw [z, nT] at hb
    cases hb).trans (st b o hb)) (fu.of_keeps fun b o hb n => ⟨o, (oth b (noRec hT dT hb n)).trans hb, rfl⟩) ?_ (fun b o hb n => (oth b (noRec hT dT hb n)).trans hb) ⟨oe, (oth e Te.symm).trans he, hod⟩)
  exact ⟨oe, vs, T, _, _, (oth e Te.symm).trans he, hc, hd, h1, nT, Te, Heap.get?_update_self _ hT (Obj.isFreed_of_fields (Obj.data_mapFields dT _)), Obj.data_mapFields dT _, by simp [sz]⟩
/-- it leaves the frame in which it was made -/
theorem leavesD {oe : Obj} {vs : Array Value} (fr : A.frames = some (env :: outer)) (fu : s.heap.FunFrames B (env :: outer)) (hf : env.frame = some L) (he : s.heap.get? e = some oe) (st : B.StaysIn s.heap) (ne : B.get? e = none)
    (hd : oe.data = .fields vs) (h1 : vs[1]? = some .none) (h0 : vs[0]? = some a0) (k : ∀ h', B.FlyingW outer e oe.cls a0 h' → s.heap.UpToSlots h' → Dct h' e oe.dict → Q () { s with heap := h' }) : wpAny M A (leaving env (.ref e)) Q XE s := by
  unfold leaving
  refine wpAny_bind (noteFirstD fr fu hf he st ne hd h1 h0 fun h1 q dc => ?_)
  exact flightD (s := { s with heap := h1 }) q.1 q.2.1 q.2.2.1 dc fun h2 a b c d dc2 => k h2 ⟨a, ne, b.2.2, c⟩ (Heap.UpToSlots.trans q.2.2.2 fun b o hb n => ⟨o.slots, d b o hb n⟩) dc2
/-- it goes on through a frame -/
theorem leavesOnD (fr : A.frames = some (env :: outer)) (hf : env.frame = some L) (fly : B.FlyingW (env :: outer) e cls a0 s.heap) (dc : Dct s.heap e od)
    (k : ∀ h', B.FlyingW outer e cls a0 h' → s.heap.UpToSlots h' → Dct h' e od → Q () { s with heap := h' }) : wpAny M A (leaving env (.ref e)) Q XE s := by
  unfold leaving
  refine wpAny_bind (noteNextD fr hf fly dc fun h1 q dc => ?_)
  exact flightD (s := { s with heap := h1 }) q.1 q.2.1 q.2.2.1 dc fun h2 a b c d dc2 => k h2 ⟨a, fly.2.1, b.2.2, c⟩ (Heap.UpToSlots.trans q.2.2.2 fun b o hb n => ⟨o.slots, d b o hb n⟩) dc2
/-- it comes to a try, and lands -/
theorem looksD (fr : A.frames = some (env :: outer)) (hf : env.frame = some L) (fly : B.FlyingW (env :: outer) e cls a0 s.heap) (dc : Dct s.heap e od)
    (k : ∀ h', B.HeldW (env :: outer) e cls a0 L h' → s.heap.UpToSlots h' → Dct h' e od → Q () { s with heap := h' }) : wpAny M A (noteFrame (.ref e) env) Q XE s :=
  noteNextD fr hf fly dc fun h1 q dc => k h1 ⟨q.1, fly.2.1, q.2.1, q.2.2.1⟩ q.2.2.2 dc
theorem landsD (h : B.HeldW l e cls a0 L s.heap) (dc : Dct s.heap e od) (k : ∀ h', B.FlyingW l e cls a0 h' → s.heap.UpToSlots h' → Dct h' e od → Q () { s with heap := h' }) : wpAny M A (setFlight (.ref e) none) Q XE s :=
  flightD h.1 h.2.2.1 h.2.2.2 dc fun h2 a b c d dc2 => k h2 ⟨a, h.2.1, b, c⟩ (fun b o hb n => ⟨o.slots, d b o hb n⟩) dc2
theorem againD (h : B.FlyingW l e cls a0 s.heap) (dc : Dct s.heap e od) (k : ∀ h', B.FlyingW l e cls a0 h' → s.heap.UpToSlots h' → Dct h' e od → Q () { s with heap := h' }) : wpAny M A (setFlight (.ref e) none) Q XE s :=
  flightD h.1 h.2.2.1 h.2.2.2.at dc fun h2 a b c d dc2 => k h2 ⟨a, h.2.1, b, c⟩ (fun b o hb n => ⟨o.slots, d b o hb n⟩) dc2
end
end L2


set_option Elab.async false
set_option linter.all false
set_option maxRecDepth 100000
set_option maxHeartbeats 4000000
namespace L2
open PySem PySem.W PySem.Spec PySem.Calls PyProof.Rows
/-! ### own exceptions with an __init__ of their own: made, told of, written to, read -/
abbrev vmVE : List Value := [.type "ValueError", .type "Exception", .type "BaseException", .type "object"]
/-- an exception's object, its arguments at t -/
abbrev eO (C t : Addr) (od : Option Addr) : Obj := { cls := .ref C, dict := od, data := .fields #[.ref t, .none, .none, .none, .bool false, .none] }
/-- the class C, an own one right under the own class R, that under ValueError; its __init__ is its own, R has none -/
structure XIni (K : PySem.W.Frag) (C R fI : Addr) : Prop where
  lk : ∃ dd nm bs ns qn sn sub ab col k0 k1 k2 k3 k5, K.lookup C = some ⟨.type "type", dd, .cls ⟨nm, bs, .ref C :: .ref R :: vmVE, ns, qn, true, sn, sub, ab, col, false⟩, #[k0, k1, k2, k3, some (.builtin "ValueError.__new__"), k5]⟩
  ini : findIn K (.ref C) "__init__" = some (some (.ref fI))
  fn : typeIn K (.ref fI) = some (.type "function")
  row : XCls K R vmVE "ValueError.__new__"
  rtl : mroIn K R (.type "object") = some true
  sa : findIn K (.ref C) "__setattr__" = some (some (.builtin "object.__setattr__"))
  na : takerIn K C "at" = some none
  nat : findIn K (.ref C) "at" = some none
  hd : hasDictIn K C = true
  rd : XRead K C
  sg : specialIn K (.ref R) "__getattribute__" = some (some (.builtin "type.__getattribute__"))
  rr : readsIn K R (.type "type") = true
  fi : findCls K (.ref R) (.type "type") "__init__" = some (.val (.builtin "ValueError.__init__"))
section
variable {K : PySem.W.Frag} {C R fI : Addr} {h : Heap}
theorem XIni.obj (c : XIni K C R fI) (X : K.In h) : ∃ N nm q bs sn sub ab col dd k0 k1 k2 k3 k5, h.get? C = some (excClassObj nm q C N bs (.ref R :: vmVE) true sn sub ab col dd k0 k1 k2 k3 k5 "ValueError.__new__") := by
  obtain ⟨dd, nm, bs, ns, qn, sn, sub, ab, col, k0, k1, k2, k3, k5, e⟩ := c.lk
  exact ⟨ns, nm, qn, bs, sn, sub, ab, col, dd, k0, k1, k2, k3, k5, X _ _ e⟩
theorem XIni.tail (c : XIni K C R fI) (X : K.In h) : OwnTail h vmVE (.ref R :: vmVE) := by
  obtain ⟨bm, N, nm, q, bs, hdct, sn, sub, ab, col, dd, k0, k1, k2, k3, k5, mN, hR, hN, hni, _⟩ := c.row.obj X
  exact .own hR hN hni .base
variable {prog : Program} {w : World} {A : Around} {XE : Value → Shared → Prop} {s : Shared}
theorem type_call_ini (c : XIni K C R fI) (X : K.In s.heap) {rest : List Value} {Q : Fin → Shared → Prop} (hz : rest.length ≤ sizeLine)
    (k : wpAny (model prog w) A (call (.ref fI) (.ref (s.heap.objs.size + 1) :: rest)) (fun r s' => r = .none ∧ Q (.done (.ret (.ref (s.heap.objs.size + 1)))) s') XE { s with heap := (s.heap.push { cls := .type "tuple", data := .seq rest.toArray }).push (eO C s.heap.objs.size none) }) :
    wpAny (model prog w) A (Builtin.«type.__call__» ⟨.ref C :: rest, []⟩) Q XE s := by
  obtain ⟨N, nm, q, bs, sn, sub, ab, col, dd, k0, k1, k2, k3, k5, hC⟩ := c.obj X
  have T := c.tail X
  have F := PySem.F.excBase_ValueError
  obtain ⟨h, g, d, t, os⟩ := s
  dsimp only at hC T X k ⊢
  repeat (first | with_reducible refine wpAny_loadPart_at hC ?_ | with_reducible refine wpAny_madeBy_exc hC ?_ | wp_step)
  refine codeAny_call_builtin_code (Code.quiet_builtin _ F.quiet) (wpAny_check_new_subT F T hC ?_)
  refine codeAny_exc_new_subT F T hC ?_ hz
  show wpAny _ _ _ _ _ _
  have kp : ∀ b o, h.get? b = some o → ((h.push { cls := .type "tuple", data := .seq rest.toArray }).push (eO C h.objs.size none)).get? b = some o := fun b o e => Heap.get?_push_of_some _ (Heap.get?_push_of_some _ e)
  have X1 := X.keeps kp
  have hC1 := kp _ _ hC
  have he : ((h.push { cls := .type "tuple", data := .seq rest.toArray }).push (eO C h.objs.size none)).get? (h.objs.size + 1) = some (eO C h.objs.size none) := by heap_get
  have hcC : (Value.ref C :: .ref R :: vmVE).contains (.ref C) = true := by simp
  unfold isInstance
  repeat (first | with_reducible refine wpAny_loadPart_at he ?_ | (with_reducible refine wpAny_isSubtype_exc hC1 ?_; rw [hcC]) | wp_step)
  show wpAny _ _ (typeLookup (.ref C) _) _ _ _
  refine (looks_findIn X1 c.ini).here ?_
  refine wpAny_holding (wpAny_bind ?_)
  unfold bindSpecial
  refine wpAny_bind ((looks_typeIn X1 c.fn).here ?_)
  rw [if_pos (by decide)]
  refine wpAny_pure (wpAny_bind (wpAny_mono k (fun r s' hr => ?_) fun _ _ x => x))
  obtain ⟨rfl, hQ⟩ := hr
  wp_walk
  exact hQ
theorem call_ini (c : XIni K C R fI) (X : K.In s.heap) {rest : List Value} {Q : Value → Shared → Prop} (hz : rest.length ≤ sizeLine)
    (k : wpAny (model prog w) (A.under (.builtin "type.__call__" ⟨.ref C :: rest, []⟩)) (call (.ref fI) (.ref (s.heap.objs.size + 1) :: rest)) (fun r s' => r = .none ∧ Q (.ref (s.heap.objs.size + 1)) s') XE { s with heap := (s.heap.push { cls := .type "tuple", data := .seq rest.toArray }).push (eO C s.heap.objs.size none) }) :
    wpAny (model prog w) A (call (.ref C) rest) Q XE s := by
  obtain ⟨N, nm, q, bs, sn, sub, ab, col, dd, k0, k1, k2, k3, k5, hC⟩ := c.obj X
  have f1 := tc_lookup
  have f2 := tc_bind (.ref C)
  have hT : s.TypeIs (.ref C) "type" := ⟨_, hC, rfl⟩
  refine wpAny_call (codeAny_of_tree ?_)
  show wpAny _ _ (callAny (.ref C) _) _ _ _
  have k2 := fun Q' k' => type_call_ini (prog := prog) (w := w) (A := A.under (.builtin "type.__call__" ⟨.ref C :: rest, []⟩)) (XE := XE) c X (rest := rest) (Q := Q') hz k'
  obtain ⟨h, g, d, t, os⟩ := s
  dsimp only at hC hT X k k2 ⊢
  repeat (any_goals (first | assumption | with_reducible refine wpAny_loadPart_at hC ?_ | wp_step))
  refine ⟨rfl, ?_⟩
  exact codeAny_call_builtin_at (Code.quiet_builtin _ (by decide +kernel)) entry_typeCall (wpAny_check_type_call_sub hC (k2 _ k))
theorem base_ini (c : XIni K C R fI) (X : K.In s.heap) {e t : Addr} {m : Value} {Q : Value → Shared → Prop} (he : s.heap.get? e = some (eO C t none))
    (k : ∀ h', (∀ b o, b ≠ e → s.heap.get? b = some o → h'.get? b = some o) → h'.get? e = some (eO C s.heap.objs.size none) → Q .none { s with heap := h' }) :
    wpAny (model prog w) A (call (.builtin "ValueError.__init__") [.ref e, m]) Q XE s := by
  obtain ⟨N, nm, q, bs, sn, sub, ab, col, dd, k0, k1, k2, k3, k5, hC⟩ := c.obj X
  have T := c.tail X
  have F := PySem.F.excBase_ValueError
  obtain ⟨h, g, d, tk, os⟩ := s
  dsimp only at hC T X k he ⊢
  refine wpAny_call (codeAny_call_builtin F.init.plain F.initEntry (wpAny_check_init_subT F T hC he rfl ?_))
  have he2 := Heap.get?_push_of_some { cls := .type "tuple", data := .seq #[m] } he
  repeat (first | with_reducible refine wpAny_setField he2 rfl (by decide) ?_ | wp_step)
  refine k _ (fun b o n hb => ?_) ?_
  · rw [Heap.get?_update_other _ _ (Ne.symm n)]
    exact Heap.get?_push_of_some _ hb
  · rw [Heap.get?_update_self _ he2 rfl]
    rfl
/-- x.at = v, the first attribute of an own exception -/
theorem set_at (c : XIni K C R fI) (X : K.In s.heap) {e t : Addr} {v : Value} {Q : Unit → Shared → Prop} (he : s.heap.get? e = some (eO C t none))
    (k : ∀ h' tk', (∀ b o, b ≠ e → s.heap.get? b = some o → h'.get? b = some o) → h'.get? e = some (eO C t (some s.heap.objs.size)) → h'.Ns1 s.heap.objs.size (fun y => if y = "at" then some v else none) → Q () { s with heap := h', toks := tk' }) :
    wpAny (model prog w) A (setAttr (.ref e) "at" v) Q XE s := by
  obtain ⟨N, nm, q, bs, sn, sub, ab, col, dd, k0, k1, k2, k3, k5, hC⟩ := c.obj X
  have SF := PySem.F.store_ValueError
  have J : InstAt s.heap e (eO C t none) C none := ⟨he, rfl, rfl, True.intro⟩
  refine set_plain X J c.sa ?_
  have hm : Looks (model prog w) s.heap (mroOf (.ref C)) (.ref C :: .ref R :: vmVE) := (Looks.ld hC).andThen .now
  have sub' : Looks (model prog w) s.heap (isInstance (.ref e) (.type "object")) true := J.type.andThen (looks_mroIn X c.rd.ob)
  refine codeAny_call_builtin SF.slot.plain SF.entry (@check_slot (model prog w) _ _ { s with toks := s.toks + 1 } "object.__setattr__" "object" "__setattr__" (.ref e) [.str "at" s.toks, v] [] _ SF.kind SF.split sub' (SF.args (.ref e) (.str "at" s.toks) v) ?_)
  rw [osa_eq, refuse_eq]
  refine wpAny_bind (wpAny_bind (Looks.here (s := { s with toks := s.toks + 1 }) J.type (wpAny_bind (Looks.here (s := { s with toks := s.toks + 1 }) hm ?_))))
  rw [refuseLoop_ref, refuseLoop_ref, SF.passes]
  refine wpAny_pure (wpAny_bind (Looks.here (s := { s with toks := s.toks + 1 }) J.type (wpAny_bind (Looks.here (s := { s with toks := s.toks + 1 }) (looks_findIn X c.nat) ?_))))
  refine wpAny_bind (wpAny_pure ?_)
  have hc : clsIn K C = some ⟨nm, bs, .ref C :: .ref R :: vmVE, N, q, true, sn, sub, ab, col, false⟩ := by
    obtain ⟨dd', nm', bs', ns', qn', sn', sub', ab', col', k0', k1', k2', k3', k5', e'⟩ := c.lk
    have := X _ _ e'
    rw [hC] at this
    cases this
    unfold clsIn
    rw [e']
  refine wpAny_bind (wpAny_pure (wpAny_bind (wpAny_bind (wpAny_loadPart he (wpAny_bind (Looks.here (s := { s with toks := s.toks + 1 }) (looks_clsIn X hc) ?_))))))
  rw [if_neg (by simp)]
  show wpAny _ _ (if (!true || !typeHasDict (Value.ref C)) = true then pure none else _) _ _ _
  rw [if_neg (by simp [typeHasDict])]
  have hs0 : e ≠ s.heap.objs.size := Nat.ne_of_lt (Heap.lt_size he)
  have he1 := Heap.get?_push_of_some { cls := .type "dict", data := .dict #[] } he
  refine wpAny_bind (wpAny_alloc' ?_)
  refine wpAny_bind (wpAny_update' he1 ?_)
  refine wpAny_pure ?_
  have he2 : ((s.heap.push { cls := .type "dict", data := .dict #[] }).update e fun o => { cls := o.cls, dict := some s.heap.objs.size, data := o.data, slots := o.slots }).get? e = some (eO C t (some s.heap.objs.size)) := Heap.get?_update_self _ he1 rfl
  have hd2 : ((s.heap.push { cls := .type "dict", data := .dict #[] }).update e fun o => { cls := o.cls, dict := some s.heap.objs.size, data := o.data, slots := o.slots }).get? s.heap.objs.size = some { cls := .type "dict", data := .dict #[] } :=
    (Heap.get?_update_ne _ _ _ _ hs0.symm).trans (Heap.get?_push_at rfl rfl)
  have kp : ∀ b o, b ≠ e → s.heap.get? b = some o → ((s.heap.push { cls := .type "dict", data := .dict #[] }).update e fun o => { cls := o.cls, dict := some s.heap.objs.size, data := o.data, slots := o.slots }).get? b = some o := fun b o n hb =>
    (Heap.get?_update_ne _ _ _ _ n).trans (Heap.get?_push_of_some _ hb)
  generalize ((s.heap.push { cls := .type "dict", data := .dict #[] }).update e fun o => { cls := o.cls, dict := some s.heap.objs.size, data := o.data, slots := o.slots }) = h2 at he2 hd2 kp ⊢
  have nd : h2.Ns s.heap.objs.size (fun _ => none) := ⟨_, #[], _, hd2, rfl, fun e he => absurd he (by simp), fun _ => rfl⟩
  show wpAny _ _ (Builtin.ObjectAttr.storeInDict s.heap.objs.size (.str "at" s.toks) "at" v) _ _ _
  unfold Builtin.ObjectAttr.storeInDict Builtin.ObjectAttr.newKeyGuard
  refine wpAny_bind (wpAny_pure (wpAny_bind (wpAny_nsSet1 (Heap.Ns1.of_empty nd) fun h3 hn3 hs3 => ?_)))
  obtain ⟨oD, esD, epD, hoD, hdD, hcD⟩ := hn3.count (Within.cons "at" v Within.nil)
  refine wpAny_bind (wpAny_lookBehind hoD (by rw [hdD]; exact pastItsLine_dict (Nat.le_trans hcD (by rw [List.length_cons, List.length_nil, sizeLine_eq]; omega))) ?_)
  refine wpAny_pure ?_
  exact k h3 _ (fun b o n hb => (hs3.2 b (Nat.ne_of_lt (Heap.lt_size hb))).trans (kp b o n hb)) ((hs3.2 e hs0).trans he2) hn3
/-- x.at of an own exception, caught or not -/
theorem get_at (c : XIni K C R fI) (X : K.In s.heap) {e d : Addr} {o : Obj} {mA : Str → Option Value} {v : Value} {expr : Bool} {Q : Value → Shared → Prop} (he : s.heap.get? e = some o) (hcl : o.cls = .ref C) (hnc : notCls o = true) (hd : o.dict = some d) (hn : s.heap.Ns1 d mA) (hv : mA "at" = some v) (hh : handedIn v = true)
    (k : Q v { s with toks := s.toks + 1 }) : wpAny (model prog w) A (getAttr (.ref e) "at" expr) Q XE s := by
  obtain ⟨od, hod, hl⟩ := lookIn_ns hn
  have J : InstAt s.heap e o C (some od) := ⟨he, hcl, hnc, by rw [hd]; exact hod⟩
  have hf : findObj K C (some od) "at" = some (.value v) := findObj_own c.hd c.nat rfl (by rw [hl, hv])
  have L0 := J.type (M := model prog w)
  have L1 := looks_findIn (M := model prog w) X c.rd.ga
  have L2 := looks_findIn (M := model prog w) X c.rd.gh
  have L3 := looks_mroIn (M := model prog w) X c.rd.bx
  have L4 := looks_find (M := model prog w) X J hf
  have FB := PySem.F.attr_ValueError
  obtain ⟨h, g, dr, tk, os⟩ := s
  dsimp only at X L0 L1 L2 L3 L4 k ⊢
  unfold getAttr getAttrBy
  refine wpAny_bind (wpAny_mkText (wpAny_holding (wpAny_bind (L0.at (wpAny_bind (L1.at ?_))))))
  show wpAny _ _ (getAttrByItsOwn _ _ _ _ _ _) _ _ _
  unfold getAttrByItsOwn hookBefore
  rw [if_pos (show onTheHeap (Value.ref C) = true from rfl)]
  refine wpAny_bind (L2.at (wpAny_bind (wpAny_attempt (wpAny_holding ?_))))
  unfold callGetattribute
  rw [show (expr && onTheHeap (Value.builtin "BaseException.__getattribute__")) = false from Bool.and_false _, if_neg (by decide)]
  unfold boundAndCalled
  rw [FB.ga.bind (.ref e)]
  refine wpAny_bind (wpAny_pure (wpAny_call ?_))
  refine codeAny_call_builtin FB.ga.plain PySem.F.entry_bexc_ga ?_
  refine check_exc L0 L3 ?_
  unfold Builtin.«object.__getattribute__»
  refine wpAny_bind (wpAny_pure (wpAny_bind (wpAny_pure (wpAny_bind (L0.here (wpAny_bind (L4.here ?_)))))))
  refine wpAny_pure ?_
  show wpAny _ _ (handedOut v) _ _ _
  rw [handedOut_of hh]
  exact wpAny_pure k
end
end L2


set_option Elab.async false
set_option linter.all false
set_option maxRecDepth 100000
set_option maxHeartbeats 4000000
namespace L2
open PySem PySem.W PySem.Spec PySem.Calls PyProof.Rows
/-- an own exception being made: as yet without attributes, or with the dict d -/
def excM (e C : Addr) : HO := .ext fun h => ∃ t, h.get? e = some (eO C t none)
def excN (e C d : Addr) : HO := .ext fun h => ∃ t, h.get? e = some (eO C t (some d))
theorem excM_ok {P : Program} {w : World} {H : Hp} {h : Heap} {e C t : Addr} (x : h.get? e = some (eO C t none)) : ObjOk P w H h e (excM e C) :=
  ⟨⟨t, x⟩, ⟨_, x⟩, fun h1 h2 ⟨t', a⟩ k => ⟨t', k _ a⟩⟩
theorem excN_ok {P : Program} {w : World} {H : Hp} {h : Heap} {e C t d : Addr} (x : h.get? e = some (eO C t (some d))) : ObjOk P w H h e (excN e C d) :=
  ⟨⟨t, x⟩, ⟨_, x⟩, fun h1 h2 ⟨t', a⟩ k => ⟨t', k _ a⟩⟩
section
variable {X : Cx} {C R fI : Addr} {x : Str} {e v2 : Expr} {es : List Expr} {t : TA} {te : TE} {np apos pos p1 p2 p3 : Pos} {cc : Str} {j : Nat}
/-- f'..{e}', e a number -/
def tFstr (te : TE) : TE := fun σ H Q => te σ H fun v H1 => ∃ i : Int, v = .int i ∧ i.natAbs < 10 ^ 12 ∧ ∀ u : Str, Q (.str u) H1
theorem pe_fstr (he : PE X e te) (hc : cc.length ≤ 1000) : PE X (.JoinedStr [.Constant (.str cc) j p1, .FormattedValue e (-1) none p2] p3) (tFstr te) := by
  intro pins s σ H Q I h
  refine JoinedStr_many (joinParts_cons (Constant_str ⟨?_, joinParts_cons (FormattedValue_plain (thn (he pins _ σ H _ (I.tok _) h) fun u s1 ⟨v, H1, I1, r1, i, ev, hi, q⟩ => ?_))⟩))
  · rw [strLen_append]
    have : (Str.empty).length = 0 := rfl
    rw [sizeLine_eq]
    omega
  · subst ev
    obtain ⟨tk, rfl⟩ := (show ∃ tk, u = Value.int i tk from r1)
    have hl : i.natAbs.log2 < 1920 := by
      by_cases z : i.natAbs = 0
      · rw [z]; decide
      · refine (Nat.log2_lt z).mpr (Nat.lt_of_lt_of_le hi ?_)
        exact Nat.le_trans (show 10 ^ 12 ≤ 2 ^ 40 by decide) (Nat.pow_le_pow_right (by decide) (by decide))
    refine formatField_int_small hl ⟨?_, joinParts_nil ⟨.str _, H1, I1.tok _, ⟨_, rfl⟩, q _⟩ ?_⟩
    all_goals
      have h10 := int_text_length_le10 (a := i) (k := 12) (by decide) hi
      have h11 : (Str.ofString (toString i)).length = (toString i).length := PySem.ofString_length _
      have h12 : (Str.empty).length = 0 := rfl
      rw [strLen_append, strLen_append, sizeLine_eq, h11]
      omega
/-- RowError.__init__(self, ..) -/
def tXini (C : Addr) (t : TA) : TE := fun σ H Q => t σ H fun vs H1 => ∃ e y, vs = [.ref e, y] ∧ H1 e = some (excM e C) ∧ Q .non (upd H1 e (excM e C))
theorem pe_xini {pl : Sem Bool} (c : XIni X.K C R fI) (hg : Gl X x) (hm : X.mg x = some (.ref R)) (ha : PA X (e :: es) t)
    (ht : eval (.Call (.Attribute (.Name x np) "__init__" apos) (e :: es) [] pos) X.env = (do
      let ov ← eval (.Name x np) X.env
      standAt apos.atName
      let (f, first) ← holding [ov] (getMethod ov "__init__" pl)
      callWith pos f first (backTo pos (starEach (e :: es) X.env)) (backToKw pos (keywordEach [] X.env))) := by rfl)
    (he : starEach (e :: es) X.env = (false, eval e X.env) :: starEach es X.env := by rfl) (hpl : (backTo pos (starEach es X.env)).any (·.1) = false := by rfl) (hdb : (x == ("__debug__" : Str)) = false := by decide) :
    PE X (.Call (.Attribute (.Name x np) "__init__" apos) (e :: es) [] pos) (tXini C t) := by
  intro pins s σ H Q I h
  refine methodCall_KW (pl := pl) (ld_glob I hg hm ?_ hdb) ht
  refine method_cls I.kIn c.sg (cls_value I.kIn c.rr c.fi rfl ?_)
  refine callWith_builtin1 (thn (ha pos pins _ σ H _ (I.tok _) h) fun us s1 ⟨vs, H1, I1, r1, e0, y, ev, hx, q⟩ => ?_) he hpl
  subst ev
  cases r1 with
  | cons r1 r2 =>
    cases r2 with
    | cons r2 r3 =>
      cases r3
      obtain rfl : _ = Value.ref e0 := r1
      obtain ⟨t0, ht0⟩ := (I1.hok e0 _ hx).1
      exact base_ini c I1.kIn ht0 fun h' kp e2 => ⟨.non, _, I1.write (x := e0) (e := e0) (t' := s1.toks) (by rw [hx]; exact True.intro) (.inl rfl) kp ⟨_, e2⟩ (excM_ok e2), rfl, q⟩
/-- self.at = e -/
def sXat (C : Addr) (ta tv : TE) : TS := fun D σ H => tv σ H fun y H1 => ta σ H1 fun z H2 => ∃ e0, z = .ref e0 ∧ H2 e0 = some (excM e0 C) ∧ ∀ d, H2 d = none → d ≠ e0 → D.nx σ (upd (upd H2 d (.xd [("at", y)])) e0 (excN e0 C d))
theorem RelO_at {y : V} {u : Value} (r : RelV y u) (f : Str) : RelO (([("at", y)] : List (Str × V)).lookup f) (if f = "at" then some u else none) := by
  by_cases h : f = "at"
  · subst h
    rw [if_pos rfl, List.lookup_cons_self]
    exact r
  · rw [if_neg h, List.lookup_cons, show (f == ("at" : Str)) = false from beq_eq_false_iff_ne.mpr h]
    exact True.intro
theorem ps_xat {o value : Expr} {ta tv : TE} {pos' : Pos} (c : XIni X.K C R fI) (ha : PE X o ta) (hv : PE X value tv) (hs : swapsWith value (some (.Attribute o "at" pos')) pos.line X.env = pure false) : PS X (.Assign [.Attribute o "at" pos'] value pos) (sXat C ta tv) := by
  intro pins s σ H D I h
  refine plainObj_wpAny_Assign_Attribute (thn (hv pins s σ H _ I h) fun u s1 ⟨y, H1, I1, ry, q⟩ => thn (ha pins s1 σ H1 _ I1 q) fun ov s2 ⟨z, H2, I2, rz, e0, ez, hx, q2⟩ => ?_) hs
  subst ez
  obtain rfl : ov = Value.ref e0 := rz
  obtain ⟨t0, ht0⟩ := (I2.hok e0 _ hx).1
  refine set_at c I2.kIn ht0 fun h' tk kp e2 ns => ?_
  have n0 : s2.heap.objs.size ≠ e0 := Nat.ne_of_gt (Heap.lt_size ht0)
  obtain ⟨oD, esD, epD, hoD, rD⟩ := id ns
  have fr : oD.isFreed = false := (Heap.get?_some_iff.mp hoD).2
  have g1 : (s2.heap.push oD).get? s2.heap.objs.size = some oD := Heap.get?_push_size s2.heap fr
  have I3 := I2.laid (a := s2.heap.objs.size) (o := .xd [("at", y)]) (h' := s2.heap.push oD) (t' := tk) (fun b u e => Heap.get?_push_of_some _ e) (Nat.le_refl _) ⟨_, ⟨oD, esD, epD, g1, rD⟩, RelO_at ry⟩
  have I4 := I3.write (x := e0) (e := e0) (o := excN e0 C s2.heap.objs.size) (h' := h') (t' := tk) (by rw [upd_ne n0.symm, hx]; exact True.intro) (.inl rfl) (fun b u n e => ?_) ⟨_, e2⟩ (excN_ok e2)
  · exact ⟨σ, _, I4, q2 _ I2.fresh n0⟩
  · by_cases hb : b = s2.heap.objs.size
    · subst hb
      rw [g1] at e
      cases e
      exact hoD
    · refine kp b u n ?_
      rw [← e]
      exact (Heap.get?_push_ne _ _ _ hb).symm
end
end L2


set_option Elab.async false
set_option linter.all false
set_option maxRecDepth 100000
set_option maxHeartbeats 4000000
namespace L2
open PySem PySem.W PySem.Spec PySem.Calls PyProof.Rows
/-- what the __init__ of such a class does -/
def spXI (C : Addr) : Sp := fun vs H Q _ => ∃ (e : Addr) (i : Int), vs = [.ref e, .int i] ∧ H e = some (excM e C) ∧ i.natAbs < 10 ^ 12 ∧ ∀ d, H d = none → d ≠ e → Q .non (upd (upd H d (.xd [("at", .int i)])) e (excN e C d))
theorem upd3 {H : Hp} {e d : Addr} {a b c : HO} (n : d ≠ e) : upd (upd (upd H e a) d b) e c = upd (upd H d b) e c := by
  funext x
  unfold upd
  by_cases h : x = e
  · simp [h]
  · by_cases h2 : x = d
    · simp [h, h2]
    · simp [h, h2]
/-- a heap without e -/
def rm (H : Hp) (e : Addr) : Hp := fun c => if c = e then none else H c
theorem rm_ne {H : Hp} {e c : Addr} (h : c ≠ e) : rm H e c = H c := by
  unfold rm
  rw [if_neg h]
theorem rm_same {H : Hp} {e : Addr} : rm H e e = none := by
  unfold rm
  rw [if_pos rfl]
theorem rm_upd2 {H : Hp} {e d : Addr} {a b : HO} (n : d ≠ e) (he : H e = none) : rm (upd (upd H d a) e b) e = upd H d a := by
  funext x
  by_cases h : x = e
  · subst h
    rw [rm_same, upd_ne n.symm, he]
  · rw [rm_ne h, upd_ne h]
/-- it flies over B; B has all that stood at the call (but the callers' frames) and all that is tracked; od its dict -/
def CX2 (P : Program) (w : World) : CXT := fun outer H s E e s' => ∃ (ea : Addr) (cls a0 : Value) (od : Option Addr) (H' : Hp) (B : Heap), e = .ref ea ∧ B.FlyingW outer ea cls a0 s'.heap ∧ Dct s'.heap ea od ∧
  (∀ b o, s.heap.get? b = some o → b ∉ frs outer → ∃ o', B.get? b = some o') ∧ (∀ b o, H' b = some o → ∃ o', B.get? b = some o') ∧
  s'.os = s.os ∧ AllBare s'.gens ∧ Un (frs outer) [] H H' s.heap s'.heap ∧ HOk P w H' s'.heap ∧ E cls od H'
section
variable {X : Cx} {C R f : Addr} {fd : FuncData} {k : Nat}
/-- C(i), its __init__ run -/
theorem run_mkx {pins : List (Addr × Obj)} {σ : St} {H : Hp} {s : Shared} {i : Int} {us : List Value} {Q : VK} {XE : Value → Shared → Prop} (c : XIni X.K C R f) (F : FnOk X.prog X.w X.K X.mg X.base CX0 k f fd ["self", "at"] (spXI C)) (hr : Room (k + 1) X.A) (hb : Binds X.K fd ["self", "at"] []) (I : Inv X pins σ H s) (r : Vals [.int i] us) (hi : i.natAbs < 10 ^ 12)
    (h : ∀ e d, s.heap.objs.size ≤ e → H e = none → H d = none → d ≠ e → Q (.ref e) (upd (upd H d (.xd [("at", .int i)])) e (excN e C d))) : wpAny (model X.prog X.w) X.A (call (.ref C) us) (EP X pins σ Q) XE s := by
  have hz : us.length ≤ sizeLine := by
    rw [← r.length, sizeLine_eq]
    show 1 ≤ 16777216
    decide
  have I1 := I.kept (t' := s.toks) (h' := s.heap.push { cls := .type "tuple", data := .seq us.toArray }) (fun b u e => Heap.get?_push_of_some _ e)
  have he : ((s.heap.push { cls := .type "tuple", data := .seq us.toArray }).push (eO C s.heap.objs.size none)).get? (s.heap.objs.size + 1) = some (eO C s.heap.objs.size none) := by heap_get
  have I2 := I1.laid (a := s.heap.objs.size + 1) (o := excM (s.heap.objs.size + 1) C) (t' := s.toks) (h' := (s.heap.push { cls := .type "tuple", data := .seq us.toArray }).push (eO C s.heap.objs.size none)) (fun b u e => Heap.get?_push_of_some _ e) (Nat.le_of_eq (Heap.size_push _ _)) (excM_ok he)
  have hn : H (s.heap.objs.size + 1) = none := I.hok.fresh (Nat.le_succ _)
  have r2 : Vals (V.ref (s.heap.objs.size + 1) :: [V.int i]) (Value.ref (s.heap.objs.size + 1) :: us) := .cons rfl r
  have hl : (Value.ref (s.heap.objs.size + 1) :: us ++ []).length = ["self", "at"].length := by
    have e := r2.length
    rw [List.append_nil]
    exact e.symm
  have hq : spXI C [V.ref (s.heap.objs.size + 1), V.int i] (upd H (s.heap.objs.size + 1) (excM (s.heap.objs.size + 1) C)) (fun v H2 => v = .non ∧ Q (.ref (s.heap.objs.size + 1)) H2) E0 := by
    refine ⟨_, i, rfl, upd_same, hi, fun d hd ne => ⟨rfl, ?_⟩⟩
    rw [upd3 ne]
    rw [upd_ne ne] at hd
    exact h _ d (Nat.le_succ _) hn hd ne
  refine call_ini c I.kIn hz (wpAny_call (codeAny_mono (F.run _ X.stack _ _ ⟨Value.ref (s.heap.objs.size + 1) :: us, []⟩ (Value.ref (s.heap.objs.size + 1) :: us) _ _ E0 (hr.make C us []) (I2.env0.make C us []) (by have := hb _ (Value.ref (s.heap.objs.size + 1) :: us) I2.kIn hl; rw [List.append_nil] at this; exact this) r2 hq) fun r s' hq' => ?_))
  cases r with
  | error e => exact False.elim hq'
  | ok fl =>
    cases fl with
    | ret u =>
      obtain ⟨v, H', I3, rv, ev, q3⟩ := I2.after hq'
      subst ev
      exact ⟨rv, ⟨V.ref (s.heap.objs.size + 1), H', I3, rfl, q3⟩⟩
    | next => exact False.elim hq'
    | brk => exact False.elim hq'
    | cont => exact False.elim hq'
theorem raise_made {M : Model} {A : Around} {XE : Value → Shared → Prop} {K : PySem.W.Frag} {s : Shared} {env : Env} {z : Sem Value} {Q : Flow → Shared → Prop} (c : XIni K C R f) (hh : A.handled = none)
    (h : wpAny M A z (fun v s1 => ∃ e t od, v = .ref e ∧ K.In s1.heap ∧ s1.heap.get? e = some (eO C t od) ∧ XE (.ref e) s1) XE s) : wpAny M A (raiseStmt env (some z) none) Q XE s := by
  have hcB : (Value.ref C :: .ref R :: vmVE).contains (.type "BaseException") = true := by simp
  unfold raiseStmt
  refine wpAny_bind (wpAny_mono h (fun v s1 h1 => ?_) fun _ _ x => x)
  obtain ⟨e, t, od, rfl, X, he, hE⟩ := h1
  obtain ⟨N, nm, q, bs, sn, sub, ab, col, dd, k0, k1, k2, k3, k5, hC⟩ := c.obj X
  obtain ⟨hp, g, d, tk, os⟩ := s1
  dsimp only at hC he X
  repeat (first | with_reducible refine wpAny_loadPart_at he ?_ | with_reducible refine wpAny_loadPart_at hC ?_ | (with_reducible refine wpAny_isSubtype_exc hC ?_; rw [hcB]) | wp_step)
  exact wpAny_raiseNew_none hh hE
end
end L2


set_option Elab.async false
set_option linter.all false
set_option maxRecDepth 100000
set_option maxHeartbeats 4000000
namespace L2
open PySem PySem.W PySem.Spec PySem.Calls PyProof.Rows
/-- raise C(i) -/
def sRaiseC (C : Addr) (t : TA) (E : XK) : TS := fun _ σ H => t σ H fun vs H1 => ∃ i : Int, vs = [.int i] ∧ i.natAbs < 10 ^ 12 ∧ ∀ d, H1 d = none → E (.ref C) (some d) (upd H1 d (.xd [("at", .int i)]))
section
variable {P : Program} {w : World} {K : PySem.W.Frag} {mg : Str → Option Value} {base : Heap} {N : List Str} {qual : Str} {scope : Scope} {f : Addr} {cd : Value} {A : Around} {outer : List Env} {s₀ : Shared} {H₀ : Hp} {E : XK}
theorem ps_raiseC {C R fI : Addr} {fd : FuncData} {k : Nat} {x : Str} {np cpos pos : Pos} {a : Expr} {as : List Expr} {t : TA} (c : XIni K C R fI) (kp : keepIn K (.ref C) = true) (F : FnOk P w K mg base CX0 k fI fd ["self", "at"] (spXI C)) (hb : Binds K fd ["self", "at"] []) (hr : Room (k + 1) (A.deeper (envOfC qual scope s₀.heap.objs.size f cd))) (hm : mg x = some (.ref C))
    (hg : Gl (cxOf (CX2 P w) P w K mg base N qual scope f cd A outer s₀ H₀ E) x) (ha : PA (cxOf (CX2 P w) P w K mg base N qual scope f cd A outer s₀ H₀ E) (a :: as) t) (hd : (x == ("__debug__" : Str)) = false := by decide)
    (he : starEach (a :: as) (cxOf (CX2 P w) P w K mg base N qual scope f cd A outer s₀ H₀ E).env = (false, eval a (cxOf (CX2 P w) P w K mg base N qual scope f cd A outer s₀ H₀ E).env) :: starEach as (cxOf (CX2 P w) P w K mg base N qual scope f cd A outer s₀ H₀ E).env := by rfl)
    (hpl : (backTo cpos (starEach as (cxOf (CX2 P w) P w K mg base N qual scope f cd A outer s₀ H₀ E).env)).any (·.1) = false := by rfl) :
    PS (cxOf (CX2 P w) P w K mg base N qual scope f cd A outer s₀ H₀ E) (.Raise (some (.Call (.Name x np) (a :: as) [] cpos)) none pos) (sRaiseC C t E) := by
  intro pins s σ H D I h
  have hr' : Room (k + 1) (cxOf (CX2 P w) P w K mg base N qual scope f cd A outer s₀ H₀ E).A := hr
  rw [arm_exec_Raise]
  refine wpAny_bind (wpAny_standAt (raise_made c (I.ok.hd rfl) (wpAny_bind (wpAny_mono (wpAny_Call_Name_kw (ld_glob I hg hm (callWith_K (h₀ := base) I.ok.mod.kin kp (thn (ha cpos pins s σ H _ I h) fun us s1 ⟨vs, H1, I1, r, i, ev, hi, q⟩ => ⟨I1.kIn, ?_⟩) he hpl) hd)) (fun v s3 h3 => wpAny_bind (wpAny_standAt (wpAny_pure h3))) fun _ _ z => z))))
  subst ev
  refine thn (run_mkx (Q := fun v H2 => ∃ e d, v = .ref e ∧ s1.heap.objs.size ≤ e ∧ H1 e = none ∧ H1 d = none ∧ d ≠ e ∧ H2 = upd (upd H1 d (.xd [("at", .int i)])) e (excN e C d)) c F hr' hb I1 r hi fun e d h0 h1 h2 h3 => ⟨e, d, rfl, h0, h1, h2, h3, rfl⟩) fun v s4 hv => ?_
  obtain ⟨vv, H4, I4, rv, e, d, rfl, ge, ne, nd, de, hH4⟩ := hv
  obtain rfl : v = Value.ref e := rv
  have H4e : H4 e = some (excN e C d) := by rw [hH4, upd_same]
  have hrm : rm H4 e = upd H1 d (.xd [("at", .int i)]) := by rw [hH4]; exact rm_upd2 de ne
  obtain ⟨t0, ht0⟩ := (I4.hok e _ H4e).1
  refine ⟨e, t0, some d, rfl, I4.kIn, ht0, ?_⟩
  have bk := I4.bk
  have stk : ∀ {b o}, s₀.heap.get? b = some o → b ∉ frs outer → b ∉ frs ((envOfC qual scope s₀.heap.objs.size f cd) :: outer) := fun {b o} hb nf hx => by
    rcases List.mem_cons.mp (I4.stkSub b hx) with e | e
    · have h1 := Heap.lt_size hb
      have h2 : s₀.heap.objs.size ≤ (envOfC qual scope s₀.heap.objs.size f cd).locals := I4.ok.above
      have e : b = (envOfC qual scope s₀.heap.objs.size f cd).locals := e
      rw [e] at h1
      exact absurd h1 (Nat.not_lt.mpr h2)
    · exact nf e
  have ub : Un (frs outer) [] H₀ H4 s₀.heap s4.heap := I4.base
  have old : ∀ {b o}, s₀.heap.get? b = some o → b ≠ e := fun {b o} hb z => by
    have h1 := Heap.lt_size hb
    have h2 : s₀.heap.objs.size ≤ s1.heap.objs.size := I1.sz
    exact absurd h1 (Nat.not_lt.mpr (Nat.le_trans h2 (z ▸ ge)))
  have hk : ∀ {b o}, H4 b = some o → b ∉ frs ((envOfC qual scope s₀.heap.objs.size f cd) :: outer) := fun {b o} hb hx => by
    have := I4.stkFree b hx
    rw [hb] at this
    cases this
  have nin : ∀ {b}, b ∉ frs ((envOfC qual scope s₀.heap.objs.size f cd) :: outer) → b ≠ e → b ∉ frs ((envOfC qual scope s₀.heap.objs.size f cd) :: outer) ++ [e] := fun {b} h1 h2 h3 => by
    rcases List.mem_append.mp h3 with h | h
    · exact h1 h
    · exact h2 (by simpa using h)
  refine leavesD (B := less s4.heap (frs ((envOfC qual scope s₀.heap.objs.size f cd) :: outer) ++ [e])) (L := (envOfC qual scope s₀.heap.objs.size f cd).locals) I4.ok.frames (less_funs I4.stack fun b h => List.mem_append_left _ h) rfl ht0 less_stays (less_in (by simp)) rfl rfl rfl fun h'' fly up dc => ?_
  have stay : ∀ {b u}, b ∉ frs ((envOfC qual scope s₀.heap.objs.size f cd) :: outer) → b ≠ e → s4.heap.get? b = some u → h''.get? b = some u := fun {b u} hb hn hu => fly.1 b u (by rw [less_out (nin hb hn)]; exact hu)
  have notE : ∀ {b o}, rm H4 e b = some o → b ≠ e ∧ H4 b = some o := fun {b o} hb => by
    by_cases z : b = e
    · rw [z, rm_same] at hb; cases hb
    · exact ⟨z, by rw [rm_ne z] at hb; exact hb⟩
  have keepH : ∀ {b o}, H4 b = some o → (∀ φ, o ≠ .ext φ) → rm H4 e b = some o := fun {b o} hb n => by
    have z : b ≠ e := fun z => by
      rw [z, H4e] at hb
      cases hb
      exact n _ rfl
    rw [rm_ne z]
    exact hb
  have slots : ∀ b o, s₀.heap.get? b = some o → H₀ b = none → b ∈ frs outer → ∃ sl, h''.get? b = some { o with slots := sl } := fun b o e n hb => by
    obtain ⟨sl, e1⟩ := ub.slot b o e n hb (by simp)
    obtain ⟨_, o2, e2, nf⟩ := I4.funs.mem hb
    rw [e1] at e2
    cases e2
    obtain ⟨sl', e3⟩ := up b _ e1 nf
    exact ⟨sl', e3⟩
  refine ⟨e, .ref C, .ref t0, some d, rm H4 e, _, rfl, fly, dc, fun b o hb nf => ?_, fun b o hb => ?_, I4.os, I4.bare, ⟨fun b o e n nf nx => stay (stk e nf) (old e) (ub.keep b o e n nf nx), fun b o e n hb _ => slots b o e n hb, fun b o e n hx => ?_, fun b o e nx => ?_, fun b xs e => keepH (ub.tups b xs e) (by intro _ z; cases z), fun b o u e => keepH (ub.frzs b o u e) (by intro _ z; cases z), fun b ps e => ?_⟩, fun a o ha => ?_, by rw [hrm]; exact q d nd⟩
  · obtain ⟨o', e'⟩ := ub.there b o hb (by simp)
    exact ⟨o', by rw [less_out (nin (stk hb nf) (old hb))]; exact e'⟩
  · obtain ⟨z, hb⟩ := notE hb
    obtain ⟨o', e'⟩ := (I4.hok b o hb).some_
    exact ⟨o', by rw [less_out (nin (hk hb) z)]; exact e'⟩
  · rw [rm_ne (old e)]
    exact ub.free b o e n hx
  · by_cases hb : b ∈ frs outer
    · obtain ⟨_, o2, e2, nf⟩ := I4.funs.mem hb
      obtain ⟨sl', e3⟩ := up b _ e2 nf
      exact ⟨_, e3⟩
    · obtain ⟨o', e'⟩ := ub.there b o e nx
      exact ⟨o', stay (stk e hb) (old e) e'⟩
  · obtain ⟨more, z⟩ := ub.tbls b ps e
    exact ⟨more, keepH z (by intro _ z; cases z)⟩
  · obtain ⟨z, ha⟩ := notE ha
    refine (I4.hok a o ha).stay (fun b u hc q => ?_) (fun c q => keepH q (by intro _ z; cases z)) (fun c xs q => keepH q (by intro _ z; cases z))
    rcases hc with rfl | hc
    · exact stay (hk ha) z q
    · refine stay (hk hc) (fun z => ?_) q
      rw [z, H4e] at hc
      cases hc
end
end L2


set_option Elab.async false
set_option linter.all false
set_option maxRecDepth 100000
set_option maxHeartbeats 4000000
namespace L2
open PySem PySem.W PySem.Spec PySem.Calls PyProof.Rows
/-- a caught exception's object, of the class cls, its dict od -/
def excD (ea : Addr) (cls : Value) (od : Option Addr) : HO := .ext fun h => ∃ o, h.get? ea = some o ∧ o.cls = cls ∧ notCls o = true ∧ o.dict = od
section
variable {X : Cx} {pins : List (Addr × Obj)} {σ : St} {H : Hp} {s : Shared}
theorem Inv.trackD {ea : Addr} {cls : Value} {od : Option Addr} (I : Inv X pins σ H s) (hn : H ea = none) (hs₀ : X.s₀.heap.get? ea = none) (hne : ea ≠ X.env.locals) (hc : ∀ x c, X.env.cells.lookup x = some c → c ≠ ea) (hp : ∀ p ∈ X.pn ++ pins, p.1 ≠ ea) (ho : ∃ o, s.heap.get? ea = some o ∧ o.cls = cls ∧ notCls o = true ∧ o.dict = od) :
    Inv X pins σ (upd H ea (excD ea cls od)) s := by
  have ne : ∀ {b}, b ≠ ea → upd H ea (excD ea cls od) b = H b := fun h => upd_ne h
  have old : ∀ {b o}, X.s₀.heap.get? b = some o → b ≠ ea := fun {b o} h z => by rw [z, hs₀] at h; cases h
  refine ⟨I.ok, I.os, I.bare, ⟨I.base.keep, I.base.slot, fun b o e n hx => ?_, I.base.there, fun b xs e => ?_, fun b o u e => ?_, fun b ps e => ?_⟩, I.loc, I.cell, ?_, fun x c e => ?_, fun p hp' => ?_, fun b o e => ?_, I.len⟩
  · rw [ne (old e)]; exact I.base.free b o e n hx
  · have := I.base.tups b xs e
    rw [ne (ne_of_none this hn)]; exact this
  · have := I.base.frzs b o u e
    rw [ne (ne_of_none this hn)]; exact this
  · obtain ⟨more, this⟩ := I.base.tbls b ps e
    exact ⟨more, by rw [ne (ne_of_none this hn)]; exact this⟩
  · rw [ne hne.symm]; exact I.free
  · rw [ne (hc x c e)]; exact I.freeC x c e
  · obtain ⟨a1, a2, a3⟩ := I.pin p hp'
    exact ⟨a1, by rw [ne (hp p hp')]; exact a2, a3⟩
  · by_cases hb : b = ea
    · subst hb
      rw [upd_same] at e
      cases e
      obtain ⟨o, h1, h2⟩ := ho
      exact ⟨⟨o, h1, h2⟩, ⟨o, h1⟩, fun h1 h2 ⟨o, a, b⟩ k => ⟨o, k o a, b⟩⟩
    · rw [ne hb] at e
      exact (I.hok b o e).stay (fun c u _ q => q) (fun c q => by rw [ne (ne_of_none q hn)]; exact q) (fun c xs q => by rw [ne (ne_of_none q hn)]; exact q)
end
section
variable {X : Cx} {pins : List (Addr × Obj)} {σ : St}
/-- an exception of a callee has come to the body's try: it lands -/
theorem caughtD {H : Hp} {s s' : Shared} {e : Value} {E : XK} {L : Addr} {hs : List ExceptHandler} {Q : Flow → Shared → Prop} {XE : Value → Shared → Prop} (I : Inv X pins σ H s) (hst : X.stack = X.env :: X.outer) (hL : X.env.frame = some L) (cx : CX2 X.prog X.w X.stack H s E e s')
    (k : ∀ (ea : Addr) (cls a0 : Value) (od : Option Addr) (H' : Hp) (B : Heap) (s2 : Shared), e = .ref ea → E cls od H' → Dct s2.heap ea od → Inv X pins σ H' s2 → B.FlyingW X.stack ea cls a0 s2.heap → (∀ b o, H' b = some o → ∃ o', B.get? b = some o') → (∀ b o, s.heap.get? b = some o → b ∉ frs X.stack → ∃ o', B.get? b = some o') →
      (∀ h6, B.FlyingW X.stack ea cls a0 h6 → s2.heap.UpToSlots h6 → Inv X pins σ H' { s2 with heap := h6 }) → wpAny (model X.prog X.w) X.A (handleBy e X.env hs) Q XE s2) :
    wpAny (model X.prog X.w) X.A (noteFrame e X.env) (fun _ s2 => wpAny (model X.prog X.w) X.A (setFlight e none) (fun _ s3 => wpAny (model X.prog X.w) X.A (handleBy e X.env hs) Q XE s3) XE s2) XE s' := by
  obtain ⟨ea, cls, a0, od, H', B, rfl, fly, dc, hB, hH, os, bare, un, hok, hE⟩ := cx
  obtain ⟨T, be, bT, fly2⟩ := fly_less fly
  have fly2' := fly2
  rw [hst] at fly2'
  have apart : ∀ {b o}, B.get? b = some o → b ∉ frs X.stack → b ∉ frs X.stack ++ [ea, T] := fun {b o} hb nf hx => by
    rcases List.mem_append.mp hx with h | h
    · exact nf h
    · rcases (show b = ea ∨ b = T by simpa using h) with rfl | rfl
      · rw [be] at hb; cases hb
      · rw [bT] at hb; cases hb
  have fr' : ∀ b ∈ frs X.stack, H' b = none := fun b hb => by
    obtain ⟨_, o, ho, _⟩ := I.stack.mem hb
    exact un.free b o ho (I.stkFree b hb) (by simp)
  refine looksD (B := less s'.heap (frs (X.env :: X.outer) ++ [ea, T])) (by rw [I.ok.frames, hst]) hL (by rw [← hst] at fly2' ⊢; exact fly2') dc fun h4 held4 up4 dc4 => ?_
  refine landsD (s := { s' with heap := h4 }) held4 dc4 fun h5 fly5 up5 dc5 => ?_
  have up := up4.trans up5
  rw [← hst] at fly5
  have kH : ∀ {b o}, H' b = some o → b ∉ frs X.stack ++ [ea, T] := fun {b o} hb => by
    obtain ⟨o', h1⟩ := hH b o hb
    exact apart h1 fun z => by rw [fr' b z] at hb; cases hb
  have inv : ∀ h5, (less s'.heap (frs X.stack ++ [ea, T])).FlyingW X.stack ea cls a0 h5 → s'.heap.UpToSlots h5 → Inv X pins σ H' { s' with heap := h5 } := fun h5 fly5 up => by
    have stay : ∀ {b u}, b ∉ frs X.stack ++ [ea, T] → s'.heap.get? b = some u → h5.get? b = some u := fun {b u} hb hu => fly5.1 b u (by rw [less_out hb]; exact hu)
    have up1 : ∀ b o, s'.heap.get? b = some o → b ∈ frs X.stack → ∃ sl, h5.get? b = some { o with slots := sl } := fun b o ho hb => by
      obtain ⟨_, o2, e2, nf⟩ := fly.2.2.1.mem hb
      rw [ho] at e2
      cases e2
      exact up b o ho nf
    have un5 : Un (frs X.stack) [] H H' s.heap h5 := by
      refine ⟨fun b o e n nf nx => ?_, fun b o e n hb nx => ?_, un.free, fun b o e nx => ?_, un.tups, un.frzs, un.tbls⟩
      · obtain ⟨o', hb⟩ := hB b o e nf
        exact stay (apart hb nf) (un.keep b o e n nf nx)
      · obtain ⟨sl, e1⟩ := un.slot b o e n hb nx
        obtain ⟨sl', e2⟩ := up1 b _ e1 hb
        exact ⟨sl', e2⟩
      · obtain ⟨o', e1⟩ := un.there b o e nx
        by_cases hb : b ∈ frs X.stack
        · obtain ⟨sl', e2⟩ := up1 b _ e1 hb
          exact ⟨_, e2⟩
        · obtain ⟨o2, h2⟩ := hB b o e hb
          exact ⟨o', stay (apart h2 hb) e1⟩
    have hok5 : HOk X.prog X.w H' h5 := fun a o e => (hok a o e).stay (fun b u hc q => by
      rcases hc with rfl | hc
      · exact stay (kH e) q
      · exact stay (kH hc) q) (fun _ q => q) fun _ _ q => q
    exact I.call' (s' := { s' with heap := h5 }) (ch := []) os un5 hok5 bare (fun b z => absurd z (by simp))
  refine k ea cls a0 od H' (less s'.heap (frs X.stack ++ [ea, T])) _ rfl hE dc5 (inv h5 fly5 up) fly5 (fun b o hb => ?_) (fun b o hb nf => ?_) (fun h6 f6 u6 => inv h6 f6 (up.trans u6))
  · obtain ⟨u, hu⟩ := (hok b o hb).some_
    exact ⟨u, by rw [less_out (kH hb)]; exact hu⟩
  · obtain ⟨o2, h2⟩ := hB b o hb nf
    obtain ⟨o', e1⟩ := un.there b o hb (by simp)
    exact ⟨o', by rw [less_out (apart h2 nf)]; exact e1⟩
end
/-- try: f(..) except cR as n: .. -/
def tTryF (K : PySem.W.Frag) (sp : Sp) (dvs : List V) (t : TA) (i : Nat) (cR : Value) (ts : TS) : TS := fun D σ H => t σ H fun vs H1 =>
  sp (vs ++ dvs) H1 (fun _ H2 => D.nx σ H2) fun cls od H2 => exmOne K cls cR = some true ∧ ∀ ea, H2 ea = none → ts (D.less i) (σ.set i (some (.ref ea))) (upd H2 ea (excD ea cls od))
section
variable {X : Cx} {k : Nat} {f cR : Addr} {fd : FuncData} {ps : List Str} {sp : Sp} {dvs : List V} {ds : List Value} {x g n : Str} {np gp pos p2 p3 p4 : Pos} {a : Expr} {as : List Expr} {t : TA} {ts : TS} {i : Nat} {b₀ : Stmt} {suite : List Stmt} {L : Addr}
theorem run_fnD {pins : List (Addr × Obj)} {σ : St} {H : Hp} {s : Shared} {Q : VK} {E : XK} {us : List Value} {vs : List V} {XE : Value → Shared → Prop} (F : FnOk X.prog X.w X.K X.mg X.base (CX2 X.prog X.w) k f fd ps sp) (hr : Room k X.A) (hb : Binds X.K fd ps ds) (hd : Vals dvs ds)
    (I : Inv X pins σ H s) (r : Vals vs us) (h : sp (vs ++ dvs) H Q E) (hx : ∀ e s', CX2 X.prog X.w X.stack H s E e s' → XE e s') : wpAny (model X.prog X.w) X.A (call (.ref f) us) (EP X pins σ Q) XE s := by
  have r2 : Vals (vs ++ dvs) (us ++ ds) := r.append hd
  have hl : (us ++ ds).length = ps.length := by rw [← r2.length]; exact F.len _ _ _ _ h
  refine wpAny_call (codeAny_mono (F.run X.A X.stack s H ⟨us, []⟩ (us ++ ds) (vs ++ dvs) Q E hr I.env0 (hb s us I.kIn hl) r2 h) fun r s' hq => ?_)
  cases r with
  | error e => exact hx e s' hq
  | ok fl =>
    cases fl with
    | ret u => exact I.after hq
    | next => exact False.elim hq
    | brk => exact False.elim hq
    | cont => exact False.elim hq
theorem ps_tryF (ha : PA X.nox (a :: as) t) (hgg : Gl X g) (hmg' : X.mg g = some (.ref f)) (kp : keepIn X.K (.ref f) = true) (F : FnOk X.prog X.w X.K X.mg X.base (CX2 X.prog X.w) k f fd ps sp) (hr : Room k X.A) (hb : Binds X.K fd ps ds) (hd : Vals dvs ds)
    (hst : X.stack = X.env :: X.outer) (hL : X.env.frame = some L) (hLl : X.env.locals = L) (hex : X.ex = []) (hg : Gl X x) (hmg : X.mg x = some (.ref cR)) (hN : X.N.Nodup) (hi : X.N[i]? = some n) (hn : X.env.kindOf n = some .local)
    (hs : ∀ ea, PSs (X.inSuite ea) (b₀ :: suite) ts) (hdg : (g == ("__debug__" : Str)) = false := by decide)
    (he : starEach (a :: as) X.env = (false, eval a X.env) :: starEach as X.env := by rfl) (hpl : (backTo pos (starEach as X.env)).any (·.1) = false := by rfl)
    (hsw : swapsWith (.Call (.Name g gp) (a :: as) [] pos) none p2.line X.env = pure false := by rfl) (hdb : (x == ("__debug__" : Str)) = false := by decide) :
    PS X (.Try [.Expr (.Call (.Name g gp) (a :: as) [] pos) p2] [.ExceptHandler (some (.Name x np)) (some n) (b₀ :: suite) p3] [] [] p4) (tTryF X.K sp dvs t i (.ref cR) ts) := by
  intro pins s σ H D I h
  refine wpAny_Try_except (wpAny_execs_cons (wpAny_Expr_any (?_) I.quiet hsw))
  refine wpAny_Call_Name_kw (ld_glob I hgg hmg' (callWith_K (h₀ := X.base) I.ok.mod.kin kp (wpAny_mono (ha pos pins s σ H _ (I.wish _) h) (fun us s1 hu => ?_) fun _ _ z => False.elim z) he hpl) hdg)
  obtain ⟨vs, H1, I1', r, q⟩ := hu
  have I1 : Inv X pins σ H1 s1 := I1'.unwish
  refine ⟨I1.kIn, ?_⟩
  refine wpAny_mono (run_fnD F hr hb hd I1 r q fun e s' cx => ?_) (fun v s2 hv => ?_) fun e s' hx => hx
  · -- it was raised
    refine caughtD I1 hst hL cx fun ex cls a0 od H' B s2 ee hE dc I2 fly hH hB again => ?_
    subst ee
    obtain ⟨hcls, hsuite⟩ := hE
    obtain ⟨oe, vs, T, oT, tss, g1, g2, g3, g4, g5, g6, g7, g8, g9⟩ := fly.2.2.2
    have nfr : ex ∉ frs X.stack := fun z => by
      obtain ⟨_, o2, e2, nf⟩ := fly.2.2.1.mem z
      rw [g1] at e2
      cases e2
      exact nf _ g3
    have apart : ∀ {b o}, s1.heap.get? b = some o → b ≠ ex := fun {b o} hb z => by
      subst z
      obtain ⟨o', h'⟩ := hB b o hb nfr
      rw [fly.2.1] at h'
      cases h'
    have hnone : H' ex = none := by
      cases e : H' ex with
      | none => rfl
      | some o' =>
        obtain ⟨o2, h2⟩ := hH ex o' e
        rw [fly.2.1] at h2
        cases h2
    have IS := I2.suite ex
    refine wpAny_handleBy_cons (codeAny_handlers_test (ld_glob IS hg hmg ?_ hdb)) (by intro z; cases z)
    have LT : Looks (model X.prog X.w) s2.heap (typeOf (.ref ex)) cls := by
      have this : Looks (model X.prog X.w) s2.heap (typeOf (.ref ex)) oe.cls := (Looks.ld g1).andThen .now
      rw [g2.1] at this
      exact this
    refine (exm_one I2.kIn LT hcls).here ?_
    refine codeAny_handlers_suite_as (againD fly dc fun h6 fly6 up6 dc6 => ?_)
    have I6 := again h6 fly6 up6
    obtain ⟨oe6, vs6, T6, oT6, ts6, k1, k2, k3, _⟩ := fly6.2.2.2
    obtain ⟨oe7, k4, k5⟩ := dc6
    cases k1.symm.trans k4
    have I7 := I6.trackD (cls := cls) (od := od) hnone (by
      cases e : X.s₀.heap.get? ex with
      | none => rfl
      | some o' =>
        obtain ⟨o2, h2⟩ := I1.base.there ex o' e (by rw [hex]; simp)
        exact absurd rfl (apart h2)) (fun z => nfr (by
          rw [hst, z, hLl]
          unfold frs
          rw [List.filterMap_cons, hL]
          simp)) (fun y c e => by
        obtain ⟨v, oc, hc, _⟩ := I1.cell y c e
        exact apart hc) (fun p hp => apart (I1.pin p hp).1) ⟨oe6, k1, k2.1, by unfold notCls; rw [k3], k5⟩
    refine store_ok I7 hN hi (.inl hn) (v := .ref ex) (u := .ref ex) rfl (fun s8 I8 => ?_) (.inr hn)
    refine wpAny_mono (hs ex pins s8 _ _ _ (I8.suite ex) (hsuite ex hnone)) (fun fl s9 q9 => ?_) fun _ _ z => False.elim z
    show wpAny _ _ _ _ _ _
    cases fl with
    | next =>
      obtain ⟨σ9, H9, I9, q⟩ := q9
      exact forget_ok (I9.unsuite I.ok) hN hi hn fun s10 I10 => ⟨_, H9, I10, q⟩
    | brk =>
      obtain ⟨σ9, H9, I9, q⟩ := q9
      exact forget_ok (I9.unsuite I.ok) hN hi hn fun s10 I10 => ⟨_, H9, I10, q⟩
    | cont =>
      obtain ⟨σ9, H9, I9, q⟩ := q9
      exact forget_ok (I9.unsuite I.ok) hN hi hn fun s10 I10 => ⟨_, H9, I10, q⟩
    | ret u =>
      obtain ⟨v, σ9, H9, I9, r, q⟩ := q9
      exact forget_ok (I9.unsuite I.ok) hN hi hn fun s10 I10 => ⟨v, _, H9, I10, r, q⟩
  · -- nothing was raised
    obtain ⟨v', H2, I2, r2, q2⟩ := hv
    exact wpAny_execs_nil (wpAny_execs_nil ⟨σ, H2, I2, q2⟩)
end
end L2


set_option Elab.async false
set_option linter.all false
set_option maxRecDepth 100000
set_option maxHeartbeats 4000000
namespace L2
open PySem PySem.W PySem.Spec PySem.Calls PyProof.Rows
section
variable {X : Cx} {C R fI : Addr} {Bn : String}
/-- e.at of a caught one -/
def tXat (C : Addr) (ta : TE) : TE := fun σ H Q => ta σ H fun x H1 => ∃ (ea d : Addr) (i : Int), x = .ref ea ∧ H1 ea = some (excD ea (.ref C) (some d)) ∧ H1 d = some (.xd [("at", .int i)]) ∧ Q (.int i) H1
theorem pe_xat {o : Expr} {ta : TE} {pos : Pos} (c : XIni X.K C R fI) (ha : PE X o ta) (hb : attributeBase o "at" X.env (eval o X.env) = eval o X.env := by rfl) : PE X (.Attribute o "at" pos) (tXat C ta) := by
  intro pins s σ H Q I h
  refine attr_of hb (thn (ha pins s σ H _ I h) fun u s1 ⟨x, H1, I1, r1, ea, d, i, ex, he, hd, q⟩ => ?_)
  subst ex
  obtain rfl : u = Value.ref ea := r1
  obtain ⟨ob, h1, h2, h3, h4⟩ := (I1.hok ea _ he).1
  obtain ⟨mA, ns, rl⟩ := (show ObjOk X.prog X.w H1 s1.heap d (.xd [("at", .int i)]) from I1.hok d _ hd)
  have ra := rl "at"
  rw [List.lookup_cons_self] at ra
  cases hv : mA "at" with
  | none => rw [hv] at ra; exact False.elim ra
  | some v =>
    rw [hv] at ra
    obtain ⟨tk, rfl⟩ := (show ∃ tk, v = Value.int i tk from ra)
    exact get_at c I1.kIn h1 h2 h3 h4 ns hv rfl ⟨.int i, H1, I1.tok _, ⟨_, rfl⟩, q⟩
end
end L2


set_option Elab.async false
set_option linter.all false
set_option maxRecDepth 100000
set_option maxHeartbeats 4000000
namespace L2
open PySem PySem.W PySem.Spec PySem.Calls PyProof.Rows
/-! ### a try whose one statement has the call of f within: x = f(..), x = g(f(..)), return f(..) -/
section
variable {X : Cx}
end
section
variable {X : Cx} {k : Nat} {f cR : Addr} {fd : FuncData} {ps : List Str} {sp : Sp} {dvs : List V} {ds : List Value} {x n : Str} {np p3 p4 : Pos} {t : TA} {ts : TS} {i : Nat} {st b₀ : Stmt} {suite : List Stmt} {L : Addr} {r : V → TS}
end
end L2


set_option Elab.async false
set_option linter.all false
set_option maxRecDepth 100000
set_option maxHeartbeats 4000000
namespace L2
open PySem PySem.Spec PyProof.Rows
section
variable {X : Cx}
/-! ### sum(list of ints) -/
end
end L2


set_option Elab.async false
set_option linter.all false
set_option maxRecDepth 100000
set_option maxHeartbeats 4000000
namespace L2
open PySem PySem.Spec PyProof.Rows


section
variable {X : Cx} {scope : Scope} {N' : List Str} {fr : List (Option Nat)} {pins : List (Addr × Obj)} {σ : St} {H : Hp} {s : Shared} {fp : List Addr} {y0 : Str}
end
end L2


set_option Elab.async false
set_option linter.all false
set_option maxRecDepth 100000
set_option maxHeartbeats 4000000
namespace L2
open PySem PySem.Spec PyProof.Rows

end L2


set_option Elab.async false
set_option linter.all false
set_option maxRecDepth 100000
set_option maxHeartbeats 4000000
namespace L2
open PySem PySem.Spec PyProof.Rows
/-! ### t + u, either may be empty; the outcome told in one way -/
end L2


set_option Elab.async false
set_option linter.all false
set_option maxRecDepth 100000
set_option maxHeartbeats 4000000
namespace L2
open PySem PySem.Spec PyProof.Rows
section
variable {X : Cx}
end
end L2


set_option Elab.async false
set_option linter.all false
set_option maxRecDepth 100000
set_option maxHeartbeats 4000000
namespace L2
open PySem PySem.Spec PyProof.Rows
section
variable {prog : Program} {w : World} {A : Around} {E : Value → Shared → Prop} {s : Shared}
theorem nxT_item {it t : Addr} {i : Nat} {els : Array Value} {x : Value} {Q : Value → Shared → Prop} (ti : s.heap.IsTupleIter it t i) (tt : s.heap.IsTuple t els) (gx : els[i]? = some x)
    (k : ∀ h', h'.IsTupleIter it t (i + 1) → Heap.SameBut it s.heap h' → Q x { s with heap := h' }) : wpAny (model prog w) A (Builtin.SmallTypes.nextOf (.ref it)) Q E s := by
  obtain ⟨o, go, gc, gd⟩ := id ti
  obtain ⟨ol, gol, _, nl, gdl⟩ := tt
  unfold Builtin.SmallTypes.nextOf
  refine wpAny_bind (wpAny_callSpecial?_slot (name := Str.ofString "__next__") ti.typeIs F.slot_tuple_iterator_next (wpAny_call_entry F.slot_tuple_iterator_next ti.typeIs F.entry_tuple_iterator_next ?_ (F.args_tuple_iterator_next_1 _)))
  show wpAny _ _ (field (.ref it) 0 >>= _) _ _ s; refine wpAny_bind (wpAny_field go gd (x := .ref t) rfl ?_)
  show wpAny _ _ (if (Value.ref t == Value.none) = true then _ else _) _ _ s; rw [if_neg (show ¬ ((Value.ref t == Value.none) = true) from Bool.false_ne_true)]
  show wpAny _ _ (field (.ref it) 1 >>= _) _ _ s; refine wpAny_bind (wpAny_field go gd (x := .int i 0) rfl ?_)
  show wpAny _ _ (seqItems? (.ref t) >>= _) _ _ s; refine wpAny_bind (wpAny_seqItems gol gdl ?_); simp only [Int.toNat_natCast, gx]
  refine wpAny_bind (wpAny_setField go gd (by simp) (wpAny_pure ⟨x, rfl, wpAny_pure (k _ ?_ (Heap.SameBut.update ..))⟩))
  exact ⟨_, Heap.get?_update_self _ go (Obj.isFreed_of_fields (Obj.data_mapFields gd _)), (Obj.cls_mapFields ..).trans gc, by rw [Obj.data_mapFields gd]; simp [rawInt]⟩
theorem nxT_end {it t : Addr} {i : Nat} {els : Array Value} {Q : Value → Shared → Prop} (hh : A.handled = none) (ti : s.heap.IsTupleIter it t i) (tt : s.heap.IsTuple t els) (gx : els[i]? = none)
    (k : ∀ h' e, Heap.ExtBut it s.heap h' → (∃ o, h'.get? e = some o ∧ o.cls = .type "StopIteration") → E (.ref e) { s with heap := h' }) : wpAny (model prog w) A (Builtin.SmallTypes.nextOf (.ref it)) Q E s := by
  obtain ⟨o, go, gc, gd⟩ := id ti
  obtain ⟨ol, gol, _, nl, gdl⟩ := tt
  unfold Builtin.SmallTypes.nextOf
  refine wpAny_bind (wpAny_callSpecial?_slot (name := Str.ofString "__next__") ti.typeIs F.slot_tuple_iterator_next (wpAny_call_entry F.slot_tuple_iterator_next ti.typeIs F.entry_tuple_iterator_next ?_ (F.args_tuple_iterator_next_1 _)))
  show wpAny _ _ (field (.ref it) 0 >>= _) _ _ s; refine wpAny_bind (wpAny_field go gd (x := .ref t) rfl ?_)
  show wpAny _ _ (if (Value.ref t == Value.none) = true then _ else _) _ _ s; rw [if_neg (show ¬ ((Value.ref t == Value.none) = true) from Bool.false_ne_true)]
  show wpAny _ _ (field (.ref it) 1 >>= _) _ _ s; refine wpAny_bind (wpAny_field go gd (x := .int i 0) rfl ?_)
  show wpAny _ _ (seqItems? (.ref t) >>= _) _ _ s; refine wpAny_bind (wpAny_seqItems gol gdl ?_); simp only [Int.toNat_natCast, gx]
  refine wpAny_bind (wpAny_rule (wpAny_bind (wpAny_setField go gd (by simp) ?_)))
  show wpAny _ _ (newExc (.type "StopIteration") [] >>= _) _ _ _; refine wpAny_bind ?_; simp only [newExc, newTuple]; refine wpAny_bind (wpAny_newObj_type ?_ (by size_fits))
  refine wpAny_bind (m := firstArgMember _ _) (wpAny_of_eq (a := Value.none) (by first | rfl | (simp only [firstArgMember]; rfl)) ?_); refine wpAny_newObj_type ?_ (by size_fits)
  simp only [raiseNew]; refine wpAny_bind (wpAny_handled ?_); (first | rw [show A.in1.handled = none from hh] | rw [hh]); refine wpAny_bind (wpAny_pure (wpAny_throw ?_))
  exact k _ _ (((Heap.SameBut.update ..).extBut.push _).push _) ⟨_, Heap.get?_push_size _ rfl, rfl⟩
theorem zipT_item {z TI TO i1 i2 l1 l2 : Addr} {k : Nat} {xs ys : Array Value} {x y a b : Value} {Q : Option Value → Shared → Prop} (D : ZipApart z TI TO i1 i2 l1 l2)
    (gz : IsZip s.heap z TI TO .none) (gI : IsPair s.heap TI (.ref i1) (.ref i2)) (gO : IsPair s.heap TO a b)
    (t1 : s.heap.IsTupleIter i1 l1 k) (t2 : s.heap.IsTupleIter i2 l2 k) (m1 : s.heap.IsTuple l1 xs) (m2 : s.heap.IsTuple l2 ys) (gx : xs[k]? = some x) (gy : ys[k]? = some y)
    (q : ∀ h', IsZip h' z TI TO (rawInt s.heap.objs.size) → IsPair h' TO x y → h'.IsTupleIter i1 l1 (k + 1) → h'.IsTupleIter i2 l2 (k + 1) → IsPair h' s.heap.objs.size x y → h'.objs.size = s.heap.objs.size + 1 →
      (∀ c o, c ≠ z → c ≠ TO → c ≠ i1 → c ≠ i2 → s.heap.get? c = some o → h'.get? c = some o) → Q (some (.ref s.heap.objs.size)) { s with heap := h' }) : wpAny (model prog w) A (pyNext (.ref z)) Q E s := by
  have hT : s.TypeIs (.ref z) "zip" := ⟨_, gz, rfl⟩
  unfold pyNext
  refine wpAny_bind (wpAny_attempt (wpAny_callSpecial?_slot (name := Str.ofString "__next__") hT F.slot_zip_next (wpAny_call_entry F.slot_zip_next hT F.entry_zip_next ?_ (F.args_zip_next_1 _))))
  show wpAny _ _ (field (.ref z) 2 >>= _) _ _ _; refine wpAny_bind (wpAny_field gz rfl (x := .bool false) rfl ?_)
  show wpAny _ _ (field (.ref z) 3 >>= _) _ _ _; refine wpAny_bind (wpAny_field gz rfl (x := .ref TI) rfl ?_); refine wpAny_bind (wpAny_seqItems gI rfl ?_)
  show wpAny _ _ (Builtin.SmallTypes.ownedTupleIsFree (.ref z) >>= _) _ _ _; refine wpAny_bind ?_; unfold Builtin.SmallTypes.ownedTupleIsFree
  refine wpAny_bind (wpAny_field gz rfl (x := .none) rfl (wpAny_pure ?_)); simp only [if_true]; refine wpAny_bind (wpAny_rule ?_); refine wpAny_bind (wpAny_field gz rfl (x := .ref TO) rfl ?_)
  refine wpAny_bind (wpAny_setField_rec gz (by simp) fun g1 z1 e1 => ?_); replace z1 : IsZip g1 z TI TO .ellipsis := z1; refine wpAny_bind ?_
  simp only [List.zipIdx_cons, List.zipIdx_nil, List.forIn_cons, List.forIn_nil]; refine wpAny_bind (wpAny_bind (wpAny_onRaise ?_))
  show wpAny _ _ (Builtin.SmallTypes.nextOf (.ref i1) >>= _) _ _ _; refine wpAny_bind (nxT_item (t1.extBut e1.extBut D.i1z) (m1.extBut e1.extBut D.l1z) gx fun g2 t1' e2 => wpAny_pure ?_)
  have o2 : IsPair g2 TO a b := e2.extBut _ _ D.TOi1 (e1.extBut _ _ D.TOz gO)
  refine wpAny_bind (wpAny_seqItems o2 rfl ?_); refine wpAny_bind (wpAny_updateSeq_pair o2 fun g3 o3 e3 => ?_); replace o3 : IsPair g3 TO x b := o3; refine wpAny_bind (wpAny_letGo (wpAny_pure ?_)); refine wpAny_bind (wpAny_bind (wpAny_onRaise ?_))
  show wpAny _ _ (Builtin.SmallTypes.nextOf (.ref i2) >>= _) _ _ _; refine wpAny_bind (nxT_item (((t2.extBut e1.extBut D.i2z).extBut e2.extBut D.i12.symm).extBut e3.extBut D.TOi2.symm) (((m2.extBut e1.extBut D.l2z).extBut e2.extBut D.l2i1).extBut e3.extBut D.l2TO) gy fun g4 t2' e4 => wpAny_pure ?_)
  have o4 : IsPair g4 TO x b := e4.extBut _ _ D.TOi2 o3
  refine wpAny_bind (wpAny_seqItems o4 rfl ?_); refine wpAny_bind (wpAny_updateSeq_pair o4 fun g5 o5 e5 => ?_); replace o5 : IsPair g5 TO x y := o5; refine wpAny_bind (wpAny_letGo (wpAny_pure (wpAny_pure ?_)))
  refine wpAny_bind (wpAny_seqItems o5 rfl ?_); refine wpAny_bind (wpAny_newTuple ?_)
  have sz : g5.objs.size = s.heap.objs.size := by rw [e5.1, e4.1, e3.1, e2.1, e1.1]
  have z5 : IsZip g5 z TI TO .ellipsis := e5.extBut _ _ D.TOz.symm (e4.extBut _ _ D.i2z.symm (e3.extBut _ _ D.TOz.symm (e2.extBut _ _ D.i1z.symm z1)))
  have kp : ∀ c o, c ≠ z → c ≠ TO → c ≠ i1 → c ≠ i2 → s.heap.get? c = some o → g5.get? c = some o := fun c o c1 c2 c3 c4 e => e5.extBut _ _ c2 (e4.extBut _ _ c4 (e3.extBut _ _ c2 (e2.extBut _ _ c3 (e1.extBut _ _ c1 e))))
  have u1 : g5.IsTupleIter i1 l1 (k + 1) := ((t1'.extBut e3.extBut D.TOi1.symm).extBut e4.extBut D.i12).extBut e5.extBut D.TOi1.symm
  have u2 : g5.IsTupleIter i2 l2 (k + 1) := t2'.extBut e5.extBut D.TOi2.symm
  have zl : z < g5.objs.size := Heap.lt_size z5
  show wpAny _ _ (Builtin.SmallTypes.ownedTupleHandOut (.ref z) (.ref g5.objs.size) >>= _) _ _ _; refine wpAny_bind ?_; unfold Builtin.SmallTypes.ownedTupleHandOut
  have z6 : IsZip (g5.push { cls := .type "tuple", data := .seq #[x, y] }) z TI TO .ellipsis := Heap.get?_push_of_some _ z5
  refine wpAny_bind (wpAny_setField_rec z6 (by simp) fun g7 z7 e7 => ?_); replace z7 : IsZip g7 z TI TO (rawInt g5.objs.size) := z7
  refine wpAny_setField_rec z7 (by simp) fun g8 z8 e8 => ?_; replace z8 : IsZip g8 z TI TO (rawInt g5.objs.size) := z8
  have up : ∀ c o, c ≠ z → g5.get? c = some o → g8.get? c = some o := fun c o c1 e => e8.extBut _ _ c1 (e7.extBut _ _ c1 (Heap.get?_push_of_some _ e))
  have n8 : IsPair g8 g5.objs.size x y := e8.extBut _ _ (Nat.ne_of_gt zl) (e7.extBut _ _ (Nat.ne_of_gt zl) (Heap.get?_push_size _ rfl))
  have s8 : g8.objs.size = g5.objs.size + 1 := by rw [e8.1, e7.1, Heap.size_push]
  rw [sz] at z8 n8 s8
  refine wpAny_pure ⟨.ref g5.objs.size, rfl, wpAny_pure ?_⟩
  rw [sz]
  exact q g8 z8 (up _ _ D.TOz o5) (u1.at fun o e => up _ o D.i1z e) (u2.at fun o e => up _ o D.i2z e) n8 s8 fun c o c1 c2 c3 c4 e => up c o c1 (kp c o c1 c2 c3 c4 e)
/-- the end where the first of the two ends -/
theorem zipT_end {z TI TO i1 i2 l1 l2 : Addr} {k : Nat} {xs : Array Value} {Q : Option Value → Shared → Prop} (hh : A.handled = none) (D : ZipApart z TI TO i1 i2 l1 l2)
    (gz : IsZip s.heap z TI TO .none) (gI : IsPair s.heap TI (.ref i1) (.ref i2)) (t1 : s.heap.IsTupleIter i1 l1 k) (m1 : s.heap.IsTuple l1 xs) (gx : xs[k]? = none)
    (q : ∀ h', (∀ c o, c ≠ z → c ≠ TO → c ≠ i1 → c ≠ i2 → s.heap.get? c = some o → h'.get? c = some o) → Q none { s with heap := h' }) : wpAny (model prog w) A (pyNext (.ref z)) Q E s := by
  have hT : s.TypeIs (.ref z) "zip" := ⟨_, gz, rfl⟩
  unfold pyNext
  refine wpAny_bind (wpAny_attempt (wpAny_callSpecial?_slot (name := Str.ofString "__next__") hT F.slot_zip_next (wpAny_call_entry F.slot_zip_next hT F.entry_zip_next ?_ (F.args_zip_next_1 _))))
  show wpAny _ _ (field (.ref z) 2 >>= _) _ _ _; refine wpAny_bind (wpAny_field gz rfl (x := .bool false) rfl ?_)
  show wpAny _ _ (field (.ref z) 3 >>= _) _ _ _; refine wpAny_bind (wpAny_field gz rfl (x := .ref TI) rfl ?_); refine wpAny_bind (wpAny_seqItems gI rfl ?_)
  show wpAny _ _ (Builtin.SmallTypes.ownedTupleIsFree (.ref z) >>= _) _ _ _; refine wpAny_bind ?_; unfold Builtin.SmallTypes.ownedTupleIsFree
  refine wpAny_bind (wpAny_field gz rfl (x := .none) rfl (wpAny_pure ?_)); simp only [if_true]; refine wpAny_bind (wpAny_rule ?_); refine wpAny_bind (wpAny_field gz rfl (x := .ref TO) rfl ?_)
  refine wpAny_bind (wpAny_setField_rec gz (by simp) fun g1 z1 e1 => ?_); replace z1 : IsZip g1 z TI TO .ellipsis := z1; refine wpAny_bind ?_
  simp only [List.zipIdx_cons, List.zipIdx_nil, List.forIn_cons, List.forIn_nil]; refine wpAny_bind (wpAny_bind (wpAny_onRaise ?_))
  show wpAny _ _ (Builtin.SmallTypes.nextOf (.ref i1) >>= _) _ _ _; refine wpAny_bind (nxT_end hh (t1.extBut e1.extBut D.i1z) (m1.extBut e1.extBut D.l1z) gx fun g2 e e2 he => ?_)
  obtain ⟨oe, hoe, hce⟩ := he
  have z2 : IsZip g2 z TI TO .ellipsis := e2 _ _ D.i1z.symm z1
  have ne : e ≠ z := fun x => by subst x; rw [z2] at hoe; cases hoe; simp at hce
  refine wpAny_setField_rec z2 (by simp) fun g3 _ e3 => ?_
  refine wpAny_bind (wpAny_isInstance (T := "StopIteration") (b := true) ⟨oe, e3.extBut _ _ ne hoe, hce⟩ isSubtype_stop ?_)
  exact wpAny_pure (q g3 fun c o c1 _ c3 _ x => e3.extBut _ _ c1 (e2 _ _ c3 (e1.extBut _ _ c1 x)))
end
end L2


set_option Elab.async false
set_option linter.all false
set_option maxRecDepth 100000
set_option maxHeartbeats 4000000
namespace L2
open PySem PySem.Spec PyProof.Rows
abbrev zT1 (h : Heap) (a : Addr) : Heap := h.push { cls := .type "tuple_iterator", data := .fields #[.ref a, .int 0 0] }
abbrev zT2 (h : Heap) (a b : Addr) : Heap := (zT1 h a).push { cls := .type "tuple_iterator", data := .fields #[.ref b, .int 0 0] }
abbrev zT3 (h : Heap) (a b : Addr) : Heap := (zT2 h a b).push { cls := .type "tuple", data := .seq #[.ref h.objs.size, .ref (zT1 h a).objs.size] }
abbrev zT4 (h : Heap) (a b : Addr) : Heap := (zT3 h a b).push { cls := .type "tuple", data := .seq #[.none, .none] }
abbrev zT5 (h : Heap) (a b : Addr) : Heap := (zT4 h a b).push { cls := .type "zip", data := .fields #[.none, .bool false, .bool false, .ref (zT2 h a b).objs.size, .ref (zT3 h a b).objs.size] }
theorem mzT (a b : Addr) (xs ys : Array Value) : Meets (Builtin.«zip.__new__» ⟨[.type "zip", .ref a, .ref b], []⟩) (fun _ R s => s.heap.IsTuple a xs ∧ s.heap.IsTuple b ys ∧ R (.ok (.ret (.ref (zT4 s.heap a b).objs.size))) { s with heap := zT5 s.heap a b }) :=
  .of_wp fun prog w A R s h => by
    obtain ⟨hp, g, d, tk, os⟩ := s; obtain ⟨m1, m2, h⟩ := h
    have hsub := sub_zip
    have n1 : Heap.IsTuple (Shared.heap ⟨hp, g, d, tk, os⟩) a xs := m1
    have n2 : Heap.IsTuple (Shared.heap ⟨hp.push { cls := .type "tuple_iterator", data := .fields #[.ref a, .int 0 0] }, g, d, tk, os⟩) b ys := Heap.IsTuple.push m2 _
    wp_walk using wpAny_pyIter_tuple n1, wpAny_pyIter_tuple n2
    exact ⟨_, rfl, h⟩
section
variable {prog : Program} {w : World} {A : Around} {E : Value → Shared → Prop} {s : Shared}
theorem call_zipT {a b : Addr} {xs ys : Array Value} {Q : Value → Shared → Prop} (m1 : s.heap.IsTuple a xs) (m2 : s.heap.IsTuple b ys)
    (h : ∀ h', IsZip h' (s.heap.objs.size + 4) (s.heap.objs.size + 2) (s.heap.objs.size + 3) .none → IsPair h' (s.heap.objs.size + 2) (.ref s.heap.objs.size) (.ref (s.heap.objs.size + 1)) →
      IsPair h' (s.heap.objs.size + 3) .none .none → h'.IsTupleIter s.heap.objs.size a 0 → h'.IsTupleIter (s.heap.objs.size + 1) b 0 → (∀ c o, s.heap.get? c = some o → h'.get? c = some o) → Q (.ref (s.heap.objs.size + 4)) { s with heap := h' }) :
    wpAny (model prog w) A (call (.type "zip") [.ref a, .ref b]) Q E s := by
  refine callType_new F.called_zip (by decide) (F.typeCall_zip_2 _ _) (F.newCall_zip_2 _ _) (fun obj => F.args_object_init_3 obj _ _) F.entry_zip_new (mzT a b xs ys) ⟨m1, m2, ?_⟩
  have z1 : (zT1 s.heap a).objs.size = s.heap.objs.size + 1 := Heap.size_push ..
  have z2 : (zT2 s.heap a b).objs.size = s.heap.objs.size + 2 := by rw [Heap.size_push, z1]
  have z3 : (zT3 s.heap a b).objs.size = s.heap.objs.size + 3 := by rw [Heap.size_push, z2]
  have z4 : (zT4 s.heap a b).objs.size = s.heap.objs.size + 4 := by rw [Heap.size_push, z3]
  have g5 : (zT5 s.heap a b).get? (zT4 s.heap a b).objs.size = some _ := Heap.get?_push_size _ rfl
  have g4 : (zT5 s.heap a b).get? (zT3 s.heap a b).objs.size = some _ := Heap.get?_push_of_some _ (Heap.get?_push_size _ rfl)
  have g3 : (zT5 s.heap a b).get? (zT2 s.heap a b).objs.size = some _ := Heap.get?_push_of_some _ (Heap.get?_push_of_some _ (Heap.get?_push_size _ rfl))
  have g2 : (zT5 s.heap a b).get? (zT1 s.heap a).objs.size = some _ := Heap.get?_push_of_some _ (Heap.get?_push_of_some _ (Heap.get?_push_of_some _ (Heap.get?_push_size _ rfl)))
  have g1 : (zT5 s.heap a b).get? s.heap.objs.size = some _ := Heap.get?_push_of_some _ (Heap.get?_push_of_some _ (Heap.get?_push_of_some _ (Heap.get?_push_of_some _ (Heap.get?_push_size _ rfl))))
  show _ ∧ _
  rw [z2, z3, z4] at g5
  rw [z1, z2] at g3
  rw [z3] at g4
  rw [z1] at g2
  rw [z4]
  refine ⟨⟨_, g5, rfl⟩, h _ g5 g3 g4 ⟨_, g1, rfl, rfl⟩ ⟨_, g2, rfl, rfl⟩ fun c o x => ?_⟩
  exact Heap.get?_push_of_some _ (Heap.get?_push_of_some _ (Heap.get?_push_of_some _ (Heap.get?_push_of_some _ (Heap.get?_push_of_some _ x))))
end
/-- the items of two tuples, as new pairs; the first one's length counts -/
def Itz (K : PySem.W.Frag) (a b : Addr) : It :=
  ⟨fun i H => ∃ xs x ys y, SqT K H a xs ∧ xs[i]? = some x ∧ SqT K H b ys ∧ ys[i]? = some y,
   fun i H v H' => ∃ t x y, H t = none ∧ v = .ref t ∧ H' = upd H t (.tup [x, y]) ∧ (∀ xs, SqT K H a xs → xs[i]? = some x) ∧ ∀ ys, SqT K H b ys → ys[i]? = some y,
   fun i H => ∃ xs, SqT K H a xs ∧ xs.length ≤ i⟩
theorem turn_zip {P : Program} {w : World} {K : PySem.W.Frag} {elts : List Expr} {x1} {pos : Pos} (a b z TI TO i1 i2 : Addr) (D : ZipApart z TI TO i1 i2 a b) :
    Turn P w K (.Tuple elts x1 pos) (Itz K a b) [z, TI, TO, i1, i2] z (fun i h => IsZip h z TI TO .none ∧ IsPair h TI (.ref i1) (.ref i2) ∧ (∃ u v, IsPair h TO u v) ∧ h.IsTupleIter i1 a i ∧ h.IsTupleIter i2 b i) where
  mem := by simp
  obj := fun i h st c hc => by
    obtain ⟨s1, s2, ⟨u, v, s3⟩, ⟨o4, s4, _, d4⟩, ⟨o5, s5, _, d5⟩⟩ := st
    have hc' : c = z ∨ c = TI ∨ c = TO ∨ c = i1 ∨ c = i2 := by simpa using hc
    rcases hc' with rfl | rfl | rfl | rfl | rfl
    · exact ⟨_, s1, fun v q => by have q' : Data.fields _ = Data.cell v := q; cases q'⟩
    · exact ⟨_, s2, fun v q => by have q' : Data.seq _ _ = Data.cell v := q; cases q'⟩
    · exact ⟨_, s3, fun v q => by have q' : Data.seq _ _ = Data.cell v := q; cases q'⟩
    · exact ⟨o4, s4, fun v q => by rw [d4] at q; cases q⟩
    · exact ⟨o5, s5, fun v q => by rw [d5] at q; cases q⟩
  keep := fun i h h' st k => ⟨k z (by simp) _ st.1, k TI (by simp) _ st.2.1, st.2.2.1.elim fun u q => q.elim fun v q => ⟨u, v, k TO (by simp) _ q⟩, st.2.2.2.1.at fun o e => k i1 (by simp) o e, st.2.2.2.2.at fun o e => k i2 (by simp) o e⟩
  item := by
    intro X hP hw hK hc i pins s σ H E I hf st hg
    subst hP hw hK
    obtain ⟨xs, x, ys, y, hq, hx, hq2, hy⟩ := hg
    obtain ⟨s1, s2, ⟨u, v, s3⟩, s4, s5⟩ := st
    obtain ⟨its, rv, p, hz⟩ := I.tuple hq
    obtain ⟨its2, rv2, p2, hz2⟩ := I.tuple hq2
    obtain ⟨ux, hux, rux⟩ := rv.get hx
    obtain ⟨uy, huy, ruy⟩ := rv2.get hy
    refine zipT_item D s1 s2 s3 s4 s5 (show s.heap.IsTuple a its.toArray from p) (show s.heap.IsTuple b its2.toArray from p2) (x := ux) (y := uy) (by simpa using hux) (by simpa using huy) fun h1 a1 a2 a3 a4 a5 a6 k1 => ?_
    refine ⟨_, rfl, wpAny_letOwnedTupleGo_zip a1 fun h2 b1 b2 => ?_⟩
    have nz : s.heap.objs.size ≠ z := Nat.ne_of_gt (Heap.lt_size s1)
    have ht2 := (b2.2 s.heap.objs.size nz).trans a5
    have hk : ∀ c o, c ∉ [z, TO, i1, i2] → s.heap.get? c = some o → h2.get? c = some o := fun c o hb e' => by
      have hb' : c ≠ z ∧ c ≠ TO ∧ c ≠ i1 ∧ c ≠ i2 := by simpa using hb
      exact (b2.2 c hb'.1).trans (k1 c o hb'.1 hb'.2.1 hb'.2.2.1 hb'.2.2.2 e')
    have hfr : H s.heap.objs.size = none := I.hok.fresh (Nat.le_refl _)
    refine ⟨.ref s.heap.objs.size, upd H s.heap.objs.size (.tup [x, y]), I.turnedNew (t' := s.toks) hk (fun c hc => hf c (by simp at hc ⊢; rcases hc with q | q | q | q <;> simp [q])) (Nat.le_refl _) ?_, rfl,
      ⟨_, x, y, hfr, rfl, rfl, fun zs hy' => by rw [I.tuple_inj hy' hq]; exact hx, fun zs hy' => by rw [I.tuple_inj hy' hq2]; exact hy⟩, ⟨b1, ?_, ⟨ux, uy, ?_⟩, a3.at fun o e => (b2.2 i1 D.i1z).trans e, a4.at fun o e => (b2.2 i2 D.i2z).trans e⟩, fun c hc => ?_⟩
    · exact ⟨by show 2 ≤ sizeLine; decide, [ux, uy], .cons rux (.cons ruy .nil), ⟨_, ht2, rfl, _, rfl⟩⟩
    · exact hk TI _ (by simp [D.TIz, D.TITO, D.TIi1, D.TIi2]) s2
    · exact (b2.2 TO D.TOz).trans a2
    · have : c ≠ s.heap.objs.size := by
        have hc' : c = z ∨ c = TI ∨ c = TO ∨ c = i1 ∨ c = i2 := by simpa using hc
        rcases hc' with rfl | rfl | rfl | rfl | rfl
        · exact Ne.symm nz
        · exact Nat.ne_of_lt (Heap.lt_size s2)
        · exact Nat.ne_of_lt (Heap.lt_size s3)
        · obtain ⟨o, e1, _⟩ := s4; exact Nat.ne_of_lt (Heap.lt_size e1)
        · obtain ⟨o, e1, _⟩ := s5; exact Nat.ne_of_lt (Heap.lt_size e1)
      rw [upd_ne this]
      exact (hf c hc).1
  done := by
    intro X hP hw hK hc i pins s σ H E I hf st hg
    subst hP hw hK
    obtain ⟨xs, hq, hx⟩ := hg
    obtain ⟨s1, s2, s3, s4, s5⟩ := st
    obtain ⟨its, rv, p, hz⟩ := I.tuple hq
    have hl := rv.length
    exact zipT_end (I.ok.hd hc) D s1 s2 s4 (show s.heap.IsTuple a its.toArray from p) (by simp; omega) fun h' eb => ⟨rfl, I.turnedL (t' := s.toks) (its := [z, TO, i1, i2]) (fun c o hb e => by
      have hb' : c ≠ z ∧ c ≠ TO ∧ c ≠ i1 ∧ c ≠ i2 := by simpa using hb
      exact eb c o hb'.1 hb'.2.1 hb'.2.2.1 hb'.2.2.2 e) (fun c hc => hf c (by simp at hc ⊢; rcases hc with q | q | q | q <;> simp [q]))⟩
  self := fun _ _ _ _ _ st h => wpAny_pyIter_zip st.1 h
section
variable {X : Cx}
def iZip (K : PySem.W.Frag) (ta : TA) : TI := fun σ H R => ta σ H fun vs H1 => ∃ a b, vs = [.ref a, .ref b] ∧ (∃ xs, SqT K H1 a xs) ∧ (∃ ys, SqT K H1 b ys) ∧ R (Itz K a b) H1
theorem bt_zip : bootBuiltins "zip" = some (.type "zip") := by decide +kernel
theorem pi_zip {a b : Expr} {ta : TA} {p pos : Pos} {elts : List Expr} {x1} {tpos : Pos} (hg : Gl X "zip") (hm : X.mg "zip" = none) (ha : PA X [a, b] ta)
    (hs : starEach [a, b] X.env = [(false, eval a X.env), (false, eval b X.env)] := by rfl) (hs2 : starEach [b] X.env = [(false, eval b X.env)] := by rfl) : PI X (.Tuple elts x1 tpos) (.Call (.Name "zip" p) [a, b] [] pos) (iZip X.K ta) := by
  intro pins s σ H R I h
  refine Call_ (ld_blt I hg hm bt_zip (PyProof.Rows.callWith_type1 (thn (ha pos pins s σ H _ I h) fun us s1 ⟨vs, H1, I1, r1, q1⟩ => ?_) (by rw [hs, hs2]) (by rw [hs2]; rfl)))
  obtain ⟨a, b, e, ⟨xs, hq⟩, ⟨ys, hq2⟩, q⟩ := q1
  subst e
  obtain ⟨u, v, rfl, ru, rv⟩ := vals2 r1
  cases ru
  cases rv
  obtain ⟨its, rv, p, hz⟩ := I1.tuple hq
  obtain ⟨its2, rv2, p2, hz2⟩ := I1.tuple hq2
  have la : a < s1.heap.objs.size := by obtain ⟨o, e, _⟩ := p; exact Heap.lt_size e
  have lb : b < s1.heap.objs.size := by obtain ⟨o, e, _⟩ := p2; exact Heap.lt_size e
  refine call_zipT (show s1.heap.IsTuple a its.toArray from p) (show s1.heap.IsTuple b its2.toArray from p2) fun h' g1 g2 g3 g4 g5 hk => ?_
  refine wpAny_pyIter_zip g1 ?_
  have D : ZipApart (s1.heap.objs.size + 4) (s1.heap.objs.size + 2) (s1.heap.objs.size + 3) s1.heap.objs.size (s1.heap.objs.size + 1) a b := PySem.W.ktu_apart _ _ _ la lb
  refine ⟨s1.heap.objs.size + 4, [s1.heap.objs.size + 4, s1.heap.objs.size + 2, s1.heap.objs.size + 3, s1.heap.objs.size, s1.heap.objs.size + 1], _, _, H1, rfl, I1.kept (t' := s1.toks) hk, turn_zip a b _ _ _ _ _ D, ⟨g1, g2, ⟨_, _, g3⟩, g4, g5⟩, fun c hc => ?_, q⟩
  have hc' : s1.heap.objs.size ≤ c := by
    have hc' : c = s1.heap.objs.size + 4 ∨ c = s1.heap.objs.size + 2 ∨ c = s1.heap.objs.size + 3 ∨ c = s1.heap.objs.size ∨ c = s1.heap.objs.size + 1 := by simpa using hc
    rcases hc' with q | q | q | q | q <;> rw [q]
    · exact Nat.le_add_right _ _
    · exact Nat.le_add_right _ _
    · exact Nat.le_add_right _ _
    · exact Nat.le_refl _
    · exact Nat.le_add_right _ _
  exact I1.fpOk hc' (I1.hok.fresh hc')
end
end L2


set_option Elab.async false
set_option linter.all false
set_option maxRecDepth 100000
set_option maxHeartbeats 4000000
namespace L2
open PySem PySem.Spec PyProof.Rows
theorem comp_zip {K : PySem.W.Frag} {a b : Addr} {xs zs : List V} {g : TG} {tt : TT} {te : TE} {R : Hp → Prop} {D : Addr} {σ0 : St} {H0 : Hp} (hlen : xs.length = zs.length) (Pv : Nat → St → List V → Hp → Prop) (h0 : Pv 0 σ0 [] H0)
    (hl : ∀ i σ ys H, i ≤ xs.length → Pv i σ ys H → SqT K H a xs ∧ SqT K H b zs)
    (hs : ∀ i x z σ ys H t, xs[i]? = some x → zs[i]? = some z → H t = none → Pv i σ ys H → g (.ref t) σ (upd H t (.tup [x, z])) fun σ2 H2 => tt σ2 H2 fun c H3 =>
      if c = true then te σ2 H3 fun v H4 => H4 D = some (.lst ys) ∧ ys.length < sizeLine ∧ Pv (i + 1) σ2 (ys ++ [v]) (upd H4 D (.lst (ys ++ [v]))) else Pv (i + 1) σ2 ys H3)
    (hd : ∀ σ ys H, Pv xs.length σ ys H → R H) :
    ∃ W : Nat → Nat → St → List V → Hp → Prop, (∃ m, W 0 m σ0 [] H0) ∧ ∀ i m σ ys H, W i m σ ys H →
      ((Itz K a b).stop i H ∧ R H) ∨ ((Itz K a b).go i H ∧ ∃ N : St → List V → Hp → Prop, (∀ σ' ys' H', N σ' ys' H' → ∃ m', m' < m ∧ W (i + 1) m' σ' ys' H') ∧ ∀ x H', (Itz K a b).yld i H x H' → g x σ H' fun σ2 H2 => tt σ2 H2 fun c H3 =>
        if c = true then te σ2 H3 fun v H4 => H4 D = some (.lst ys) ∧ ys.length < sizeLine ∧ N σ2 (ys ++ [v]) (upd H4 D (.lst (ys ++ [v]))) else N σ2 ys H3) := by
  refine ⟨fun i m σ ys H => m = xs.length - i ∧ i ≤ xs.length ∧ Pv i σ ys H, ⟨xs.length, by simp, Nat.zero_le _, h0⟩, ?_⟩
  rintro i m σ ys H ⟨rfl, hi, p⟩
  obtain ⟨q, q2⟩ := hl i σ ys H hi p
  by_cases hlt : i < xs.length
  · refine .inr ⟨⟨xs, xs[i], zs, zs[i]'(by omega), q, List.getElem?_eq_getElem hlt, q2, List.getElem?_eq_getElem _⟩, Pv (i + 1), fun σ' ys' H' p' => ⟨xs.length - (i + 1), by omega, rfl, hlt, p'⟩, fun v H' y => ?_⟩
    obtain ⟨t, x, z, hn, e1, e2, y1, y2⟩ := y
    subst e1 e2
    exact hs i x z σ ys _ t (y1 xs q) (y2 zs q2) hn p
  · have e : i = xs.length := by omega
    subst e
    exact .inl ⟨⟨xs, q, Nat.le_refl _⟩, hd σ ys H p⟩
end L2


set_option Elab.async false
set_option linter.all false
set_option maxRecDepth 100000
set_option maxHeartbeats 4000000
namespace My
open PySem L2
def top (i : Nat) : Stmt := PySem.Challenge.pw_widenrows_k16_distances_at_their_bounds.main.body.getD i (.Pass ⟨0, 0, 0, 0⟩)
abbrev sTargets : Stmt := top 4
abbrev sHasFar : Stmt := top 7
abbrev sFarOf : Stmt := top 8
abbrev sWithFar : Stmt := top 9
abbrev sPartsOf : Stmt := top 10
abbrev sSize : Stmt := top 16
abbrev sBegins : Stmt := top 17
abbrev sDists : Stmt := top 18
abbrev sShortJ : Stmt := top 19
abbrev sBorne : Stmt := top 20
abbrev sShDist : Stmt := top 21
abbrev sCheckL : Stmt := top 22
abbrev sJOver : Stmt := top 23
abbrev sFurther : Stmt := top 24
abbrev sToLen : Stmt := top 25
abbrev sLeast : Stmt := top 26
abbrev sHeadOf : Stmt := top 33
abbrev sLowOf : Stmt := top 34
abbrev sFirstU : Stmt := top 35
abbrev sOtherU : Stmt := top 36
abbrev sUnits : Stmt := top 37
abbrev sStream : Stmt := top 40
abbrev sFilled : Stmt := top 41
abbrev sJump : Stmt := top 42
abbrev sRowsL : Stmt := top 43
abbrev sRefused : Stmt := top 44
abbrev sRightL : Stmt := top 45
abbrev sNested : Stmt := top 46
abbrev sLaw : Stmt := top 47
theorem bt_list : bootBuiltins "list" = some (.type "list") := by decide +kernel
theorem bt_len : bootBuiltins "len" = some (.builtin "len") := by decide +kernel
theorem at0 {α : Type} (a : α) (r : List α) : atI (a :: r) 0 = some a := atI_nat (j := 0) rfl
theorem at1 {α : Type} (a b : α) (r : List α) : atI (a :: b :: r) 1 = some b := atI_nat (j := 1) rfl
theorem at2 {α : Type} (a b c : α) (r : List α) : atI (a :: b :: c :: r) 2 = some c := atI_nat (j := 2) rfl
theorem strEq {a b : Str} (h : decide (V.str a = V.str b) = true) : a = b := V.str.inj (of_decide_eq_true h)
theorem strNe {a b : Str} (h : ¬ decide (V.str a = V.str b) = true) : ¬ a = b := fun e => h (by rw [e]; exact decide_eq_true rfl)
/-! ### words -/
theorem inV_str (w : Str) : ∀ ss : List Str, inV (.str w) (ss.map V.str) = decide (w ∈ ss)
  | [] => rfl
  | x :: r => by
    have ih := inV_str w r
    unfold inV at ih ⊢
    rw [List.map_cons, List.any_cons, ih]
    show ((x == w) || _) = _
    by_cases h : x = w
    · subst h
      simp
    · have h' : ¬ w = x := fun e => h e.symm
      simp [h, h']
theorem same_new {H : Hp} {l : Addr} {o : HO} (h : H l = none) : Same H (upd H l o) := fun b u e => by
  rw [upd_ne (ne_of_none e h)]
  exact e
theorem bt_int : bootBuiltins "int" = some (.type "int") := by decide +kernel
theorem bt_max : bootBuiltins "max" = some (.builtin "max") := by decide +kernel
theorem bt_min : bootBuiltins "min" = some (.builtin "min") := by decide +kernel
/-! ### small steps of a reading -/
theorem same_put {H H1 : Hp} {l : Addr} {o : HO} (e : Same H H1) (h : H l = none) : Same H (upd H1 l o) := fun b u z => by
  rw [upd_ne (ne_of_none z h)]
  exact e b u z
def all20 : List Str := ["stop", "back", "halt", "set", "more", "copy", "add", "less", "load", "keep", "tell", "see", "put", "take", "jump", "zero", "below", "call", "mark", "table"]
def w2 : List Str := ["copy", "add", "less", "load", "keep"]
def w1 : List Str := ["set", "more", "tell", "see", "put", "take", "zero", "below", "table"]
/-- what stands behind a word -/
def ItemsOk (u : Str) (items : List V) : Prop := (u ∈ w2 → ∃ b c : Int, items = [.int b, .int c]) ∧ (u ∈ w1 → ∃ (b : Int) (r : List V), items = .int b :: r)
theorem ItemsOk.one {u : Str} {b : Int} {r : List V} (h : ¬ u ∈ w2) : ItemsOk u (.int b :: r) := ⟨fun z => absurd z h, fun _ => ⟨b, r, rfl⟩⟩
def jcm : List Str := ["jump", "call", "mark"]
def zb : List Str := ["zero", "below"]
/-- what a row's own parts tell of its targets -/
def Parts (H : Hp) (w : Str) (items : List V) (ts : List Int) : Prop :=
  if w = "table" then ∃ (b : V) (q : Addr), items = [b, .ref q] ∧ H q = some (.tup (ts.map V.int))
  else if w ∈ jcm then ∃ (t : Int) (f : V), items = [.int t, f] ∧ ts = [t]
  else if w ∈ zb then ∃ (b : V) (t : Int) (f : V), items = [b, .int t, f] ∧ ts = [t] else ts = []
/-- a row at r: its word, its targets -/
def RowAt (H : Hp) (r : Addr) (w : Str) (ts : List Int) : Prop := ∃ items, H r = some (.tup (.str w :: items)) ∧ Parts H w items ts
def kinds : List (Str × List Str) := [("stop", []), ("back", []), ("halt", ["number"]), ("set", ["box", "value"]), ("more", ["box", "value"]), ("copy", ["box", "box"]), ("add", ["box", "box"]), ("less", ["box", "box"]), ("load", ["box", "box"]), ("keep", ["box", "box"]),
  ("tell", ["box"]), ("see", ["box", "number"]), ("put", ["box", "aside"]), ("take", ["box", "aside"]), ("jump", ["target", "far"]), ("zero", ["box", "target", "far"]), ("below", ["box", "target", "far"]), ("call", ["target", "far"]), ("mark", ["target", "far"]), ("table", ["box", "targets"])]
def five : List Str := ["jump", "call", "mark", "zero", "below"]
def six : List Str := ["set", "more", "put", "take", "see", "halt"]
def numK : List Str := ["number", "value", "aside"]
def heads : List (Str × Int) := [("stop", 0), ("back", 0), ("halt", 0), ("set", 0), ("more", 0), ("copy", 0), ("add", 0), ("less", 0), ("load", 0), ("keep", 0), ("tell", 0), ("see", 0), ("put", 0), ("take", 0), ("jump", 0), ("zero", 0), ("below", 0), ("call", 0), ("mark", 0), ("table", 0), ("jump", 1), ("zero", 1), ("below", 1), ("call", 1), ("mark", 1)]
/-- what the walk asks of the module -/
structure Txt (K : PySem.W.Frag) (pr : Params) (mg : Str → Option Value) : Prop where
  prt : ∃ p, mg "PARTS" = some (.ref p) ∧ ∀ x ∈ kinds, ∃ q, KHas K pr p x.1 (some (.ref q)) ∧ ∀ H, SqT K H q (x.2.map V.str)
  two : ∃ p, mg "TWO_UNITS" = some (.ref p) ∧ ∀ H, SqT K H p (six.map V.str)
  ls : ∃ t, mg "LEAST_SHORT" = some (.int (-64) t)
  gs : ∃ t, mg "GREATEST_SHORT" = some (.int 63 t)
  cst : ∃ t, mg "CODE_STEP" = some (.int 1024 t)
  bst : ∃ t, mg "BOX_STEP" = some (.int 128 t)
  sad : ∃ t, mg "SHORT_ADDED" = some (.int 64 t)
  nks : ∃ p, mg "NUMBER_KINDS" = some (.ref p) ∧ ∀ H, SqT K H p (numK.map V.str)
  hds : ∃ p, mg "HEADS" = some (.ref p) ∧ (∃ o, K.lookup p = some o ∧ o.cls = .type "tuple" ∧ o.dict = none) ∧ ∀ H, ∃ qs : List Addr, SqT K H p (qs.map V.ref) ∧ qs.length = heads.length ∧ ∀ (i : Nat) q h, qs[i]? = some q → heads[i]? = some h → SqT K H q [.str h.1, .int h.2]
  mro : ∃ t, mg "MOST_ROWS_OVER" = some (.int 64 t)
  len : mg "len" = none
  list : mg "list" = none
  tuple : mg "tuple" = none
  int : mg "int" = none
  enum : mg "enumerate" = none
  range : mg "range" = none
  min : mg "min" = none
  max : mg "max" = none
  zip : mg "zip" = none
/-- how many parts a word has -/
def ksOf (u : Str) : List Str := ((kinds.find? fun x => x.1 == u).map (·.2)).getD []
def arI (u : Str) : Nat := (ksOf u).length
theorem small_len {n : Nat} (h : n ≤ 1000000) : n ≤ sizeLine := Nat.le_trans h (by decide)
theorem small_lt {n : Nat} (h : n ≤ 1000000) : n < sizeLine := Nat.lt_of_le_of_lt h (by decide)
/-! ### rows as data: word, numbers, targets -/
structure FR where
  u : Str
  is : List Int
  ts : List Int
/-- numbers and targets by the word -/
def FR.Ok (d : FR) : Prop := d.u ∈ all20 ∧ (d.u = "table" → ∃ b, d.is = [b]) ∧ (d.u ∈ jcm → ∃ t f, d.is = [t, f] ∧ d.ts = [t]) ∧ (d.u ∈ zb → ∃ b t f, d.is = [b, t, f] ∧ d.ts = [t]) ∧
  (¬ d.u = "table" → ¬ d.u ∈ jcm → ¬ d.u ∈ zb → d.ts = [] ∧ d.is.length = arI d.u) ∧ (d.u ∈ w2 → ∃ b c, d.is = [b, c]) ∧ (d.u ∈ w1 → ∃ b r, d.is = b :: r)
def FRAt (H : Hp) (q : Addr) (d : FR) : Prop := (d.u = "table" ∧ ∃ b p, d.is = [b] ∧ H q = some (.tup [.str d.u, .int b, .ref p]) ∧ H p = some (.tup (d.ts.map V.int))) ∨ (¬ d.u = "table" ∧ H q = some (.tup (.str d.u :: d.is.map V.int)))
def RowF (H : Hp) (q : Addr) (d : FR) : Prop := d.Ok ∧ FRAt H q d
theorem RowF.same {H H' : Hp} {q : Addr} {d : FR} (s : Same H H') (h : RowF H q d) : RowF H' q d := by
  obtain ⟨o, h⟩ := h
  refine ⟨o, ?_⟩
  rcases h with ⟨a, b, p, e, h1, h2⟩ | ⟨a, h1⟩
  · exact .inl ⟨a, b, p, e, s _ _ h1, s _ _ h2⟩
  · exact .inr ⟨a, s _ _ h1⟩
/-- what the functions of rows ask for -/
theorem RowF.parts {H : Hp} {q : Addr} {d : FR} (h : RowF H q d) : ∃ items, H q = some (.tup (.str d.u :: items)) ∧ ItemsOk d.u items ∧ Parts H d.u items d.ts ∧ ∀ (i : Nat) (b : Int), (d.u ∈ w1 ∨ d.u ∈ w2) → i < 2 → (d.u ∈ w1 → i = 0) → (items[i]? = some (.int b) ↔ d.is[i]? = some b) := by
  obtain ⟨⟨hu, h1, h2, h3, h4, h5, h6⟩, h⟩ := h
  rcases h with ⟨a, b, p, e, g1, g2⟩ | ⟨a, g1⟩
  · refine ⟨_, g1, ItemsOk.one (by rw [a]; decide), ?_, fun i b' _ hi hw => ?_⟩
    · unfold Parts
      rw [if_pos a]
      exact ⟨_, p, rfl, g2⟩
    · have : i = 0 := hw (by rw [a]; decide)
      subst this
      rw [e]
      simp
  · refine ⟨_, g1, ⟨fun z => ?_, fun z => ?_⟩, ?_, fun i b' _ hi hw => ?_⟩
    · obtain ⟨b, c, e⟩ := h5 z
      exact ⟨b, c, by rw [e]; rfl⟩
    · obtain ⟨b, r, e⟩ := h6 z
      exact ⟨b, r.map V.int, by rw [e]; rfl⟩
    · unfold Parts
      rw [if_neg a]
      split
      · rename_i z
        obtain ⟨t, f, e1, e2⟩ := h2 z
        exact ⟨t, .int f, by rw [e1]; rfl, e2⟩
      · rename_i z1
        split
        · rename_i z
          obtain ⟨b, t, f, e1, e2⟩ := h3 z
          exact ⟨.int b, t, .int f, by rw [e1]; rfl, e2⟩
        · rename_i z2
          exact (h4 a z1 z2).1
    · rw [List.getElem?_map, Option.map_eq_some_iff]
      exact ⟨fun ⟨y, e1, e2⟩ => by cases e2; exact e1, fun e => ⟨b', e, rfl⟩⟩
/-- the rows of a list -/
def RowsF (H : Hp) (lr : Addr) (ds : List FR) : Prop := ∃ qs : List Addr, H lr = some (.lst (qs.map V.ref)) ∧ qs.length = ds.length ∧ ∀ (i : Nat) q d, qs[i]? = some q → ds[i]? = some d → RowF H q d
theorem RowsF.same {H H' : Hp} {lr : Addr} {ds : List FR} (s : Same H H') (h : RowsF H lr ds) : RowsF H' lr ds := by
  obtain ⟨qs, a, b, c⟩ := h
  exact ⟨qs, s _ _ a, b, fun i q d h1 h2 => (c i q d h1 h2).same s⟩
theorem RowsF.get {H : Hp} {lr : Addr} {ds : List FR} {r : Nat} {d : FR} (h : RowsF H lr ds) (hd : ds[r]? = some d) : ∃ (qs : List Addr) (q : Addr), H lr = some (.lst (qs.map V.ref)) ∧ atI (qs.map V.ref) (r : Int) = some (.ref q) ∧ (qs.map V.ref)[r]? = some (.ref q) ∧ RowF H q d := by
  obtain ⟨qs, a, b, c⟩ := h
  have hr := (List.getElem?_eq_some_iff.mp hd).1
  have hq : qs[r]? = some (qs[r]'(by omega)) := List.getElem?_eq_getElem _
  have hq' : (qs.map V.ref)[r]? = some (.ref (qs[r]'(by omega))) := by rw [List.getElem?_map, hq]; rfl
  exact ⟨qs, _, a, atI_nat hq', hq', c r _ d hq hd⟩
def isStar : Expr → Bool
  | .Starred _ _ => true
  | _ => false
theorem star_no {e : Expr} {es : List Expr} {env : Env} (h : isStar e = false) : starEach (e :: es) env = (false, eval e env) :: starEach es env := starEach.eq_3 _ _ _ (fun e1 p h1 => by rw [h1] at h; cases h)
/-! ### a display of many things: its parts shut off one by one -/
inductive PAs (X : Cx) : List Expr → List TE → Prop where
  | nil : PAs X [] []
  | cons {e : Expr} {te : TE} {es : List Expr} {ts : List TE} (h : PE X e te) (r : PAs X es ts) (hs : isStar e = false := by rfl) : PAs X (e :: es) (te :: ts)
def tAll : List TE → TA
  | [] => tNil
  | te :: ts => tCons te (tAll ts)
theorem PAs.pa {X : Cx} {es : List Expr} {ts : List TE} (h : PAs X es ts) : PA X es (tAll ts) := by
  induction h with
  | nil => exact pa_nil
  | cons h r hs ih => exact pa_cons h ih (star_no hs)
theorem pe_lstS {X : Cx} {es : List Expr} {ts : List TE} {pos : Pos} (h : PAs X es ts) : PE X (.List es pos) (tLst (tAll ts)) := pe_lst h.pa
/-! ### a display of many constants: shut off, else the reading of the goal runs through it -/
@[irreducible] def PEi (X : Cx) (e : Expr) (t : TE) : Prop := PE X e t
@[irreducible] def PSi (X : Cx) (e : Stmt) (t : TS) : Prop := PS X e t
theorem pei_lst {X : Cx} {es : List Expr} {ts : List TE} {pos : Pos} (h : PAs X es ts) : PEi X (.List es pos) (tLst (tAll ts)) := by
  unfold PEi
  exact pe_lst h.pa
theorem psi_set {X : Cx} {pos : Pos} {i : Nat} {x : Str} {e : Expr} {te : TE} {pos' : Pos} (hN : X.N.Nodup) (hi : X.N[i]? = some x) (hx : Loc X.env.scope x) (he : PEi X e te) (hs : swapsWith e (some (.Name x pos')) pos.line X.env = pure false := by rfl) (hf : X.fn x = true ∨ X.env.scope.names.lookup x = some .local := by first | exact .inl rfl | exact .inr rfl | assumption) :
    PSi X (.Assign [.Name x pos'] e pos) (tAsg te (gName i)) := by
  unfold PEi at he
  unfold PSi
  exact ps_set hN hi hx he hs hf
theorem psx_of_i {X : Cx} {st : Stmt} {t : TS} (h : PSi X st t) : PSx X st t := by
  unfold PSi at h
  exact psx_of h
theorem iteP {c A B : Prop} [Decidable c] (h : c) (a : A) : if c then A else B := by rw [if_pos h]; exact a
theorem iteN {c A B : Prop} [Decidable c] (h : ¬ c) (b : B) : if c then A else B := by rw [if_neg h]; exact b
def farF (d : FR) : Int := d.is.getLastD 0
def szF (d : FR) : Int := if d.u = "table" then 2 + d.ts.length else if d.u ∈ five then 1 + farF d else if d.u ∈ six then 2 else 1
theorem five_row {H : Hp} {q : Addr} {d : FR} (h : RowF H q d) (hu : d.u ∈ five) : ¬ d.u = "table" ∧ H q = some (.tup (.str d.u :: d.is.map V.int)) ∧ atI (V.str d.u :: d.is.map V.int) (-1) = some (.int (farF d)) ∧ ∃ t, d.ts = [t] ∧ atI (V.str d.u :: d.is.map V.int) (-2) = some (.int t) := by
  have nt : ¬ d.u = "table" := fun z => absurd hu (by rw [z]; decide)
  have hc := (by decide +kernel : ∀ u ∈ five, u ∈ jcm ∨ u ∈ zb) _ hu
  rcases h.2 with ⟨z, _⟩ | ⟨_, e⟩
  · exact absurd z nt
  · refine ⟨nt, e, ?_⟩
    unfold farF
    rcases hc with z | z
    · obtain ⟨t, f, e1, e2⟩ := h.1.2.2.1 z
      rw [e1]
      exact ⟨rfl, t, e2, rfl⟩
    · obtain ⟨b, t, f, e1, e2⟩ := h.1.2.2.2.1 z
      rw [e1]
      exact ⟨rfl, t, e2, rfl⟩
theorem kinds_far : ∀ x ∈ kinds, (decide (("far" : Str) ∈ x.2)) = decide (x.1 ∈ five) := by decide +kernel
theorem kinds_all : ∀ u ∈ all20, ∃ ks, (u, ks) ∈ kinds := fun u hu => by
  have : u ∈ kinds.map (·.1) := (by decide +kernel : ∀ u ∈ all20, u ∈ kinds.map (·.1)) u hu
  obtain ⟨x, hx, rfl⟩ := List.mem_map.mp this
  exact ⟨x.2, hx⟩
end My


set_option Elab.async false
set_option linter.all false
set_option maxRecDepth 100000
set_option maxHeartbeats 4000000
namespace My
open PySem L2
section
variable {P : Program} {w : World} {K : PySem.W.Frag} {mg : Str → Option Value} {base : Heap}
/-! ### targets_of -/
def spTargets : Sp := fun vs H Q _ => ∃ (r : Addr) (w : Str) (ts : List Int), vs = [.ref r] ∧ RowAt H r w ts ∧ ∀ (l : Addr) (H' : Hp), Same H H' → H l = none → H' l = some (.lst (ts.map V.int)) → Q (.ref l) H'
theorem scTargets : FnScope ["row", "word"] ["row"] (defScope sTargets) := ⟨rfl, rfl, rfl, by decide +kernel, rfl, by decide +kernel, by decide +kernel⟩
theorem ok_targets {f : Addr} {fd : FuncData} (F : Fun K "targets_of" "targets_of" sTargets f fd) (T : Txt K w.params mg) : FnOk P w K mg base CX0 1 f fd ["row"] spTargets := by
  refine F.ok scTargets (fun vs H Q E h => ?_) (fun cdv A outer s H vs Q E hr h => ?_)
  · obtain ⟨r, w, ts, rfl, _⟩ := h
    rfl
  · obtain ⟨r, w', ts, rfl, ⟨items, hR, hP⟩, k⟩ := h
    refine ⟨_, pss_cons (ps_set (i := 1) scTargets.nd rfl (Or.inl rfl) (pe_ix ix_tup (pv 0) pe_int (fun _ _ => rfl)))
      (pss_cons (ps_if (pt_cmpR op_eq (pv 1) pe_str (nomark _)) (pss_one (ps_ret (pe_callTy call_list_of (by rfl) T.list bt_list (pa_cons (pe_ix ix_tup (pv 0) pe_int (fun _ _ => rfl)) pa_nil)))) pss_nil)
      (pss_cons (ps_if (pt_cmpR op_in_seq (pv 1) (pe_tup (pa_cons pe_str (pa_cons pe_str (pa_cons pe_str pa_nil)))) rfl) (pss_one (ps_ret (pe_lst (pa_cons (pe_ix ix_tup (pv 0) pe_int (fun _ _ => rfl)) pa_nil)))) pss_nil)
      (pss_cons (ps_if (pt_cmpR op_in_seq (pv 1) (pe_tup (pa_cons pe_str (pa_cons pe_str pa_nil))) rfl) (pss_one (ps_ret (pe_lst (pa_cons (pe_ix ix_tup (pv 0) pe_int (fun _ _ => rfl)) pa_nil)))) pss_nil)
      (pss_one (ps_ret (pe_lst pa_nil)))))), ?_⟩
    refine ⟨_, rfl, r, _, 0, .str w', rfl, rfl, SqT.of hR, at0 _ _, _, rfl, rfl, _, rfl, ?_⟩
    refine ite2 (fun h1 => ?_) (fun h1 => ?_)
    · have h1 := strEq h1
      unfold Parts at hP
      rw [if_pos h1] at hP
      obtain ⟨b, q, rfl, hq⟩ := hP
      refine ⟨_, rfl, r, _, 2, .ref q, rfl, rfl, SqT.of hR, at2 _ _ _ _, q, _, rfl, .inr (SqT.of hq), fun l hl => ?_⟩
      exact k l _ (same_new hl) hl upd_same
    · have h1 := strNe h1
      unfold Parts at hP
      rw [if_neg h1] at hP
      refine ⟨_, rfl, (by show 3 ≤ sizeLine; decide), fun t ht => ⟨t, jcm.map V.str, rfl, .inr (SqT.of upd_same), rfl, rfl, _, rfl, ?_⟩⟩
      have s1 := same_new (o := .tup (jcm.map V.str)) ht
      have hR1 := s1 _ _ hR
      rw [show inV (.str w') (jcm.map V.str) = decide (w' ∈ jcm) from inV_str _ _]
      refine ite2 (fun h2 => ?_) (fun h2 => ?_)
      · have h2 := of_decide_eq_true h2
        rw [if_pos h2] at hP
        obtain ⟨t', f', rfl, rfl⟩ := hP
        refine ⟨_, rfl, r, _, 1, .int t', rfl, rfl, SqT.of hR1, at1 _ _ _, (by show 1 ≤ sizeLine; decide), fun l hl => ?_⟩
        exact k l _ (s1.trans (same_new hl)) (s1.free hl) upd_same
      · have h2 : ¬ w' ∈ jcm := fun e => h2 (decide_eq_true e)
        rw [if_neg h2] at hP
        refine ⟨_, rfl, (by show 2 ≤ sizeLine; decide), fun t2 ht2 => ⟨t2, zb.map V.str, rfl, .inr (SqT.of upd_same), rfl, rfl, _, rfl, ?_⟩⟩
        have s2 := s1.trans (same_new (o := .tup (zb.map V.str)) ht2)
        have hR2 := s2 _ _ hR
        rw [show inV (.str w') (zb.map V.str) = decide (w' ∈ zb) from inV_str _ _]
        refine ite2 (fun h3 => ?_) (fun h3 => ?_)
        · have h3 := of_decide_eq_true h3
          rw [if_pos h3] at hP
          obtain ⟨b, t', f', rfl, rfl⟩ := hP
          refine ⟨_, rfl, r, _, 2, .int t', rfl, rfl, SqT.of hR2, at2 _ _ _ _, (by show 1 ≤ sizeLine; decide), fun l hl => ?_⟩
          exact k l _ (s2.trans (same_new hl)) (s2.free hl) upd_same
        · have h3 : ¬ w' ∈ zb := fun e => h3 (decide_eq_true e)
          rw [if_neg h3] at hP
          subst hP
          refine ⟨(by show 0 ≤ sizeLine; decide), fun l hl => ?_⟩
          exact k l _ (s2.trans (same_new hl)) (s2.free hl) upd_same
/-! ### has_far -/
def spFar : Sp := fun vs H Q _ => ∃ u : Str, vs = [.str u] ∧ u ∈ all20 ∧ Q (.bl (decide (u ∈ five))) H
theorem scFar : FnScope ["word"] ["word"] (defScope sHasFar) := ⟨rfl, rfl, rfl, by decide +kernel, rfl, by decide +kernel, by decide +kernel⟩
theorem ok_far {f : Addr} {fd : FuncData} (F : Fun K "has_far" "has_far" sHasFar f fd) (T : Txt K w.params mg) : FnOk P w K mg base CX0 1 f fd ["word"] spFar := by
  refine F.ok scFar (fun vs H Q E h => ?_) (fun cdv A outer s H vs Q E hr h => ?_)
  · obtain ⟨u, rfl, _⟩ := h
    rfl
  · obtain ⟨u, rfl, hu, k⟩ := h
    obtain ⟨ks, hks⟩ := kinds_all u hu
    obtain ⟨p, hp, hk⟩ := T.prt
    obtain ⟨q, hq, hS⟩ := hk _ hks
    refine ⟨_, (pss_one (ps_ret (pe_cmpR op_in_seq pe_str (pe_kget (pe_glob (v := .ref p) (by rfl) hp rfl) (pv 0) (fun _ _ => rfl)) rfl))), ?_⟩
    refine ⟨_, rfl, p, u, _, rfl, rfl, hq, q, ks.map V.str, rfl, .inr (hS _), rfl, (by rw [List.all_map]; exact List.all_eq_true.mpr fun _ _ => rfl), ?_⟩
    show Q (.bl (inV (.str "far") (ks.map V.str))) H
    rw [inV_str, kinds_far _ hks]
    exact k
/-! ### size_of -/
def spSize : Sp := fun vs H Q _ => ∃ (q : Addr) (d : FR), vs = [.ref q] ∧ RowF H q d ∧ Q (.int (szF d)) H
theorem scSize : FnScope ["row", "word"] ["row"] (defScope sSize) := ⟨rfl, rfl, rfl, by decide +kernel, rfl, by decide +kernel, by decide +kernel⟩
theorem ok_size {f fH : Addr} {fd fdH : FuncData} (F : Fun K "size_of" "size_of" sSize f fd) (T : Txt K w.params mg) (GH : FnOk P w K mg base CX0 1 fH fdH ["word"] spFar) (kH : PySem.W.keepIn K (.ref fH) = true) (bH : Binds K fdH ["word"] []) (mH : mg "has_far" = some (.ref fH)) : FnOk P w K mg base CX0 2 f fd ["row"] spSize := by
  refine F.ok scSize (fun vs H Q E h => ?_) (fun cdv A outer s H vs Q E hr h => ?_)
  · obtain ⟨q, d, rfl, _⟩ := h
    rfl
  · obtain ⟨q, d, rfl, hR, k⟩ := h
    obtain ⟨p, hp, hq⟩ := T.two
    obtain ⟨items, i1, _, i3, _⟩ := hR.parts
    unfold szF at k
    refine ⟨_, (pss_cons (ps_set (i := 1) scSize.nd rfl (Or.inl rfl) (pe_ix ix_tup (pv 0) pe_int (fun _ _ => rfl)))
      (pss_cons (ps_if (pt_cmpR op_eq (pv 1) pe_str (nomark _)) (pss_one (ps_ret (pe_op op_add pe_int (pe_callB call_len_seq (by rfl) T.len bt_len (pa_cons (pe_ix ix_tup (pv 0) pe_int (fun _ _ => rfl)) pa_nil))))) pss_nil)
      (pss_cons (ps_if (pt_val (pe_call GH hr (by rfl) mH kH bH .nil pass0 (pa_cons (pv 1) pa_nil))) (pss_one (ps_ret (pe_op op_add pe_int (pe_ix ix_tup (pv 0) (pe_un un_neg pe_int) (fun _ _ => rfl))))) pss_nil)
      (pss_one (ps_ret (pe_ifExp (pt_cmpR op_in_seq (pv 1) (pe_glob (v := .ref p) (by rfl) hp rfl) rfl) pe_int pe_int)))))), ?_⟩
    refine ⟨_, rfl, q, _, 0, .str d.u, rfl, rfl, SqT.of i1, at0 _ _, _, rfl, rfl, _, rfl, ?_⟩
    refine ite2 (fun e => ?_) (fun e => ?_)
    · have e := strEq e
      rw [if_pos e] at k
      unfold Parts at i3
      rw [if_pos e] at i3
      obtain ⟨b, p3, rfl, h3⟩ := i3
      refine ⟨_, rfl, q, _, 2, _, rfl, rfl, SqT.of i1, at2 _ _ _ _, p3, _, rfl, .inr (SqT.of h3), _, _, rfl, rfl, ?_⟩
      rw [List.length_map]
      exact k
    · have e := strNe e
      rw [if_neg e] at k
      refine ⟨_, rfl, d.u, rfl, hR.1.1, _, rfl, ?_⟩
      refine ite2 (fun e2 => ?_) (fun e2 => ?_)
      · have e2 := of_decide_eq_true e2
        rw [if_pos e2] at k
        obtain ⟨_, g1, g2, _⟩ := five_row hR e2
        exact ⟨_, rfl, _, rfl, q, _, _, _, rfl, rfl, SqT.of g1, g2, _, _, rfl, rfl, k⟩
      · have e2 : ¬ d.u ∈ five := fun z => e2 (decide_eq_true z)
        rw [if_neg e2] at k
        refine ⟨_, rfl, p, six.map V.str, rfl, .inr (hq _), rfl, rfl, _, rfl, ?_⟩
        rw [show inV (.str d.u) (six.map V.str) = decide (d.u ∈ six) from inV_str _ _]
        refine ite2 (fun e3 => ?_) (fun e3 => ?_)
        · rw [if_pos (of_decide_eq_true e3)] at k
          exact k
        · rw [if_neg (fun z => e3 (decide_eq_true z))] at k
          exact k
/-! ### is_short_jump -/
def shortF (d : FR) : Bool := decide (d.u ∈ five) && decide (farF d = 0)
def spShJ : Sp := fun vs H Q _ => ∃ (q : Addr) (d : FR), vs = [.ref q] ∧ RowF H q d ∧ Q (.bl (shortF d)) H
theorem scShJ : FnScope ["row"] ["row"] (defScope sShortJ) := ⟨rfl, rfl, rfl, by decide +kernel, rfl, by decide +kernel, by decide +kernel⟩
theorem ok_shj {f fH : Addr} {fd fdH : FuncData} (F : Fun K "is_short_jump" "is_short_jump" sShortJ f fd) (T : Txt K w.params mg) (GH : FnOk P w K mg base CX0 1 fH fdH ["word"] spFar) (kH : PySem.W.keepIn K (.ref fH) = true) (bH : Binds K fdH ["word"] []) (mH : mg "has_far" = some (.ref fH)) : FnOk P w K mg base CX0 2 f fd ["row"] spShJ := by
  refine F.ok scShJ (fun vs H Q E h => ?_) (fun cdv A outer s H vs Q E hr h => ?_)
  · obtain ⟨q, d, rfl, _⟩ := h
    rfl
  · obtain ⟨q, d, rfl, hR, k⟩ := h
    obtain ⟨items, i1, _, i3, _⟩ := hR.parts
    unfold shortF at k
    refine ⟨_, (pss_one (ps_ret (pe_and (pe_call GH hr (by rfl) mH kH bH .nil pass0 (pa_cons (pe_ix ix_tup (pv 0) pe_int (fun _ _ => rfl)) pa_nil)) (pe_one (pe_cmpR op_eq (pe_ix ix_tup (pv 0) (pe_un un_neg pe_int) (fun _ _ => rfl)) pe_int (nomark _)))))), ?_⟩
    refine ⟨_, rfl, q, _, 0, .str d.u, rfl, rfl, SqT.of i1, at0 _ _, d.u, rfl, hR.1.1, _, rfl, ?_⟩
    refine ite2 (fun e => ?_) (fun e => ?_)
    · have e := of_decide_eq_true e
      obtain ⟨_, g1, g2, _⟩ := five_row hR e
      refine ⟨_, rfl, _, rfl, q, _, _, _, rfl, rfl, SqT.of g1, g2, rfl, ?_⟩
      rw [decide_eq_true e, Bool.true_and] at k
      have : decide (V.int (farF d) = V.int 0) = decide (farF d = 0) := decide_eq_decide.mpr ⟨V.int.inj, fun z => by rw [z]⟩
      rw [this]
      exact k
    · have e : decide (d.u ∈ five) = false := Bool.eq_false_iff.mpr e
      rw [e, Bool.false_and] at k
      exact k
/-! ### is_borne -/
def borneF (x : Int) : Bool := decide (-64 ≤ x ∧ x ≤ 63)
def spBorne : Sp := fun vs H Q _ => ∃ x : Int, vs = [.int x] ∧ Q (.bl (borneF x)) H
theorem scBorne : FnScope ["distance"] ["distance"] (defScope sBorne) := ⟨rfl, rfl, rfl, by decide +kernel, rfl, by decide +kernel, by decide +kernel⟩
theorem ok_borne {f : Addr} {fd : FuncData} (F : Fun K "is_borne" "is_borne" sBorne f fd) (T : Txt K w.params mg) : FnOk P w K mg base CX0 1 f fd ["distance"] spBorne := by
  refine F.ok scBorne (fun vs H Q E h => ?_) (fun cdv A outer s H vs Q E hr h => ?_)
  · obtain ⟨x, rfl, _⟩ := h
    rfl
  · obtain ⟨x, rfl, k⟩ := h
    obtain ⟨t1, h1⟩ := T.ls
    obtain ⟨t2, h2⟩ := T.gs
    refine ⟨_, (pss_one (ps_ret (pe_chain op_le op_le (pe_glob (v := .int (-64)) (by rfl) h1 ⟨_, rfl⟩) (pv 0) (pe_glob (v := .int 63) (by rfl) h2 ⟨_, rfl⟩)))), ?_⟩
    refine ⟨_, rfl, ?_⟩
    unfold borneF at k
    refine ⟨_, _, rfl, rfl, _, rfl, ?_⟩
    refine ite2 (fun e => ⟨_, _, rfl, rfl, ?_⟩) (fun e => ?_)
    · have : decide (-64 ≤ x ∧ x ≤ 63) = decide (x ≤ 63) := decide_eq_decide.mpr ⟨fun z => z.2, fun z => ⟨of_decide_eq_true e, z⟩⟩
      rw [this] at k
      exact k
    · rw [decide_eq_false (fun z => e (decide_eq_true z.1))] at k
      exact k
end
end My


set_option Elab.async false
set_option linter.all false
set_option maxRecDepth 100000
set_option maxHeartbeats 4000000
namespace My
open PySem L2
/-! ### where the rows begin -/
def beg (ds : List FR) (j : Nat) : Int := ((ds.take j).map szF).sum
def begs (ds : List FR) (n : Nat) : List Int := (List.range (n + 1)).map (beg ds)
theorem beg_succ {ds : List FR} {j : Nat} {d : FR} (h : ds[j]? = some d) : beg ds (j + 1) = beg ds j + szF d := by
  unfold beg
  rw [List.take_add_one, h, List.map_append, List.sum_append]
  simp
theorem begs_succ (ds : List FR) (n : Nat) : begs ds (n + 1) = begs ds n ++ [beg ds (n + 1)] := by
  unfold begs
  rw [List.range_succ, List.map_append]
  rfl
theorem begs_len (ds : List FR) (n : Nat) : (begs ds n).length = n + 1 := by unfold begs; rw [List.length_map, List.length_range]
theorem begs_at {ds : List FR} {n j : Nat} (h : j ≤ n) : (begs ds n)[j]? = some (beg ds j) := by
  unfold begs
  rw [List.getElem?_map, List.getElem?_range (by omega)]
  rfl
theorem atI_m1 {α : Type} {xs : List α} {y : α} (h : xs[xs.length - 1]? = some y) : atI xs (-1) = some y := by
  have h1 := (List.getElem?_eq_some_iff.mp h).1
  have h0 : xs.length ≠ 0 := fun z => by rw [z] at h1; exact absurd h1 (Nat.not_lt_zero _)
  unfold atI ixN
  rw [if_neg (by decide), if_pos (by omega), show ((-1 : Int) + (xs.length : Int)).toNat = xs.length - 1 by omega]
  exact h
section
variable {P : Program} {w : World} {K : PySem.W.Frag} {mg : Str → Option Value} {base : Heap}
def spBegins : Sp := fun vs H Q _ => ∃ (lr : Addr) (ds : List FR), vs = [.ref lr] ∧ RowsF H lr ds ∧ ds.length ≤ 100000 ∧ ∀ (l : Addr) (H' : Hp), Same H H' → H l = none → H' l = some (.lst ((begs ds ds.length).map V.int)) → Q (.ref l) H'
theorem scBeg : FnScope ["rows", "begins", "row"] ["rows"] (defScope sBegins) := ⟨rfl, rfl, rfl, by decide +kernel, rfl, by decide +kernel, by decide +kernel⟩
theorem ok_begins {f fS : Addr} {fd fdS : FuncData} (F : Fun K "begins_of" "begins_of" sBegins f fd) (T : Txt K w.params mg) (GS : FnOk P w K mg base CX0 2 fS fdS ["row"] spSize) (kS : PySem.W.keepIn K (.ref fS) = true) (bS : Binds K fdS ["row"] []) (mS : mg "size_of" = some (.ref fS)) : FnOk P w K mg base CX0 3 f fd ["rows"] spBegins := by
  refine F.ok scBeg (fun vs H Q E h => ?_) (fun cdv A outer s H vs Q E hr h => ?_)
  · obtain ⟨lr, ds, rfl, _⟩ := h
    rfl
  · obtain ⟨lr, ds, rfl, hR, hn, k⟩ := h
    obtain ⟨qs, r1, r2, r3⟩ := hR
    refine ⟨_, (pss_cons (ps_set (i := 1) scBeg.nd rfl (Or.inl rfl) (pe_lst (pa_cons pe_int pa_nil)))
      (pss_cons (ps_for PassesOwn.never rfl (pi_list (pv 0)) (pg_name (i := 2) scBeg.nd rfl (Or.inl rfl)) (pss_one (ps_expr (pe_bm PySem.F.plainAttrs_list PySem.F.slot_list_append PySem.F.type_list_append mt_append (pv 1) (pa_cons (pe_op op_add (pe_ix ix_list (pv 1) (pe_un un_neg pe_int) (fun _ _ => rfl)) (pe_call GS hr (by rfl) mS kS bS .nil pass0 (pa_cons (pv 2) pa_nil))) pa_nil)))))
      (pss_one (ps_ret (pv 1))))), ?_⟩
    refine ⟨by decide, fun l nl => ?_⟩
    refine ⟨_, rfl, lr, rfl, ⟨_, SqL.of (same_new nl _ _ r1)⟩, for_list (K := K) (a := lr) (xs := qs.map V.ref) (fun i σ G => i ≤ ds.length ∧ ∃ v : Option V, σ = [some (.ref lr), some (.ref l), v] ∧ Same H G ∧ G l = some (.lst ((begs ds i).map V.int))) ?_ ?_ ?_ ?_⟩
    · exact ⟨Nat.zero_le _, none, rfl, same_new nl, upd_same⟩
    · rintro i σ G _ ⟨_, v, rfl, s1, _⟩
      exact SqL.of (s1 _ _ r1)
    · rintro i x σ G hx ⟨hi, v, rfl, s1, hl⟩
      rw [List.getElem?_map] at hx
      obtain ⟨q, hq, rfl⟩ := Option.map_eq_some_iff.mp hx
      have hil : i < ds.length := by have := (List.getElem?_eq_some_iff.mp hq).1; omega
      have hd : ds[i]? = some ds[i] := List.getElem?_eq_getElem hil
      generalize ds[i] = d at hd
      refine ⟨_, rfl, .inl ⟨rfl, _, SqL.of hl⟩, _, rfl, _, rfl, l, _, -1, .int (beg ds i), rfl, rfl, SqL.of hl, atI_m1 (by rw [List.length_map, begs_len, List.getElem?_map]; show Option.map _ ((begs ds i)[i]?) = _; rw [begs_at (Nat.le_refl _)]; rfl), _, rfl, q, d, rfl, (r3 i q d hq hd).same s1, _, _, rfl, rfl, l, _, _, rfl, rfl, hl, small_lt (by rw [List.length_map, begs_len]; omega), ?_⟩
      refine ⟨hil, _, rfl, same_put s1 nl, ?_⟩
      rw [upd_same, begs_succ, beg_succ hd, List.map_append]
      rfl
    · rintro σ G ⟨_, v, rfl, s1, hl⟩
      rw [List.length_map, r2] at hl
      exact ⟨_, rfl, k l _ s1 nl hl⟩
/-! ### distances_of -/
def dstT (ds : List FR) (r : Nat) (t : Int) : Int := beg ds t.toNat - beg ds (r + 1)
def spDists : Sp := fun vs H Q _ => ∃ (lr lb : Addr) (ds : List FR) (r : Nat) (d : FR), vs = [.ref lr, .ref lb, .int (r : Int)] ∧ RowsF H lr ds ∧ H lb = some (.lst ((begs ds ds.length).map V.int)) ∧ ds[r]? = some d ∧ (∀ t ∈ d.ts, 0 ≤ t ∧ t < ds.length) ∧ d.ts.length ≤ 16 ∧ ∀ (l : Addr) (H' : Hp), Same H H' → H l = none → H' l = some (.lst ((d.ts.map (dstT ds r)).map V.int)) → Q (.ref l) H'
theorem scDis : FnScope ["rows", "begins", "r"] ["rows", "begins", "r"] (defScope sDists) := ⟨rfl, rfl, rfl, by decide +kernel, rfl, by decide +kernel, by decide +kernel⟩
def csDisC1 : Scope := { kind := .function, names := [(".0", .local), ("target", .local), ("begins", .free), ("r", .free)], isGenerator := false, isCoroutine := false, more := [] }
theorem scDisC1 : CompSc (defScope sDists) csDisC1 ["rows", "begins", "r"] ["target", "begins", "r"] [none, some 1, some 2] := ⟨rfl, by decide +kernel, by decide +kernel, by decide +kernel, by decide +kernel, by decide +kernel⟩
theorem ok_dists {f fT : Addr} {fd fdT : FuncData} (F : Fun K "distances_of" "distances_of" sDists f fd) (T : Txt K w.params mg) (GT : FnOk P w K mg base CX0 1 fT fdT ["row"] spTargets) (kT : PySem.W.keepIn K (.ref fT) = true) (bT : Binds K fdT ["row"] []) (mT : mg "targets_of" = some (.ref fT)) : FnOk P w K mg base CX0 2 f fd ["rows", "begins", "r"] spDists := by
  refine F.ok scDis (fun vs H Q E h => ?_) (fun cdv A outer s H vs Q E hr h => ?_)
  · obtain ⟨lr, lb, ds, r, d, rfl, _⟩ := h
    rfl
  · obtain ⟨lr, lb, ds, r, d, rfl, hR, hb, hd, ht, h16, k⟩ := h
    obtain ⟨qs, q, g1, g2, g2', g3⟩ := hR.get hd
    obtain ⟨items, i1, _, i3, _⟩ := g3.parts
    have hrl := (List.getElem?_eq_some_iff.mp hd).1
    refine ⟨_, (pss_one (ps_ret (pe_comp (N' := ["target", "begins", "r"]) (fr := [none, some 1, some 2]) scDisC1 rfl (pi_list (pe_call GT hr (by rfl) mT kT bT .nil pass0 (pa_cons (pe_ix ix_list (pv 0) (pv 2) (fun _ _ => rfl)) pa_nil))) (fun C s0 H0 fp => (pg_name (i := 0) scDisC1.nd rfl (Or.inl rfl))) (fun C s0 H0 fp => pts_nil) (fun C s0 H0 fp => (pe_op op_sub (pe_ix (r := rIxL K) ix_list (pv 1) (pv 0) (fun _ _ => rfl)) (pe_ix (r := rIxL K) ix_list (pv 1) (pe_op op_add (pv 2) pe_int) (fun _ _ => rfl))))))), ?_⟩
    refine ⟨_, rfl, _, rfl, lr, _, _, _, rfl, rfl, SqL.of g1, g2, q, d.u, d.ts, rfl, ⟨items, i1, i3⟩, fun l H1 s1 nl hl => ?_⟩
    refine ⟨l, rfl, ⟨_, SqL.of hl⟩, fun D nD => comp_list (K := K) (a := l) (xs := d.ts.map V.int) (fun j σ ys G => ∃ v : Option V, σ = [v, some (.ref lb), some (.int (r : Int))] ∧ ys = ((d.ts.take j).map (dstT ds r)).map V.int ∧ Same H1 G ∧ G D = some (.lst ys)) ?_ ?_ ?_ ?_⟩
    · exact ⟨none, rfl, rfl, same_new nD, upd_same⟩
    · rintro j σ ys G _ ⟨v, rfl, rfl, s2, _⟩
      exact SqL.of (s2 _ _ hl)
    · rintro j x σ ys G hx ⟨v, rfl, rfl, s2, hD⟩
      rw [List.getElem?_map] at hx
      obtain ⟨t, htj, rfl⟩ := Option.map_eq_some_iff.mp hx
      have hjl := (List.getElem?_eq_some_iff.mp htj).1
      obtain ⟨t0, t1⟩ := ht t (List.mem_of_getElem? htj)
      obtain ⟨tn, rfl⟩ := Int.eq_ofNat_of_zero_le t0
      have hb2 := s2 _ _ (s1 _ _ hb)
      have rd : ∀ n : Nat, n ≤ ds.length → atI ((begs ds ds.length).map V.int) (n : Int) = some (.int (beg ds n)) := fun n hn => atI_nat (by rw [List.getElem?_map, begs_at hn]; rfl)
      refine ⟨_, rfl, _, rfl, lb, _, _, _, rfl, rfl, SqL.of hb2, rd tn (by omega), _, rfl, _, rfl, _, _, rfl, rfl, lb, _, _, _, rfl, rfl, SqL.of hb2, rd (r + 1) (by omega), _, _, rfl, rfl, hD, small_lt (by rw [List.length_map, List.length_map, List.length_take]; omega), _, rfl, ?_, same_put s2 nD, upd_same⟩
      rw [List.take_add_one, htj, List.map_append, List.map_append]
      rfl
    · rintro σ ys G ⟨v, rfl, rfl, s2, hD⟩
      rw [List.length_map, List.take_length] at hD
      exact k D _ (s1.trans s2) (s1.free nD) hD
end
end My


set_option Elab.async false
set_option linter.all false
set_option maxRecDepth 100000
set_option maxHeartbeats 4000000
namespace My
open PySem L2
theorem pg_two {X : Cx} {K : PySem.W.Frag} (hK : X.K = K) {i j : Nat} {x y : Str} {px py pt : Pos} {k : Nat} (hc : X.calm = true) (hN : X.N.Nodup) (hi : X.N[i]? = some x) (hx : Loc X.env.scope x) (hj : X.N[j]? = some y) (hy : Loc X.env.scope y)
    (hf : X.fn x = true ∨ X.env.scope.names.lookup x = some .local := by first | exact .inl rfl | exact .inr rfl) (hf2 : X.fn y = true ∨ X.env.scope.names.lookup y = some .local := by first | exact .inl rfl | exact .inr rfl) :
    PG X (.Tuple [.Name x px, .Name y py] k pt) (gTup K 2 (gCons (gName i) (gCons (gName j) gNil))) := hK ▸ pg_tup (n := 2) hc (pgs_cons (pg_name hN hi hx hf) (pgs_cons (pg_name hN hj hy hf2) pgs_nil))
/-! ### the short jumps' distances -/
def dst (ds : List FR) (r : Nat) (d : FR) : Int := dstT ds r (d.ts.headD 0)
def shAt (ds : List FR) (r : Nat) : Option (Nat × Int) := match ds[r]? with
  | some d => if shortF d = true then some (r, dst ds r d) else none
  | none => none
def shL (ds : List FR) (n : Nat) : List (Nat × Int) := (List.range n).filterMap (shAt ds)
def dKof (kv : List (Nat × Int)) : List (Key × V) := kv.map fun x => ((Sum.inl (x.1 : Int) : Key), V.int x.2)
theorem shL_succ (ds : List FR) (n : Nat) : shL ds (n + 1) = shL ds n ++ (shAt ds n).toList := by
  unfold shL
  rw [List.range_succ, List.filterMap_append]
  congr 1
theorem shL_lt {ds : List FR} {n : Nat} {x : Nat × Int} (h : x ∈ shL ds n) : x.1 < n := by
  unfold shL at h
  obtain ⟨r, h1, h2⟩ := List.mem_filterMap.mp h
  unfold shAt at h2
  split at h2
  · split at h2
    · cases h2
      exact List.mem_range.mp h1
    · cases h2
  · cases h2
theorem shL_len (ds : List FR) (n : Nat) : (shL ds n).length ≤ n := by
  unfold shL
  exact Nat.le_trans (List.length_filterMap_le _ _) (by rw [List.length_range]; exact Nat.le_refl _)
theorem dKof_put {kv : List (Nat × Int)} {r : Nat} {x : Int} (h : ∀ y ∈ kv, y.1 ≠ r) : putK (dKof kv) (Sum.inl (r : Int)) (.int x) = dKof (kv ++ [(r, x)]) := by
  unfold putK
  rw [if_neg]
  · unfold dKof
    rw [List.map_append]
    rfl
  · intro z
    obtain ⟨y, hy, e⟩ := List.any_eq_true.mp z
    unfold dKof at hy
    obtain ⟨y0, hy0, rfl⟩ := List.mem_map.mp hy
    have := of_decide_eq_true e
    have := Sum.inl.inj this
    exact h y0 hy0 (by omega)
theorem dKof_get {kv : List (Nat × Int)} (hn : (kv.map (·.1)).Nodup) {r : Nat} {x : Int} (h : (r, x) ∈ kv) : valV (dKof kv) (Sum.inl (r : Int)) = some (.int x) := by
  unfold valV dKof
  rw [List.find?_map]
  have : kv.find? ((fun kv : Key × V => decide (kv.1 = Sum.inl (r : Int))) ∘ fun x => ((Sum.inl (x.1 : Int) : Key), V.int x.2)) = some (r, x) := by
    induction kv with
    | nil => cases h
    | cons a t ih =>
      rw [List.find?_cons]
      rw [List.map_cons, List.nodup_cons] at hn
      by_cases e : a.1 = r
      · have : a = (r, x) := by
          rcases List.mem_cons.mp h with z | z
          · exact z.symm
          · exact absurd (List.mem_map.mpr ⟨(r, x), z, rfl⟩) (by rw [← e] ; exact hn.1)
        subst this
        simp
      · have hne : ((fun kv : Key × V => decide (kv.1 = Sum.inl (r : Int))) ∘ fun x => ((Sum.inl (x.1 : Int) : Key), V.int x.2)) a = false := by
          refine decide_eq_false fun z => e ?_
          have := Sum.inl.inj z
          omega
        rw [hne]
        exact ih hn.2 ((List.mem_cons.mp h).resolve_left fun z => e (by rw [← z]))
  rw [this]
  rfl
theorem shL_nodup (ds : List FR) : ∀ n, ((shL ds n).map (·.1)).Nodup
  | 0 => List.nodup_nil
  | n + 1 => by
    rw [shL_succ, List.map_append, List.nodup_append]
    refine ⟨shL_nodup ds n, ?_, fun a ha b hb e => ?_⟩
    · cases shAt ds n <;> simp
    · obtain ⟨x, hx, rfl⟩ := List.mem_map.mp ha
      obtain ⟨y, hy, rfl⟩ := List.mem_map.mp hb
      have h1 := shL_lt hx
      have h2 : y ∈ shL ds (n + 1) := by rw [shL_succ]; exact List.mem_append_right _ hy
      have h3 : y.1 = n := by
        rw [Option.mem_toList] at hy
        unfold shAt at hy
        split at hy
        · split at hy
          · cases hy; rfl
          · cases hy
        · cases hy
      omega
/-- rows whose targets are rows -/
def TgF (ds : List FR) : Prop := ∀ d ∈ ds, d.ts.length ≤ 16 ∧ ∀ t ∈ d.ts, 0 ≤ t ∧ t < ds.length
section
variable {P : Program} {w : World} {K : PySem.W.Frag} {mg : Str → Option Value} {base : Heap}
def spShDist : Sp := fun vs H Q _ => ∃ (lr : Addr) (ds : List FR), vs = [.ref lr] ∧ RowsF H lr ds ∧ TgF ds ∧ ds.length ≤ 100000 ∧ ∀ (p : Addr) (H' : Hp), Same H H' → H p = none → H' p = some (.dK (dKof (shL ds ds.length))) → Q (.ref p) H'
theorem scShD : FnScope ["rows", "begins", "distances", "r", "row"] ["rows"] (defScope sShDist) := ⟨rfl, rfl, rfl, by decide +kernel, rfl, by decide +kernel, by decide +kernel⟩
theorem ok_shdist {f fB fJ fD : Addr} {fd fdB fdJ fdD : FuncData} (F : Fun K "short_distances" "short_distances" sShDist f fd) (T : Txt K w.params mg) (GB : FnOk P w K mg base CX0 3 fB fdB ["rows"] spBegins) (kB : PySem.W.keepIn K (.ref fB) = true) (bB : Binds K fdB ["rows"] []) (mB : mg "begins_of" = some (.ref fB)) (GJ : FnOk P w K mg base CX0 2 fJ fdJ ["row"] spShJ) (kJ : PySem.W.keepIn K (.ref fJ) = true) (bJ : Binds K fdJ ["row"] []) (mJ : mg "is_short_jump" = some (.ref fJ)) (GD : FnOk P w K mg base CX0 2 fD fdD ["rows", "begins", "r"] spDists) (kD : PySem.W.keepIn K (.ref fD) = true) (bD : Binds K fdD ["rows", "begins", "r"] []) (mD : mg "distances_of" = some (.ref fD)) : FnOk P w K mg base CX0 4 f fd ["rows"] spShDist := by
  refine F.ok scShD (fun vs H Q E h => ?_) (fun cdv A outer s H vs Q E hr h => ?_)
  · obtain ⟨lr, ds, rfl, _⟩ := h
    rfl
  · obtain ⟨lr, ds, rfl, hR, hT, hn, k⟩ := h
    have hrB : Room 3 (A.deeper (PyProof.Rows.envOfC "short_distances" (defScope sShDist) s.heap.objs.size f cdv)) := hr.mono (by decide)
    have hrJ : Room 2 (A.deeper (PyProof.Rows.envOfC "short_distances" (defScope sShDist) s.heap.objs.size f cdv)) := hr.mono (by decide)
    have hu : (A.deeper (PyProof.Rows.envOfC "short_distances" (defScope sShDist) s.heap.objs.size f cdv)).units + 1 < cLine := Nat.lt_of_le_of_lt (Nat.add_le_add_left (by decide : 1 ≤ 64) _) hr.units
    refine ⟨_, (pss_cons (ps_set (i := 1) scShD.nd rfl (Or.inl rfl) (pe_call GB hrB (by rfl) mB kB bB .nil pass0 (pa_cons (pv 0) pa_nil)))
      (pss_cons (ps_set (i := 2) scShD.nd rfl (Or.inl rfl) pe_dnewK)
      (pss_cons (ps_for PassesOwn.never rfl (pi_enum rfl T.enum (pa_cons (pv 0) pa_nil)) (pg_two (K := K) (i := 3) (j := 4) rfl rfl scShD.nd rfl (Or.inl rfl) rfl (Or.inl rfl)) (pss_one (ps_if (pt_val (pe_call GJ hrJ (by rfl) mJ kJ bJ .nil pass0 (pa_cons (pv 4) pa_nil))) (pss_one (ps_dput hu (pv 2) (pv 3) (pe_ix ix_list (pe_call GD hrJ (by rfl) mD kD bD .nil pass0 (pa_cons (pv 0) (pa_cons (pv 1) (pa_cons (pv 3) pa_nil)))) pe_int (fun _ _ => rfl)) rfl)) pss_nil)))
      (pss_one (ps_ret (pv 2)))))), ?_⟩
    refine ⟨_, rfl, lr, ds, rfl, hR, hn, fun lb H1 s1 nlb hb => ?_⟩
    refine fun p np => ?_
    have s2 := s1.trans (same_new (o := .dK []) np)
    have hb2 := same_new (o := .dK []) np _ _ hb
    have hp2 : upd H1 p (.dK []) p = some (.dK (dKof (shL ds 0))) := upd_same
    have hp0 : H p = none := s1.free np
    have nbp : lb ≠ p := fun z => by rw [z, np] at hb; cases hb
    generalize upd H1 p (.dK []) = H2 at s2 hb2 hp2 ⊢
    obtain ⟨qs, r1, r2, r3⟩ := id hR
    refine ⟨_, rfl, lr, rfl, ⟨_, SqL.of (s2 _ _ r1)⟩, for_enum (xs := qs.map V.ref) (fun i σ G => i ≤ ds.length ∧ ∃ v3 v4 : Option V, σ = [some (.ref lr), some (.ref lb), some (.ref p), v3, v4] ∧ Same H G ∧ G lb = some (.lst ((begs ds ds.length).map V.int)) ∧ G p = some (.dK (dKof (shL ds i)))) ?_ ?_ ?_ ?_⟩
    · exact ⟨Nat.zero_le _, none, none, rfl, s2, hb2, hp2⟩
    · rintro i σ G _ ⟨_, v3, v4, rfl, s3, _⟩
      exact SqL.of (s3 _ _ r1)
    · rintro i x σ G tt hx ntt ⟨_, v3, v4, rfl, s3, hb3, hp3⟩
      rw [List.getElem?_map] at hx
      obtain ⟨q, hq, rfl⟩ := Option.map_eq_some_iff.mp hx
      have hil : i < ds.length := by have := (List.getElem?_eq_some_iff.mp hq).1; omega
      have hd : ds[i]? = some ds[i] := List.getElem?_eq_getElem hil
      generalize ds[i] = d at hd
      have s4 := s3.trans (same_new (o := .tup [V.int i, V.ref q]) ntt)
      have hb4 := same_new (o := .tup [V.int i, V.ref q]) ntt _ _ hb3
      have hp4 := same_new (o := .tup [V.int i, V.ref q]) ntt _ _ hp3
      have htt : upd G tt (.tup [V.int i, V.ref q]) tt = _ := upd_same
      generalize upd G tt (.tup [V.int i, V.ref q]) = G1 at s4 hb4 hp4 htt ⊢
      refine ⟨tt, _, rfl, SqT.of htt, rfl, _, _, rfl, _, _, rfl, rfl, ?_⟩
      refine ⟨_, rfl, q, d, rfl, (r3 i q d hq hd).same s4, _, rfl, ?_⟩
      refine ite2 (fun e => ?_) (fun e => ?_)
      · have hu5 : d.u ∈ five := by
          unfold shortF at e
          rw [Bool.and_eq_true] at e
          exact of_decide_eq_true e.1
        obtain ⟨_, _, _, t, ets, _⟩ := five_row (r3 i q d hq hd) hu5
        obtain ⟨h16, htg⟩ := hT d (List.mem_of_getElem? hd)
        refine ⟨_, rfl, _, rfl, _, rfl, lr, lb, ds, i, d, rfl, hR.same s4, hb4, hd, htg, h16, fun l G2 s5 nl hl => ?_⟩
        refine ⟨l, _, 0, .int (dst ds i d), rfl, rfl, SqL.of hl, by unfold dst; rw [ets]; rfl, _, rfl, _, rfl, p, _, rfl, .inl ⟨_, Sum.inl (i : Int), s5 _ _ hp4, rfl, ?_, rfl⟩, ?_⟩
        · unfold dKof
          rw [List.length_map]
          exact small_lt (Nat.le_trans (shL_len ds i) (by omega))
        · refine ⟨hil, _, _, rfl, same_put (s4.trans s5) hp0, by rw [upd_ne nbp]; exact s5 _ _ hb4, ?_⟩
          rw [upd_same, dKof_put (fun y hy z => absurd (shL_lt hy) (by omega)), shL_succ]
          unfold shAt
          rw [hd]
          simp only [e, if_true]
          rfl
      · refine ⟨hil, _, _, rfl, s4, hb4, ?_⟩
        rw [hp4, shL_succ]
        unfold shAt
        rw [hd]
        show some (HO.dK (dKof (shL ds i))) = some (HO.dK (dKof (shL ds i ++ (if shortF d = true then some (i, dst ds i d) else none).toList)))
        rw [if_neg e, Option.toList_none, List.append_nil]
    · rintro σ G ⟨_, v3, v4, rfl, s3, _, hp3⟩
      rw [List.length_map, r2] at hp3
      exact ⟨_, rfl, k p _ s3 hp0 hp3⟩
end
end My


set_option Elab.async false
set_option linter.all false
set_option maxRecDepth 100000
set_option maxHeartbeats 4000000
namespace My
open PySem L2
/-- the first short jump whose distance is not borne -/
def firstL (ds : List FR) : Option Nat := ((shL ds ds.length).find? fun x => !borneF x.2).map (·.1)
section
variable {P : Program} {w : World} {K : PySem.W.Frag} {mg : Str → Option Value} {base : Heap}
def spCheckL (cNL : Addr) : Sp := fun vs H Q E => ∃ (lr : Addr) (ds : List FR), vs = [.ref lr] ∧ RowsF H lr ds ∧ TgF ds ∧ ds.length ≤ 100000 ∧
  (firstL ds = none → ∀ H', Same H H' → Q .non H') ∧ ∀ r, firstL ds = some r → ∀ H' d, Same H H' → H' d = some (.xd [("at", .int (r : Int))]) → E (.ref cNL) (some d) H'
theorem scChk : FnScope ["rows", "distances", "r"] ["rows"] (defScope sCheckL) := ⟨rfl, rfl, rfl, by decide +kernel, rfl, by decide +kernel, by decide +kernel⟩
theorem ok_check {f fS fB cNL R fI : Addr} {fd fdS fdB fdI : FuncData} (F : Fun K "check_layout" "check_layout" sCheckL f fd) (T : Txt K w.params mg) (GS : FnOk P w K mg base CX0 4 fS fdS ["rows"] spShDist) (kS : PySem.W.keepIn K (.ref fS) = true) (bS : Binds K fdS ["rows"] []) (mS : mg "short_distances" = some (.ref fS)) (GB : FnOk P w K mg base CX0 1 fB fdB ["distance"] spBorne) (kB : PySem.W.keepIn K (.ref fB) = true) (bB : Binds K fdB ["distance"] []) (mB : mg "is_borne" = some (.ref fB))
    (cx : XIni K cNL R fI) (kC : PySem.W.keepIn K (.ref cNL) = true) (GI : FnOk P w K mg base CX0 1 fI fdI ["self", "at"] (spXI cNL)) (bI : Binds K fdI ["self", "at"] []) (mNL : mg "NoLayout" = some (.ref cNL)) : FnOk P w K mg base (CX2 P w) 5 f fd ["rows"] (spCheckL cNL) := by
  refine F.okX scChk (fun vs H Q E h => ?_) (fun cdv A outer s H vs Q E hr h => ?_)
  · obtain ⟨lr, ds, rfl, _⟩ := h
    rfl
  · obtain ⟨lr, ds, rfl, hR, hT, hn, k, hE⟩ := h
    have hr2 := hr.mono (show 2 ≤ 4 by decide)
    have hrB := hr.mono (show 1 ≤ 4 by decide)
    have hu : (A.deeper (PyProof.Rows.envOfC "check_layout" (defScope sCheckL) s.heap.objs.size f cdv)).units + 1 < cLine := Nat.lt_of_le_of_lt (Nat.add_le_add_left (by decide : 1 ≤ 64) _) hr.units
    refine ⟨_, (pss_cons (ps_set (i := 1) scChk.nd rfl (Or.inl rfl) (pe_call GS hr (by rfl) mS kS bS .nil pass0 (pa_cons (pv 0) pa_nil)))
      (pss_one (ps_for PassesOwn.leaving rfl (pi_keys (pv 1)) (pg_name (i := 2) scChk.nd rfl (Or.inl rfl)) (pss_one (ps_if (pt_not (pt_val (pe_call GB hrB (by rfl) mB kB bB .nil pass0 (pa_cons (pe_dget hu (pv 1) (pv 2) (fun _ _ => rfl)) pa_nil)))) (pss_one (ps_raiseC cx kC GI bI hr2 mNL (by rfl) (pa_cons (pv 2) pa_nil))) pss_nil))))), ?_⟩
    refine ⟨_, rfl, lr, ds, rfl, hR, hT, hn, fun p H1 s1 np hp => ?_⟩
    refine ⟨_, rfl, p, _, rfl, hp, fun o nf => ?_⟩
    refine for_keys (a := p) (o := o) (kvs := dKof (shL ds ds.length)) (fun i σ G => (∃ v : Option V, σ = [some (.ref lr), some (.ref p), v]) ∧ Same H G ∧ G p = some (.frz o (.dK (dKof (shL ds ds.length)))) ∧ ∀ (j : Nat) x, j < i → (shL ds ds.length)[j]? = some x → borneF x.2 = true) ?_ ?_ ?_ ?_
    · exact ⟨⟨none, rfl⟩, same_put s1 np, upd_same, fun j x hj => absurd hj (Nat.not_lt_zero _)⟩
    · rintro i σ G _ ⟨_, _, h, _⟩
      exact h
    · rintro i ky y σ G hx ⟨⟨v, rfl⟩, s2, hp2, hb⟩
      unfold dKof at hx
      rw [List.getElem?_map] at hx
      obtain ⟨⟨r, x⟩, hx0, e⟩ := Option.map_eq_some_iff.mp hx
      cases e
      have hrx : r < ds.length := shL_lt (List.mem_of_getElem? hx0)
      have rd := dKof_get (shL_nodup ds ds.length) (List.mem_of_getElem? hx0)
      refine ⟨_, rfl, _, rfl, p, .int x, rfl, .inl ⟨_, Sum.inl (r : Int), .inr ⟨_, hp2⟩, rfl, rd.symm⟩, x, rfl, _, rfl, ?_⟩
      refine ite2 (fun e => ?_) (fun e => ?_)
      · refine ⟨_, rfl, _, rfl, by omega, fun dd nd => hE r ?_ _ dd (s2.trans (same_new nd)) upd_same⟩
        unfold firstL
        have : (shL ds ds.length).find? (fun x => !borneF x.2) = some (r, x) := by
          rw [List.find?_eq_some_iff_getElem]
          obtain ⟨hi, ei⟩ := List.getElem?_eq_some_iff.mp hx0
          refine ⟨e, i, hi, ei, fun j hj => ?_⟩
          have := hb j _ hj (List.getElem?_eq_getElem (by omega))
          rw [this]
          rfl
        rw [this]
        rfl
      · refine ⟨⟨_, rfl⟩, s2, hp2, fun j y hj hy => ?_⟩
        rcases Nat.lt_or_eq_of_le (Nat.le_of_lt_succ hj) with z | z
        · exact hb j y z hy
        · rw [z, hx0] at hy
          cases hy
          simpa using e
    · rintro σ G ⟨⟨v, rfl⟩, s2, hp2, hb⟩
      refine k ?_ _ s2
      unfold firstL
      rw [Option.map_eq_none_iff, List.find?_eq_none]
      intro x hx
      obtain ⟨j, hj, e⟩ := List.getElem_of_mem hx
      have := hb j x (by unfold dKof; rw [List.length_map]; exact hj) (by rw [List.getElem?_eq_getElem hj, e])
      rw [this]
      decide
end
end My


set_option Elab.async false
set_option linter.all false
set_option maxRecDepth 100000
set_option maxHeartbeats 4000000
namespace My
open PySem L2
theorem op_fdivB {X : Cx} : OpR X (binaryOp .FloorDiv) (rI (fun _ j => 0 < j ∧ j < 18446744073709551616) fun i j => .int (i / j)) := opI fun i j _ _ _ _ _ hc q => by
  have h1 : (0 : Int) < j := hc.1
  have h2 : j < 18446744073709551616 := hc.2
  refine PyProof.Rows.floordiv_int (by omega) (by rw [Int.fdiv_eq_ediv_of_nonneg i (by omega)]; exact q) (.inl (PyProof.noPylong_of_log2 ?_))
  have h3 : j.natAbs.log2 < 64 := (Nat.log2_lt (by omega)).mpr (by omega)
  omega
theorem cut_take (xs : List V) (n : Nat) : cutV xs none (some (n : Int)) = xs.take n := by
  unfold cutV
  have h1 : HT.sIx xs.length 0 none = 0 := rfl
  have h2 : HT.sIx xs.length xs.length (some (n : Int)) = min n xs.length := HT.sIx_nat ..
  rw [h1, h2, List.drop_zero, Nat.sub_zero]
  rcases Nat.le_total n xs.length with h | h
  · rw [Nat.min_eq_left h]
  · rw [Nat.min_eq_right h, List.take_length, List.take_of_length_le h]
section
variable {P : Program} {w : World} {K : PySem.W.Frag} {mg : Str → Option Value} {base : Heap}
/-! ### a cell of the script -/

/-! ### a stream of numbers -/
def spStream : Sp := fun vs H Q _ => ∃ (c : Int) (n : Nat), vs = [.int c, .int (n : Int)] ∧ n ≤ 10000 ∧ ∀ (l : Addr) (ms : List Int) (H' : Hp), Same H H' → H l = none → H' l = some (.lst (ms.map V.int)) → ms.length = n → (∀ x ∈ ms, 0 ≤ x) → Q (.ref l) H'
theorem scStr : FnScope ["_law_cell", "_law_many", "_law_found", "_law_number", "_law_k"] ["_law_cell", "_law_many"] (defScope sStream) := ⟨rfl, rfl, rfl, by decide +kernel, rfl, by decide +kernel, by decide +kernel⟩
theorem ok_stream {f : Addr} {fd : FuncData} (F : Fun K "_law_stream" "_law_stream" sStream f fd) (T : Txt K w.params mg) : FnOk P w K mg base CX0 1 f fd ["_law_cell", "_law_many"] spStream := by
  refine F.ok scStr (fun vs H Q E h => ?_) (fun cdv A outer s H vs Q E hr h => ?_)
  · obtain ⟨c, n, rfl, _⟩ := h
    rfl
  · obtain ⟨c, n, rfl, hn, k⟩ := h
    refine wrapX (pssx_cons (psx_of (ps_set (i := 2) scStr.nd rfl (Or.inl rfl) (pe_lst pa_nil)))
      (pssx_cons (psx_of (ps_set (i := 3) scStr.nd rfl (Or.inl rfl) (pe_op op_fdivB (pv 0) pe_int)))
      (pssx_mid (psx_of (ps_while PassesOwn.never (pw_and (pt_cmpR op_eq (pe_op op_mod (pv 0) pe_int) pe_int (nomark _)) (pw_and (pt_cmpR op_gt (pv 3) pe_int (nomark _)) (pw_and1 (pt_cmpR op_lt (pe_callB call_len_seq (by rfl) T.len bt_len (pa_cons (pv 2) pa_nil)) (pv 1) (nomark _))))).pt (pss_cons (ps_expr (pe_bm PySem.F.plainAttrs_list PySem.F.slot_list_append PySem.F.type_list_append mt_append (pv 2) (pa_cons (pe_op op_mod (pv 3) (pe_op op_pow pe_int pe_int)) pa_nil)))
      (pss_one (ps_set (i := 3) scStr.nd rfl (Or.inl rfl) (pe_op op_fdivB (pv 3) (pe_op op_pow pe_int pe_int)))))))
      (pssx_cons (psx_of (ps_set (i := 3) scStr.nd rfl (Or.inl rfl) (pe_op op_mod (pe_op op_mul (pe_op op_add (pe_op op_fdivB (pv 0) pe_int) pe_int) pe_int) pe_int)))
      (pssx_cons (psx_of (ps_for PassesOwn.never rfl (pi_range1 rfl T.range (pa_cons (pv 1) pa_nil)) (pg_name (i := 4) scStr.nd rfl (Or.inl rfl)) (pss_cons (ps_set (i := 3) scStr.nd rfl (Or.inl rfl) (pe_op op_mod (pe_op op_mul (pv 3) (pe_op op_add (pe_op op_add (pe_op op_fdivB (pv 3) pe_int) pe_int) (pv 4))) pe_int))
      (pss_cons (ps_expr (pe_bm PySem.F.plainAttrs_list PySem.F.slot_list_append PySem.F.type_list_append mt_append (pv 2) (pa_cons (pe_op op_mod (pe_op op_mul (pv 3) (pe_op op_add (pe_op op_fdivB (pv 3) pe_int) pe_int)) pe_int) pa_nil)))
      (pss_one (ps_set (i := 3) scStr.nd rfl (Or.inl rfl) (pe_op op_add (pv 3) pe_int)))))))
      (pssx_one (psx_of (ps_ret (pe_slice sl_list (pv 2) po_none (po_some (pv 1))))))))))) ?_
    refine ⟨Nat.le_of_ble_eq_true rfl, fun l nl => ?_⟩
    have s0 := same_new (o := .lst []) nl
    have h0 : upd H l (.lst []) l = some (.lst (([] : List Int).map V.int)) := upd_same
    generalize upd H l (.lst []) = G0 at s0 h0 ⊢
    refine ⟨_, rfl, _, _, rfl, rfl, ⟨by show (0 : Int) < 2; decide, by show (2 : Int) < _; decide⟩, ?_⟩
    have cp : CPow 10 9 := ⟨by decide, by decide, by decide⟩
    refine ⟨fun σ G => ∃ (x : Int) (ms : List Int), σ = [some (.int c), some (.int (n : Int)), some (.ref l), some (.int x), none] ∧ Same H G ∧ G l = some (.lst (ms.map V.int)) ∧ (∀ y ∈ ms, 0 ≤ y) ∧ ms.length ≤ n, ?_, ?_⟩
    · refine ⟨fun mm σ G => ∃ (x : Int) (ms : List Int), σ = [some (.int c), some (.int (n : Int)), some (.ref l), some (.int x), none] ∧ Same H G ∧ G l = some (.lst (ms.map V.int)) ∧ (∀ y ∈ ms, 0 ≤ y) ∧ ms.length ≤ n ∧ mm = n - ms.length, ⟨_, _, [], rfl, s0, h0, fun y hy => (List.not_mem_nil hy).elim, Nat.zero_le _, rfl⟩, ?_⟩
      rintro mm σ G ⟨x, ms, rfl, s1, h1, hp, hl, rfl⟩
      refine ⟨_, rfl, _, _, rfl, rfl, (by show (0 : Int) < 2; decide), rfl, _, rfl, ?_⟩
      refine ite2 (fun _ => ?_) (fun _ => iteN (by decide) ⟨x, ms, rfl, s1, h1, hp, hl⟩)
      refine ⟨_, rfl, _, _, rfl, rfl, _, rfl, ?_⟩
      refine ite2 (fun _ => ?_) (fun _ => iteN (by decide) ⟨x, ms, rfl, s1, h1, hp, hl⟩)
      refine ⟨_, rfl, l, _, rfl, .inl (SqL.of h1), _, rfl, _, _, rfl, rfl, _, rfl, ?_⟩
      refine ite2 (fun e => ?_) (fun _ => ⟨x, ms, rfl, s1, h1, hp, hl⟩)
      have e := of_decide_eq_true e
      rw [List.length_map] at e
      have hlt : ms.length < n := by omega
      refine ⟨fun σ' G' => ∃ (x' : Int) (ms' : List Int), σ' = [some (.int c), some (.int (n : Int)), some (.ref l), some (.int x'), none] ∧ Same H G' ∧ G' l = some (.lst (ms'.map V.int)) ∧ (∀ y ∈ ms', 0 ≤ y) ∧ ms'.length = ms.length + 1, ?_, ?_⟩
      · rintro σ' G' ⟨x', ms', rfl, a1, a2, a3, a4⟩
        exact ⟨n - ms'.length, by omega, x', ms', rfl, a1, a2, a3, by omega, rfl⟩
      refine ⟨_, rfl, .inl ⟨rfl, _, SqL.of h1⟩, _, rfl, _, _, rfl, rfl, cp, _, _, rfl, rfl, (by show (0 : Int) < 10 ^ (9 : Int).toNat; decide), l, _, _, rfl, rfl, h1, small_lt (by rw [List.length_map]; omega), ?_⟩
      refine ⟨_, rfl, _, _, rfl, rfl, cp, _, _, rfl, rfl, ⟨by show (0 : Int) < 10 ^ (9 : Int).toNat; decide, by show (10 : Int) ^ (9 : Int).toNat < 18446744073709551616; decide⟩, ?_⟩
      refine ⟨_, ms ++ [x % 10 ^ (9 : Int).toNat], rfl, same_put s1 nl, by rw [upd_same, List.map_append]; rfl, fun y hy => ?_, by rw [List.length_append]; rfl⟩
      rcases List.mem_append.mp hy with z | z
      · exact hp y z
      · rw [List.mem_singleton.mp z]
        exact Int.emod_nonneg _ (by decide)
    rintro σ G ⟨x, ms, rfl, s1, h1, hp, hl⟩
    refine ⟨_, rfl, _, _, rfl, rfl, ⟨by show (0 : Int) < 2; decide, by show (2 : Int) < _; decide⟩, _, _, rfl, rfl, _, _, rfl, rfl, .inr ⟨by decide, by decide⟩, _, _, rfl, rfl, (by show (0 : Int) < 2147483647; decide), ?_⟩
    have hx0 : 0 ≤ (c / 2 + 7919) * 48271 % 2147483647 ∧ (c / 2 + 7919) * 48271 % 2147483647 < 2147483647 := ⟨Int.emod_nonneg _ (by decide), Int.emod_lt_of_pos _ (by decide)⟩
    refine ⟨_, rfl, _, rfl, by omega, by omega, ?_⟩
    refine for_range (lo := 0) (n := ((n : Nat) : Int).toNat) (fun i σ G => ∃ (x : Int) (v : Option V) (ms : List Int), σ = [some (.int c), some (.int (n : Int)), some (.ref l), some (.int x), v] ∧ 0 ≤ x ∧ x ≤ 2147483647 ∧ Same H G ∧ G l = some (.lst (ms.map V.int)) ∧ (∀ y ∈ ms, 0 ≤ y) ∧ i ≤ ms.length ∧ ms.length ≤ n + i) ?_ ?_ ?_
    · exact ⟨_, none, ms, rfl, hx0.1, Int.le_of_lt hx0.2, s1, h1, hp, Nat.zero_le _, by omega⟩
    · rintro i σ G hi ⟨x, v, ms, rfl, b1, b2, s1, h1, hp, g1, g2⟩
      have e0 : (0 : Int) + (i : Int) = (i : Int) := by omega
      rw [e0]
      have hin : i < n := by rw [Int.toNat_natCast] at hi; exact hi
      refine ⟨_, rfl, _, rfl, _, _, rfl, rfl, ⟨by show (0 : Int) < 1009; decide, by show (1009 : Int) < _; decide⟩, _, _, rfl, rfl, _, rfl, _, _, rfl, rfl, _, _, rfl, rfl, .inl ⟨by omega, by omega⟩, _, _, rfl, rfl, (by show (0 : Int) < 2147483647; decide), ?_⟩
      have hy0 : 0 ≤ x * (x / 1009 + 69621 + (i : Int)) % 2147483647 ∧ x * (x / 1009 + 69621 + (i : Int)) % 2147483647 < 2147483647 := ⟨Int.emod_nonneg _ (by decide), Int.emod_lt_of_pos _ (by decide)⟩
      have hy1 : x * (x / 1009 + 69621 + (i : Int)) % 2147483647 ≤ 2147483646 := by omega
      refine ⟨_, rfl, .inl ⟨rfl, _, SqL.of h1⟩, _, rfl, _, rfl, _, _, rfl, rfl, ⟨by show (0 : Int) < 127; decide, by show (127 : Int) < _; decide⟩, _, _, rfl, rfl, _, _, rfl, rfl, .inl ⟨by show -(2 ^ 64) < (x * (x / 1009 + 69621 + (i : Int)) % 2147483647); omega, by show (x * (x / 1009 + 69621 + (i : Int)) % 2147483647) < 2 ^ 64; omega⟩, _, _, rfl, rfl, (by show (0 : Int) < 2147483629; decide), l, _, _, rfl, rfl, h1, small_lt (by rw [List.length_map]; omega), ?_⟩
      have hz0 : 0 ≤ (x * (x / 1009 + 69621 + (i : Int)) % 2147483647) * ((x * (x / 1009 + 69621 + (i : Int)) % 2147483647) / 127 + 40009) % 2147483629 := Int.emod_nonneg _ (by decide)
      refine ⟨_, rfl, _, _, rfl, rfl, ?_⟩
      refine ⟨(x * (x / 1009 + 69621 + (i : Int)) % 2147483647) + 1, _, ms ++ [(x * (x / 1009 + 69621 + (i : Int)) % 2147483647) * ((x * (x / 1009 + 69621 + (i : Int)) % 2147483647) / 127 + 40009) % 2147483629], rfl, by omega, by omega, same_put s1 nl, by rw [upd_same, List.map_append]; rfl, fun y hy => ?_, by rw [List.length_append, List.length_singleton]; omega, by rw [List.length_append, List.length_singleton]; omega⟩
      rcases List.mem_append.mp hy with z | z
      · exact hp y z
      · rw [List.mem_singleton.mp z]
        exact hz0
    · rintro σ G ⟨x, v, ms, rfl, b1, b2, s1, h1, hp, g1, g2⟩
      rw [Int.toNat_natCast] at g1
      refine ⟨_, rfl, _, rfl, (n : Int), rfl, l, _, rfl, SqL.of h1, fun lc nc => ?_⟩
      have ec : cutV (ms.map V.int) none (some (n : Int)) = (ms.take n).map V.int := by rw [cut_take, List.map_take]
      rw [ec]
      exact k lc (ms.take n) _ (s1.trans (same_new nc)) (s1.free nc) upd_same (by rw [List.length_take]; omega) fun y hy => hp y (List.mem_of_mem_take hy)
end
end My


set_option Elab.async false
set_option linter.all false
set_option maxRecDepth 100000
set_option maxHeartbeats 4000000
namespace My
open PySem L2
/-! ### rows of a shape -/
def plainW (u : Str) : Prop := u ∈ all20 ∧ ¬ u = "table" ∧ ¬ u ∈ jcm ∧ ¬ u ∈ zb
instance {u : Str} : Decidable (plainW u) := by unfold plainW; infer_instance
def plainN (n : Nat) (u : Str) : Prop := plainW u ∧ arI u = n
instance {n : Nat} {u : Str} : Decidable (plainN n u) := by unfold plainN; infer_instance
theorem row_two {H : Hp} {q : Addr} {u : Str} {b c : Int} (hu : plainN 2 u) (h : H q = some (.tup [.str u, .int b, .int c])) : RowF H q ⟨u, [b, c], []⟩ :=
  ⟨⟨hu.1.1, fun z => absurd z hu.1.2.1, fun z => absurd z hu.1.2.2.1, fun z => absurd z hu.1.2.2.2, fun _ _ _ => ⟨rfl, hu.2.symm⟩, fun _ => ⟨b, c, rfl⟩, fun _ => ⟨b, [c], rfl⟩⟩, .inr ⟨hu.1.2.1, h⟩⟩
theorem row_one {H : Hp} {q : Addr} {u : Str} {b : Int} (hu : plainN 1 u ∧ ¬ u ∈ w2) (h : H q = some (.tup [.str u, .int b])) : RowF H q ⟨u, [b], []⟩ :=
  ⟨⟨hu.1.1.1, fun z => absurd z hu.1.1.2.1, fun z => absurd z hu.1.1.2.2.1, fun z => absurd z hu.1.1.2.2.2, fun _ _ _ => ⟨rfl, hu.1.2.symm⟩, fun z => absurd z hu.2, fun _ => ⟨b, [], rfl⟩⟩, .inr ⟨hu.1.1.2.1, h⟩⟩
theorem row_jcm {H : Hp} {q : Addr} {u : Str} {t f : Int} (hu : u ∈ jcm) (h : H q = some (.tup [.str u, .int t, .int f])) : RowF H q ⟨u, [t, f], [t]⟩ := by
  have hw := (by decide : ∀ u ∈ jcm, u ∈ all20 ∧ ¬ u = "table" ∧ ¬ u ∈ zb ∧ ¬ u ∈ w2 ∧ ¬ u ∈ w1) u hu
  exact ⟨⟨hw.1, fun z => absurd z hw.2.1, fun _ => ⟨t, f, rfl, rfl⟩, fun z => absurd z hw.2.2.1, fun _ z => absurd hu z, fun z => absurd z hw.2.2.2.1, fun z => absurd z hw.2.2.2.2⟩, .inr ⟨hw.2.1, h⟩⟩
theorem row_zb {H : Hp} {q : Addr} {u : Str} {b t f : Int} (hu : u ∈ zb) (h : H q = some (.tup [.str u, .int b, .int t, .int f])) : RowF H q ⟨u, [b, t, f], [t]⟩ := by
  have hw := (by decide : ∀ u ∈ zb, u ∈ all20 ∧ ¬ u = "table" ∧ ¬ u ∈ jcm ∧ ¬ u ∈ w2) u hu
  exact ⟨⟨hw.1, fun z => absurd z hw.2.1, fun z => absurd z hw.2.2.1, fun _ => ⟨b, t, f, rfl, rfl⟩, fun _ _ z => absurd hu z, fun z => absurd z hw.2.2.2, fun _ => ⟨b, _, rfl⟩⟩, .inr ⟨hw.2.1, h⟩⟩
theorem row_table {H : Hp} {q p : Addr} {b : Int} {ts : List Int} (h : H q = some (.tup [.str "table", .int b, .ref p])) (hp : H p = some (.tup (ts.map V.int))) : RowF H q ⟨"table", [b], ts⟩ :=
  ⟨⟨(by decide : ("table" : Str) ∈ all20), fun _ => ⟨b, rfl⟩, fun z => absurd z (by decide : ¬ ("table" : Str) ∈ jcm), fun z => absurd z (by decide : ¬ ("table" : Str) ∈ zb), fun z => absurd rfl z, fun z => absurd z (by decide : ¬ ("table" : Str) ∈ w2), fun _ => ⟨b, [], rfl⟩⟩, .inl ⟨rfl, b, p, rfl, h, hp⟩⟩
def FarOk (d : FR) : Prop := d.u ∈ five → farF d = 0 ∨ farF d = 1
def GoodR (d : FR) (n : Int) : Prop := d.ts.length ≤ 16 ∧ (∀ t ∈ d.ts, 0 ≤ t ∧ t < n) ∧ FarOk d
theorem at_wordsS (ws : List Str) (d : Int) (h0 : 0 ≤ d) (h1 : d < ws.length) : ∃ u, u ∈ ws ∧ atI (ws.map V.str) d = some (.str u) := by
  obtain ⟨j, rfl⟩ := Int.eq_ofNat_of_zero_le h0
  have hl : j < ws.length := by omega
  refine ⟨ws[j], List.getElem_mem hl, atI_nat (j := j) ?_⟩
  rw [List.getElem?_map, List.getElem?_eq_getElem hl]
  rfl
theorem at_intsS (ws : List Int) (d : Int) (h0 : 0 ≤ d) (h1 : d < ws.length) : ∃ u, u ∈ ws ∧ atI (ws.map V.int) d = some (.int u) := by
  obtain ⟨j, rfl⟩ := Int.eq_ofNat_of_zero_le h0
  have hl : j < ws.length := by omega
  refine ⟨ws[j], List.getElem_mem hl, atI_nat (j := j) ?_⟩
  rw [List.getElem?_map, List.getElem?_eq_getElem hl]
  rfl
theorem modB (x : Int) {n : Int} (h : 0 < n) : 0 ≤ x % n ∧ x % n < n := ⟨Int.emod_nonneg _ (by omega), Int.emod_lt_of_pos _ h⟩
theorem RowF.put {H : Hp} {q l : Addr} {d : FR} {xs : List V} {o : HO} (h : RowF H q d) (hl : H l = some (.lst xs)) : RowF (upd H l o) q d := by
  have ne : ∀ (a : Addr) (ys : List V), H a = some (.tup ys) → a ≠ l := fun a ys e z => by rw [z, hl] at e; cases e
  refine ⟨h.1, ?_⟩
  rcases h.2 with ⟨a, b, p, e, h1, h2⟩ | ⟨a, h1⟩
  · exact .inl ⟨a, b, p, e, by rw [upd_ne (ne _ _ h1)]; exact h1, by rw [upd_ne (ne _ _ h2)]; exact h2⟩
  · exact .inr ⟨a, by rw [upd_ne (ne _ _ h1)]; exact h1⟩
theorem rep_ref (c : Nat) (a : Addr) : (List.replicate c [V.ref a]).flatten = (List.replicate c a).map V.ref := by
  induction c with
  | zero => rfl
  | succ c ih => rw [List.replicate_succ, List.flatten_cons, ih, List.replicate_succ]; rfl
def bearsF (ds : List FR) (r : Nat) (d : FR) : Bool := !shortF d || borneF (dst ds r d)
end My


set_option Elab.async false
set_option linter.all false
set_option maxRecDepth 100000
set_option maxHeartbeats 4000000
namespace My
open PySem L2
def AllG (ds : List FR) : Prop := ∀ d ∈ ds, GoodR d ds.length
theorem AllG.tg {ds : List FR} (h : AllG ds) : TgF ds := fun d hd => ⟨(h d hd).1, (h d hd).2.1⟩
/-! ### rows made far -/
def setF (d : FR) : FR := if d.u ∈ five then ⟨d.u, d.is.dropLast ++ [1], d.ts⟩ else d
def lenz (ds : List FR) (L : List Nat) : List FR := ds.mapIdx fun r d => if r ∈ L then setF d else d
def ShortAt (ds : List FR) (r : Nat) : Prop := ∃ d, ds[r]? = some d ∧ shortF d = true
def cnt (L : List Nat) (j : Nat) : Nat := ((List.range j).filter (· ∈ L)).length
theorem setF_u (d : FR) : (setF d).u = d.u := by unfold setF; split <;> rfl
theorem lenz_len (ds : List FR) (L : List Nat) : (lenz ds L).length = ds.length := by unfold lenz; rw [List.length_mapIdx]
theorem lenz_at {ds : List FR} {L : List Nat} {r : Nat} {d : FR} (h : ds[r]? = some d) : (lenz ds L)[r]? = some (if r ∈ L then setF d else d) := by
  unfold lenz
  rw [List.getElem?_mapIdx, h]
  rfl
theorem short_five {d : FR} (h : shortF d = true) : d.u ∈ five ∧ farF d = 0 := by
  unfold shortF at h
  rw [Bool.and_eq_true] at h
  exact ⟨of_decide_eq_true h.1, of_decide_eq_true h.2⟩
theorem five_tab {d : FR} (h : d.u ∈ five) : ¬ d.u = "table" := fun z => absurd h (by rw [z]; decide)
theorem setF_far {d : FR} (h : d.u ∈ five) : farF (setF d) = 1 := by
  unfold setF farF
  rw [if_pos h]
  simp
theorem setF_sz {d : FR} (h : shortF d = true) : szF (setF d) = szF d + 1 := by
  obtain ⟨h1, h2⟩ := short_five h
  unfold szF
  rw [setF_u, if_neg (five_tab h1), if_neg (five_tab h1), if_pos h1, if_pos h1, setF_far h1, h2]
  omega
theorem sz_pos {d : FR} (h : FarOk d) : 1 ≤ szF d := by
  unfold szF
  split
  · omega
  · split
    · rename_i h1 h2
      rcases h h2 with z | z <;> omega
    · split <;> omega
theorem cnt_succ (L : List Nat) (j : Nat) : cnt L (j + 1) = cnt L j + if j ∈ L then 1 else 0 := by
  unfold cnt
  rw [List.range_succ, List.filter_append, List.length_append]
  by_cases h : j ∈ L
  · rw [if_pos h, List.filter_cons_of_pos (by simpa using h)]
    rfl
  · rw [if_neg h, List.filter_cons_of_neg (by simpa using h)]
    rfl
theorem beg_lenz {ds : List FR} {L : List Nat} (hL : ∀ x ∈ L, ShortAt ds x) : ∀ j, j ≤ ds.length → beg (lenz ds L) j = beg ds j + cnt L j
  | 0, _ => by simp [beg, cnt]
  | j + 1, h => by
    have ih := beg_lenz hL j (by omega)
    have hd : ds[j]? = some ds[j] := List.getElem?_eq_getElem (by omega)
    rw [beg_succ hd, beg_succ (lenz_at hd), ih, cnt_succ]
    by_cases hj : j ∈ L
    · rw [if_pos hj, if_pos hj]
      obtain ⟨d, e1, e2⟩ := hL j hj
      rw [hd] at e1
      cases e1
      rw [setF_sz e2]
      omega
    · rw [if_neg hj, if_neg hj]
      omega
/-- counts between two places -/
theorem cnt_le {L : List Nat} {a b : Nat} (h : a ≤ b) : cnt L a ≤ cnt L b := by
  induction b with
  | zero => rw [Nat.le_zero.mp h]; exact Nat.le_refl _
  | succ b ih =>
    rcases Nat.lt_or_eq_of_le h with z | z
    · rw [cnt_succ]
      have := ih (by omega)
      omega
    · rw [z]; exact Nat.le_refl _
theorem cnt_mono {L L' : List Nat} (h : ∀ x ∈ L', x ∈ L) {a : Nat} : ∀ k, cnt L' (a + k) - cnt L' a ≤ cnt L (a + k) - cnt L a
  | 0 => by simp
  | k + 1 => by
    have ih := cnt_mono h (a := a) k
    have h1 := cnt_le (L := L') (show a ≤ a + k by omega)
    have h2 := cnt_le (L := L) (show a ≤ a + k by omega)
    rw [show a + (k + 1) = (a + k) + 1 by omega, cnt_succ, cnt_succ]
    by_cases h3 : a + k ∈ L'
    · rw [if_pos h3, if_pos (h _ h3)]
      omega
    · rw [if_neg h3]
      split <;> omega
theorem beg_le {ds : List FR} (hG : AllG ds) {a : Nat} : ∀ k, a + k ≤ ds.length → beg ds a + k ≤ beg ds (a + k)
  | 0, _ => by simp
  | k + 1, h => by
    have ih := beg_le hG (a := a) k (by omega)
    have hd : ds[a + k]? = some ds[a + k] := List.getElem?_eq_getElem (by omega)
    have := sz_pos (hG ds[a + k] (List.getElem_mem _)).2.2
    rw [show a + (k + 1) = (a + k) + 1 by omega, beg_succ hd]
    omega
/-- a distance by what lies between -/
theorem dst_lenz {ds : List FR} {L : List Nat} (hL : ∀ x ∈ L, ShortAt ds x) {r t : Nat} (hr : r < ds.length) (ht : t < ds.length) : dstT (lenz ds L) r (t : Int) = dstT ds r (t : Int) + cnt L t - cnt L (r + 1) := by
  unfold dstT
  rw [Int.toNat_natCast, beg_lenz hL t (by omega), beg_lenz hL (r + 1) (by omega)]
  omega
theorem not_borne {x : Int} : borneF x = false ↔ x < -64 ∨ 63 < x := by
  unfold borneF
  rw [decide_eq_false_iff_not]
  omega
theorem far_mono {ds : List FR} (hG : AllG ds) {L L' : List Nat} (hL : ∀ x ∈ L, ShortAt ds x) (hsub : ∀ x ∈ L', x ∈ L) {r t : Nat} (hr : r < ds.length) (ht : t < ds.length) (h : borneF (dstT (lenz ds L') r (t : Int)) = false) : borneF (dstT (lenz ds L) r (t : Int)) = false := by
  have hL' : ∀ x ∈ L', ShortAt ds x := fun x hx => hL x (hsub x hx)
  rw [not_borne] at h ⊢
  rw [dst_lenz hL' hr ht] at h
  rw [dst_lenz hL hr ht]
  unfold dstT at h ⊢
  rw [Int.toNat_natCast] at h ⊢
  by_cases hrt : r + 1 ≤ t
  · obtain ⟨k, rfl⟩ : ∃ k, t = r + 1 + k := ⟨t - (r + 1), by omega⟩
    have h1 := cnt_mono hsub (a := r + 1) k
    have h2 := beg_le hG (a := r + 1) k (by omega)
    have h3 := cnt_le (L := L') (show r + 1 ≤ r + 1 + k by omega)
    have h4 := cnt_le (L := L) (show r + 1 ≤ r + 1 + k by omega)
    omega
  · obtain ⟨k, hk⟩ : ∃ k, r + 1 = t + k := ⟨r + 1 - t, by omega⟩
    rw [hk] at h ⊢
    have h1 := cnt_mono hsub (a := t) k
    have h2 := beg_le hG (a := t) k (by omega)
    have h3 := cnt_le (L := L') (show t ≤ t + k by omega)
    have h4 := cnt_le (L := L) (show t ≤ t + k by omega)
    omega
/-! ### the least set of far jumps -/
inductive Far (ds : List FR) : Nat → Prop
  | mk {r : Nat} {d : FR} (L : List Nat) (hL : ∀ x ∈ L, Far ds x) (hd : ds[r]? = some d) (hs : shortF d = true) (hb : borneF (dst (lenz ds L) r d) = false) : Far ds r
theorem Far.short {ds : List FR} {r : Nat} (h : Far ds r) : ShortAt ds r := by
  cases h with
  | mk L hL hd hs hb => exact ⟨_, hd, hs⟩
theorem far_is {ds : List FR} (hG : AllG ds) {L : List Nat} (hL : ∀ x ∈ L, Far ds x) (hgood : ∀ (r : Nat) d, ds[r]? = some d → shortF d = true → ¬ r ∈ L → borneF (dst (lenz ds L) r d) = true) : ∀ x, Far ds x → x ∈ L := by
  intro x hx
  induction hx with
  | @mk r d L' hL' hd hs hb ih =>
    refine Decidable.byContradiction fun hn => ?_
    have h1 := hgood r d hd hs hn
    have hr := (List.getElem?_eq_some_iff.mp hd).1
    have hg := hG d (List.mem_of_getElem? hd)
    have hu := (short_five hs).1
    have ht : ∃ t : Nat, d.ts.headD 0 = (t : Int) ∧ t < ds.length := by
      cases hts : d.ts with
      | nil => exact ⟨0, rfl, by omega⟩
      | cons t0 tl =>
        obtain ⟨a, b⟩ := hg.2.1 t0 (by rw [hts]; simp)
        obtain ⟨tn, rfl⟩ := Int.eq_ofNat_of_zero_le a
        exact ⟨tn, rfl, by omega⟩
    obtain ⟨t, et, htl⟩ := ht
    unfold dst at hb h1
    rw [et] at hb h1
    have := far_mono hG (fun x hx => (hL x hx).short) ih hr htl hb
    rw [this] at h1
    cases h1
/-- a good layout grows no more -/
theorem far_good {ds : List FR} (hG : AllG ds) (h : ∀ (r : Nat) d, ds[r]? = some d → shortF d = true → borneF (dst ds r d) = true) : ∀ x, ¬ Far ds x := fun x hx => by
  have e : lenz ds [] = ds := by
    refine List.ext_getElem? fun r => ?_
    unfold lenz
    rw [List.getElem?_mapIdx]
    cases ds[r]? <;> simp
  have := far_is hG (L := []) (fun x hx => (List.not_mem_nil hx).elim) (fun r d hd hs _ => by rw [e]; exact h r d hd hs) x hx
  cases this
theorem lenz_congr {ds : List FR} {L L' : List Nat} (h : ∀ x, x ∈ L ↔ x ∈ L') : lenz ds L = lenz ds L' := by
  unfold lenz
  congr 1
  funext r d
  by_cases hr : r ∈ L
  · rw [if_pos hr, if_pos ((h r).mp hr)]
  · rw [if_neg hr, if_neg (fun z => hr ((h r).mpr z))]
end My


set_option Elab.async false
set_option linter.all false
set_option maxRecDepth 100000
set_option maxHeartbeats 4000000
namespace My
open PySem L2
def overB (r t g : Nat) : Bool := decide (min t (r + 1) ≤ g ∧ g < max t (r + 1))
def furtherF (x : Int) : Int := if 0 < x then x + 1 else x - 1
section
variable {P : Program} {w : World} {K : PySem.W.Frag} {mg : Str → Option Value} {base : Heap}
def spJO : Sp := fun vs H Q _ => ∃ (lr : Addr) (ds : List FR) (r g t : Nat) (d : FR), vs = [.ref lr, .int (r : Int), .int (g : Int)] ∧ RowsF H lr ds ∧ ds[r]? = some d ∧ d.ts = [(t : Int)] ∧ ∀ H', Same H H' → Q (.bl (overB r t g)) H'
theorem scJO : FnScope ["rows", "r", "other", "target"] ["rows", "r", "other"] (defScope sJOver) := ⟨rfl, rfl, rfl, by decide +kernel, rfl, by decide +kernel, by decide +kernel⟩
theorem ok_jo {f fT : Addr} {fd fdT : FuncData} (F : Fun K "jumps_over" "jumps_over" sJOver f fd) (T : Txt K w.params mg) (GT : FnOk P w K mg base CX0 1 fT fdT ["row"] spTargets) (kT : PySem.W.keepIn K (.ref fT) = true) (bT : Binds K fdT ["row"] []) (mT : mg "targets_of" = some (.ref fT)) : FnOk P w K mg base CX0 2 f fd ["rows", "r", "other"] spJO := by
  refine F.ok scJO (fun vs H Q E h => ?_) (fun cdv A outer s H vs Q E hr h => ?_)
  · obtain ⟨lr, ds, r, g, t, d, rfl, _⟩ := h
    rfl
  · obtain ⟨lr, ds, r, g, t, d, rfl, hR, hd, hts, k⟩ := h
    obtain ⟨qs, q, g1, g2, g2', g3⟩ := hR.get hd
    obtain ⟨items, i1, _, i3, _⟩ := g3.parts
    refine ⟨_, (pss_cons (ps_set (i := 3) scJO.nd rfl (Or.inl rfl) (pe_ix ix_list (pe_call GT hr (by rfl) mT kT bT .nil pass0 (pa_cons (pe_ix ix_list (pv 0) (pv 1) (fun _ _ => rfl)) pa_nil)) pe_int (fun _ _ => rfl)))
      (pss_one (ps_ret (pe_chain op_le op_lt (pe_callB (call_min2 rfl) (by rfl) T.min bt_min (pa_cons (pv 3) (pa_cons (pe_op op_add (pv 1) pe_int) pa_nil))) (pv 2) (pe_callB (call_max2 rfl) (by rfl) T.max bt_max (pa_cons (pv 3) (pa_cons (pe_op op_add (pv 1) pe_int) pa_nil))))))), ?_⟩
    refine ⟨_, rfl, _, rfl, lr, _, _, _, rfl, rfl, SqL.of g1, g2, q, d.u, d.ts, rfl, ⟨items, i1, i3⟩, fun l H1 s1 nl hl => ?_⟩
    rw [hts] at hl
    refine ⟨l, _, 0, .int (t : Int), rfl, rfl, SqL.of hl, rfl, ?_⟩
    have kk := k H1 s1
    unfold overB at kk
    have emin : (if (r : Int) + 1 < (t : Int) then (r : Int) + 1 else (t : Int)) = ((min t (r + 1) : Nat) : Int) := by split <;> omega
    have emax : (if (r : Int) + 1 > (t : Int) then (r : Int) + 1 else (t : Int)) = ((max t (r + 1) : Nat) : Int) := by split <;> omega
    refine ⟨_, rfl, _, rfl, _, _, rfl, rfl, _, _, rfl, ?_⟩
    refine ⟨_, rfl, _, _, rfl, rfl, _, rfl, ?_⟩
    refine ite2 (fun e => ?_) (fun e => ?_)
    · have e := of_decide_eq_true e
      rw [emin] at e
      refine ⟨_, rfl, _, rfl, _, _, rfl, rfl, _, _, rfl, _, _, rfl, rfl, ?_⟩
      rw [emax]
      have : decide (min t (r + 1) ≤ g ∧ g < max t (r + 1)) = decide ((g : Int) < ((max t (r + 1) : Nat) : Int)) := decide_eq_decide.mpr ⟨fun z => by omega, fun z => ⟨by omega, by omega⟩⟩
      rw [this] at kk
      exact kk
    · have e : ¬ (((min t (r + 1) : Nat) : Int) ≤ (g : Int)) := fun z => e (decide_eq_true (by rw [emin]; exact z))
      rw [decide_eq_false (fun z => e (by omega))] at kk
      exact kk
def spOF : Sp := fun vs H Q _ => ∃ x : Int, vs = [.int x] ∧ Q (.int (furtherF x)) H
theorem scOF : FnScope ["distance"] ["distance"] (defScope sFurther) := ⟨rfl, rfl, rfl, by decide +kernel, rfl, by decide +kernel, by decide +kernel⟩
theorem ok_of {f : Addr} {fd : FuncData} (F : Fun K "one_further" "one_further" sFurther f fd) (T : Txt K w.params mg) : FnOk P w K mg base CX0 1 f fd ["distance"] spOF := by
  refine F.ok scOF (fun vs H Q E h => ?_) (fun cdv A outer s H vs Q E hr h => ?_)
  · obtain ⟨x, rfl, _⟩ := h
    rfl
  · obtain ⟨x, rfl, k⟩ := h
    refine ⟨_, (pss_one (ps_ret (pe_ifExp (pt_cmpR op_gt (pv 0) pe_int (nomark _)) (pe_op op_add (pv 0) pe_int) (pe_op op_sub (pv 0) pe_int)))), ?_⟩
    unfold furtherF at k
    refine ⟨_, rfl, _, _, rfl, rfl, _, rfl, ?_⟩
    refine ite2 (fun e => ?_) (fun e => ?_)
    · rw [if_pos (of_decide_eq_true e)] at k
      exact ⟨_, rfl, _, _, rfl, rfl, k⟩
    · rw [if_neg (fun z => e (decide_eq_true z))] at k
      exact ⟨_, rfl, _, _, rfl, rfl, k⟩
def spWF : Sp := fun vs H Q _ => ∃ (p : Addr) (d : FR), vs = [.ref p, .int 1] ∧ RowF H p d ∧ ∀ (p' : Addr) (H' : Hp), Same H H' → RowF H' p' (setF d) → Q (.ref p') H'
theorem scWF : FnScope ["row", "far"] ["row", "far"] (defScope sWithFar) := ⟨rfl, rfl, rfl, by decide +kernel, rfl, by decide +kernel, by decide +kernel⟩
theorem ok_wf {f fH : Addr} {fd fdH : FuncData} (F : Fun K "with_far" "with_far" sWithFar f fd) (T : Txt K w.params mg) (GH : FnOk P w K mg base CX0 1 fH fdH ["word"] spFar) (kH : PySem.W.keepIn K (.ref fH) = true) (bH : Binds K fdH ["word"] []) (mH : mg "has_far" = some (.ref fH)) : FnOk P w K mg base CX0 2 f fd ["row", "far"] spWF := by
  refine F.ok scWF (fun vs H Q E h => ?_) (fun cdv A outer s H vs Q E hr h => ?_)
  · obtain ⟨p, d, rfl, _⟩ := h
    rfl
  · obtain ⟨p, d, rfl, hR, k⟩ := h
    obtain ⟨items, i1, _, i3, _⟩ := hR.parts
    have hok := hR.1
    refine ⟨_, (pss_one (ps_ret (pe_ifExp (pt_val (pe_call GH hr (by rfl) mH kH bH .nil pass0 (pa_cons (pe_ix ix_tup (pv 0) pe_int (fun _ _ => rfl)) pa_nil))) (pe_op op_catT (pe_slice sl_tup (pv 0) po_none (po_some (pe_un un_neg pe_int))) (pe_tup (pa_cons (pv 1) pa_nil))) (pv 0)))), ?_⟩
    refine ⟨_, rfl, p, _, 0, .str d.u, rfl, rfl, SqT.of i1, at0 _ _, d.u, rfl, hR.1.1, _, rfl, ?_⟩
    refine ite2 (fun e => ?_) (fun e => ?_)
    · have e := of_decide_eq_true e
      obtain ⟨nt, y1, _⟩ := five_row hR e
      have eS : setF d = ⟨d.u, d.is.dropLast ++ [1], d.ts⟩ := by unfold setF; rw [if_pos e]
      rw [eS] at k
      rcases (by decide +kernel : ∀ u ∈ five, u ∈ jcm ∨ u ∈ zb) _ e with z | z
      · obtain ⟨tt, ff, e1, e2⟩ := hok.2.2.1 z
        have ep : H p = some (.tup [V.str d.u, V.int tt, V.int ff]) := by rw [y1, e1]; rfl
        rw [e1, e2] at k
        refine ⟨_, rfl, 1, rfl, -1, rfl, p, _, rfl, SqT.of ep, (fun z => absurd z.2 (by show ¬ (2 : Nat) = 3; decide)), fun ta nta => ?_⟩
        refine ⟨_, rfl, (by show 1 ≤ sizeLine; decide), fun tb ntb => ?_⟩
        refine ⟨ta, tb, [V.str d.u, V.int tt], _, rfl, rfl, SqT.of (same_new ntb _ _ upd_same), SqT.of upd_same, List.cons_ne_nil _ _, (by show 3 ≤ sizeLine; decide), fun z => absurd z (List.cons_ne_nil _ _), fun _ tc ntc => ?_⟩
        exact k tc _ (((same_new nta).trans (same_new ntb)).trans (same_new ntc)) (row_jcm z upd_same)
      · obtain ⟨bb, tt, ff, e1, e2⟩ := hok.2.2.2.1 z
        have ep : H p = some (.tup [V.str d.u, V.int bb, V.int tt, V.int ff]) := by rw [y1, e1]; rfl
        rw [e1, e2] at k
        refine ⟨_, rfl, 1, rfl, -1, rfl, p, _, rfl, SqT.of ep, (fun z => absurd z.2 (by show ¬ (3 : Nat) = 4; decide)), fun ta nta => ?_⟩
        refine ⟨_, rfl, (by show 1 ≤ sizeLine; decide), fun tb ntb => ?_⟩
        refine ⟨ta, tb, [V.str d.u, V.int bb, V.int tt], _, rfl, rfl, SqT.of (same_new ntb _ _ upd_same), SqT.of upd_same, List.cons_ne_nil _ _, (by show 4 ≤ sizeLine; decide), fun z => absurd z (List.cons_ne_nil _ _), fun _ tc ntc => ?_⟩
        exact k tc _ (((same_new nta).trans (same_new ntb)).trans (same_new ntc)) (row_zb z upd_same)
    · have e : ¬ d.u ∈ five := fun z => e (decide_eq_true z)
      refine ⟨_, rfl, k p _ (.refl _) ?_⟩
      unfold setF
      rw [if_neg e]
      exact hR
end
end My


set_option Elab.async false
set_option linter.all false
set_option maxRecDepth 100000
set_option maxHeartbeats 4000000
namespace My
open PySem L2
theorem cnt_cons {g : Nat} {P : List Nat} (h : ¬ g ∈ P) : ∀ j, cnt (g :: P) j = cnt P j + if g < j then 1 else 0
  | 0 => by simp [cnt]
  | j + 1 => by
    rw [cnt_succ, cnt_succ, cnt_cons h j]
    have q1 : (if j ∈ g :: P then 1 else 0 : Nat) = (if j = g then 1 else 0) + (if j ∈ P then 1 else 0) := by
      by_cases e : j = g
      · rw [if_pos (show j ∈ g :: P by rw [e]; exact List.mem_cons_self), if_pos e, if_neg (by rw [e]; exact h)]
      · rw [if_neg e, Nat.zero_add]
        by_cases h1 : j ∈ P
        · rw [if_pos (List.mem_cons_of_mem _ h1), if_pos h1]
        · rw [if_neg (fun z => (List.mem_cons.mp z).elim e h1), if_neg h1]
    have q2 : (if g < j + 1 then 1 else 0 : Nat) = (if g < j then 1 else 0) + (if j = g then 1 else 0) := by
      by_cases e : j = g
      · rw [if_pos (by omega), if_neg (by omega), if_pos e]
      · by_cases h2 : g < j
        · rw [if_pos (by omega), if_pos h2, if_neg e]
        · rw [if_neg (by omega), if_neg h2, if_neg e]
    rw [q1, q2]
    omega
section
variable {ds : List FR} {P : List Nat} {g r t : Nat}
theorem between (hG : AllG ds) (hP : ∀ x ∈ P, ShortAt ds x) (hr : r < ds.length) (ht : t < ds.length) :
    (r + 1 ≤ t → (t : Int) - ((r : Int) + 1) ≤ dstT (lenz ds P) r (t : Int)) ∧ (t ≤ r → dstT (lenz ds P) r (t : Int) ≤ (t : Int) - ((r : Int) + 1)) := by
  rw [dst_lenz hP hr ht]
  unfold dstT
  rw [Int.toNat_natCast]
  refine ⟨fun h => ?_, fun h => ?_⟩
  · obtain ⟨k, rfl⟩ : ∃ k, t = r + 1 + k := ⟨t - (r + 1), by omega⟩
    have h2 := beg_le hG (a := r + 1) k (by omega)
    have h4 := cnt_le (L := P) (show r + 1 ≤ r + 1 + k by omega)
    omega
  · obtain ⟨k, hk⟩ : ∃ k, r + 1 = t + k := ⟨r + 1 - t, by omega⟩
    rw [hk]
    have h2 := beg_le hG (a := t) k (by omega)
    have h4 := cnt_le (L := P) (show t ≤ t + k by omega)
    omega
theorem over_iff : overB r t g = true ↔ (r + 1 ≤ g ∧ g < t) ∨ (t ≤ g ∧ g ≤ r) := by
  unfold overB
  rw [decide_eq_true_iff]
  omega
theorem step_over (hG : AllG ds) (hP : ∀ x ∈ P, ShortAt ds x) (hg : ShortAt ds g) (hn : ¬ g ∈ P) (hr : r < ds.length) (ht : t < ds.length) (h : overB r t g = true) : dstT (lenz ds (g :: P)) r (t : Int) = furtherF (dstT (lenz ds P) r (t : Int)) := by
  have hP' : ∀ x ∈ g :: P, ShortAt ds x := fun x hx => (List.mem_cons.mp hx).elim (fun z => by rw [z]; exact hg) (hP x)
  obtain ⟨b1, b2⟩ := between hG hP hr ht
  have e1 := dst_lenz hP hr ht
  rw [dst_lenz hP' hr ht, cnt_cons hn, cnt_cons hn]
  unfold furtherF
  rcases over_iff.mp h with ⟨h1, h2⟩ | ⟨h1, h2⟩
  · rw [if_pos h2, if_neg (by omega), if_pos (by have := b1 (by omega); omega)]
    omega
  · rw [if_neg (by omega), if_pos (by omega), if_neg (by have := b2 (by omega); omega)]
    omega
theorem step_not (hP : ∀ x ∈ P, ShortAt ds x) (hg : ShortAt ds g) (hn : ¬ g ∈ P) (hr : r < ds.length) (ht : t < ds.length) (h : overB r t g = false) : dstT (lenz ds (g :: P)) r (t : Int) = dstT (lenz ds P) r (t : Int) := by
  have hP' : ∀ x ∈ g :: P, ShortAt ds x := fun x hx => (List.mem_cons.mp hx).elim (fun z => by rw [z]; exact hg) (hP x)
  rw [dst_lenz hP' hr ht, dst_lenz hP hr ht, cnt_cons hn, cnt_cons hn]
  have h : ¬ ((r + 1 ≤ g ∧ g < t) ∨ (t ≤ g ∧ g ≤ r)) := fun z => by rw [over_iff.mpr z] at h; cases h
  by_cases h1 : g < t
  · rw [if_pos h1, if_pos (by omega)]; omega
  · rw [if_neg h1, if_neg (by omega)]; omega
/-- a short jump that is borne jumps over no row further off than 64 -/
theorem near (hG : AllG ds) (hP : ∀ x ∈ P, ShortAt ds x) (hr : r < ds.length) (ht : t < ds.length) (hb : borneF (dstT (lenz ds P) r (t : Int)) = true) (h : overB r t g = true) : g ≤ r + 64 ∧ r ≤ g + 64 := by
  obtain ⟨b1, b2⟩ := between hG hP hr ht
  unfold borneF at hb
  have hb := of_decide_eq_true hb
  rcases over_iff.mp h with ⟨h1, h2⟩ | ⟨h1, h2⟩
  · have := b1 (by omega); omega
  · have := b2 (by omega); omega
end
/-! ### the distances as a function on the short jumps -/
def keysL (ds : List FR) : List Nat := (shL ds ds.length).map (·.1)
def dKf (ks : List Nat) (D : Nat → Int) : List (Key × V) := dKof (ks.map fun r => (r, D r))
theorem keysL_mem {ds : List FR} {r : Nat} : r ∈ keysL ds ↔ ShortAt ds r := by
  unfold keysL shL ShortAt
  constructor
  · intro h
    obtain ⟨x, hx, rfl⟩ := List.mem_map.mp h
    obtain ⟨r, h1, h2⟩ := List.mem_filterMap.mp hx
    unfold shAt at h2
    cases hd : ds[r]? with
    | none => rw [hd] at h2; cases h2
    | some d =>
      rw [hd] at h2
      have h2 : (if shortF d = true then some (r, dst ds r d) else none) = some x := h2
      by_cases hs : shortF d = true
      · rw [if_pos hs] at h2
        cases h2
        exact ⟨d, hd, hs⟩
      · rw [if_neg hs] at h2
        cases h2
  · rintro ⟨d, hd, hs⟩
    refine List.mem_map.mpr ⟨(r, dst ds r d), List.mem_filterMap.mpr ⟨r, List.mem_range.mpr (List.getElem?_eq_some_iff.mp hd).1, ?_⟩, rfl⟩
    unfold shAt
    rw [hd]
    exact if_pos hs
theorem dKf_get {ks : List Nat} (hn : ks.Nodup) (D : Nat → Int) (r : Nat) : valV (dKf ks D) (Sum.inl (r : Int)) = if r ∈ ks then some (.int (D r)) else none := by
  by_cases h : r ∈ ks
  · rw [if_pos h]
    exact dKof_get (by rw [List.map_map]; show (ks.map fun r => r).Nodup; rw [List.map_id']; exact hn) (List.mem_map.mpr ⟨r, h, rfl⟩)
  · rw [if_neg h]
    unfold valV dKf dKof
    rw [Option.map_eq_none_iff, List.find?_eq_none]
    intro x hx z
    obtain ⟨y, hy, rfl⟩ := List.mem_map.mp hx
    obtain ⟨r', hr', rfl⟩ := List.mem_map.mp hy
    have := Sum.inl.inj (of_decide_eq_true z)
    exact h (by rw [show r = r' by omega]; exact hr')
theorem dKf_put {ks : List Nat} (D : Nat → Int) {r : Nat} (h : r ∈ ks) (x : Int) : putK (dKf ks D) (Sum.inl (r : Int)) (.int x) = dKf ks (fun j => if j = r then x else D j) := by
  unfold putK
  rw [if_pos (List.any_eq_true.mpr ⟨((Sum.inl (r : Int) : Key), V.int (D r)), by unfold dKf dKof; rw [List.map_map]; exact List.mem_map.mpr ⟨r, h, rfl⟩, decide_eq_true rfl⟩)]
  unfold dKf dKof
  rw [List.map_map, List.map_map, List.map_map]
  refine List.map_congr_left fun j _ => ?_
  show (if ((Sum.inl (j : Int) : Key)) = Sum.inl (r : Int) then ((Sum.inl (j : Int) : Key), V.int x) else (Sum.inl (j : Int), V.int (D j))) = (Sum.inl (j : Int), V.int (if j = r then x else D j))
  by_cases e : j = r
  · rw [if_pos (by rw [e]), if_pos e]
  · rw [if_neg (fun z => e (by have := Sum.inl.inj z; omega)), if_neg e]
end My


set_option Elab.async false
set_option linter.all false
set_option maxRecDepth 100000
set_option maxHeartbeats 4000000
namespace My
open PySem L2
theorem set_get {α : Type} {xs : List α} {j i : Nat} {y x : α} (h : (xs.set j y)[i]? = some x) : (i = j ∧ x = y) ∨ (i ≠ j ∧ xs[i]? = some x) := by
  by_cases e : i = j
  · subst e
    have hi := (List.getElem?_eq_some_iff.mp h).1
    rw [List.length_set] at hi
    rw [List.getElem?_set_self hi] at h
    exact .inl ⟨rfl, (Option.some.inj h).symm⟩
  · rw [List.getElem?_set_ne (fun z => e z.symm)] at h
    exact .inr ⟨e, h⟩
theorem lenz_set {ds : List FR} {L : List Nat} {r : Nat} {d : FR} (hd : ds[r]? = some d) : (lenz ds L).set r (setF d) = lenz ds (r :: L) := by
  refine List.ext_getElem? fun j => ?_
  by_cases e : j = r
  · subst e
    have hl := (List.getElem?_eq_some_iff.mp hd).1
    rw [List.getElem?_set_self (by rw [lenz_len]; exact hl), lenz_at hd, if_pos (by simp)]
  · rw [List.getElem?_set_ne (fun z => e z.symm)]
    cases h : ds[j]? with
    | none =>
      have : ds.length ≤ j := List.getElem?_eq_none_iff.mp h
      rw [List.getElem?_eq_none (by rw [lenz_len]; exact this), List.getElem?_eq_none (by rw [lenz_len]; exact this)]
    | some d' =>
      rw [lenz_at h, lenz_at h]
      have : (j ∈ r :: L) ↔ j ∈ L := by simp [e]
      by_cases hj : j ∈ L
      · rw [if_pos hj, if_pos (this.mpr hj)]
      · rw [if_neg hj, if_neg (fun z => hj (this.mp z))]
theorem nodup_lt : ∀ {L : List Nat} {n : Nat}, L.Nodup → (∀ x ∈ L, x < n) → L.length ≤ n := fun {L n} h1 h2 => by
  exact Nat.le_trans (h1.length_le_of_subset (l₂ := List.range n) fun x hx => List.mem_range.mpr (h2 x hx)) (by rw [List.length_range]; exact Nat.le_refl _)
end My


set_option Elab.async false
set_option linter.all false
set_option maxRecDepth 100000
set_option maxHeartbeats 4000000
namespace L2
open PySem PySem.Spec PyProof.Rows
/-- a comprehension over a dict's keys -/
theorem comp_keys {a : Addr} {o : Obj} {kvs : List (Key × V)} {g : TG} {tt : TT} {te : TE} {R : Hp → Prop} {D : Addr} {σ0 : St} {H0 : Hp} (Pv : Nat → St → List V → Hp → Prop) (h0 : Pv 0 σ0 [] H0) (hl : ∀ i σ ys H, i ≤ kvs.length → Pv i σ ys H → H a = some (.frz o (.dK kvs)))
    (hs : ∀ i k y σ ys H, kvs[i]? = some (k, y) → Pv i σ ys H → g (kV k) σ H fun σ2 H2 => tt σ2 H2 fun b H3 =>
      if b = true then te σ2 H3 fun v H4 => H4 D = some (.lst ys) ∧ ys.length < sizeLine ∧ Pv (i + 1) σ2 (ys ++ [v]) (upd H4 D (.lst (ys ++ [v]))) else Pv (i + 1) σ2 ys H3)
    (hd : ∀ σ ys H, Pv kvs.length σ ys H → R H) :
    ∃ W : Nat → Nat → St → List V → Hp → Prop, (∃ m, W 0 m σ0 [] H0) ∧ ∀ i m σ ys H, W i m σ ys H →
      ((Itk a o kvs).stop i H ∧ R H) ∨ ((Itk a o kvs).go i H ∧ ∃ N : St → List V → Hp → Prop, (∀ σ' ys' H', N σ' ys' H' → ∃ m', m' < m ∧ W (i + 1) m' σ' ys' H') ∧ ∀ x H', (Itk a o kvs).yld i H x H' → g x σ H' fun σ2 H2 => tt σ2 H2 fun b H3 =>
        if b = true then te σ2 H3 fun v H4 => H4 D = some (.lst ys) ∧ ys.length < sizeLine ∧ N σ2 (ys ++ [v]) (upd H4 D (.lst (ys ++ [v]))) else N σ2 ys H3) := by
  refine ⟨fun i m σ ys H => m = kvs.length - i ∧ i ≤ kvs.length ∧ Pv i σ ys H, ⟨kvs.length, by simp, Nat.zero_le _, h0⟩, ?_⟩
  rintro i m σ ys H ⟨rfl, hi, p⟩
  have q := hl i σ ys H hi p
  by_cases hlt : i < kvs.length
  · refine .inr ⟨⟨q, hlt⟩, Pv (i + 1), fun σ' ys' H' p' => ⟨kvs.length - (i + 1), by omega, rfl, hlt, p'⟩, fun x H' y => ?_⟩
    obtain ⟨rfl, k, v, e, rfl⟩ := y
    exact hs i k v σ ys _ e p
  · have e : i = kvs.length := by omega
    subst e
    exact .inl ⟨⟨q, Nat.le_refl _⟩, hd σ ys H p⟩
end L2


set_option Elab.async false
set_option linter.all false
set_option maxRecDepth 100000
set_option maxHeartbeats 4000000
namespace My
open PySem L2
def nD (ks : List Nat) : List (Key × V) := ks.map (fun r : Nat => ((Sum.inl (r : Int) : Key), V.bl true))
theorem nD_val (ks : List Nat) (r : Nat) : valV (nD ks) (Sum.inl (r : Int)) = if r ∈ ks then some (.bl true) else none := by
  induction ks with
  | nil => rfl
  | cons x t ih =>
    show valV ((Sum.inl (x : Int), V.bl true) :: nD t) _ = _
    by_cases e : x = r
    · subst e
      rw [valV_pos rfl, if_pos (by simp)]
    · have ne : ¬ ((Sum.inl (x : Int) : Key) = Sum.inl (r : Int)) := fun z => e (by have := Sum.inl.inj z; omega)
      rw [valV_neg ne, ih]
      by_cases h : r ∈ t
      · rw [if_pos h, if_pos (by simp [h])]
      · rw [if_neg h, if_neg (by simp [h]; omega)]
theorem nD_put {ks : List Nat} {r : Nat} (h : ¬ r ∈ ks) : putK (nD ks) (Sum.inl (r : Int)) (.bl true) = nD (ks ++ [r]) := by
  rw [putK_new _ (by rw [nD_val, if_neg h])]
  unfold nD
  rw [List.map_append]
  rfl
theorem nD_len (ks : List Nat) : (nD ks).length = ks.length := by unfold nD; rw [List.length_map]
def D0 (ds : List FR) (r : Nat) : Int := match ds[r]? with
  | some d => dst ds r d
  | none => 0
theorem shL_keys (ds : List FR) : shL ds ds.length = (keysL ds).map fun r => (r, D0 ds r) := by
  unfold keysL
  rw [List.map_map]
  have : ∀ x ∈ shL ds ds.length, ((fun r => (r, D0 ds r)) ∘ fun x : Nat × Int => x.1) x = x := fun x hx => by
    unfold shL at hx
    obtain ⟨r, _, h2⟩ := List.mem_filterMap.mp hx
    unfold shAt at h2
    cases hd : ds[r]? with
    | none => rw [hd] at h2; cases h2
    | some d =>
      rw [hd] at h2
      have h2 : (if shortF d = true then some (r, dst ds r d) else none) = some x := h2
      by_cases hs : shortF d = true
      · rw [if_pos hs] at h2
        cases h2
        show (r, D0 ds r) = (r, dst ds r d)
        unfold D0
        rw [hd]
      · rw [if_neg hs] at h2
        cases h2
  rw [List.map_congr_left this, List.map_id'']
  intro x
  rfl
theorem tgt {ds : List FR} (hG : AllG ds) {r : Nat} {d : FR} {H : Hp} {q : Addr} (hd : ds[r]? = some d) (hs : shortF d = true) (hrow : RowF H q d) : ∃ t : Nat, d.ts = [(t : Int)] ∧ t < ds.length ∧ ∀ es, dst es r d = dstT es r (t : Int) := by
  obtain ⟨_, _, _, t, ets, _⟩ := five_row hrow (short_five hs).1
  obtain ⟨t0, t1⟩ := (hG d (List.mem_of_getElem? hd)).2.1 t (by rw [ets]; simp)
  obtain ⟨tn, rfl⟩ := Int.eq_ofNat_of_zero_le t0
  exact ⟨tn, ets, by omega, fun es => by unfold dst; rw [ets]; rfl⟩
/-- the distances D, the long ones L, the waiting ones W, those gone through P -/
structure Gw (ds : List FR) (D : Nat → Int) (L W P : List Nat) : Prop where
  far : ∀ x ∈ L, Far ds x
  lw : ∀ x, x ∈ L ↔ x ∈ P ∨ x ∈ W
  nd : (W ++ P).Nodup
  lnd : L.Nodup
  ok : ∀ (r : Nat) d, ds[r]? = some d → shortF d = true → ¬ r ∈ L → D r = dst (lenz ds P) r d ∧ borneF (D r) = true
/-- the same within a turn: row g is taken, rows from i on (below hi) are not yet looked at -/
structure Gi (ds : List FR) (D : Nat → Int) (L W P : List Nat) (g hi i : Nat) : Prop where
  far : ∀ x ∈ L, Far ds x
  lw : ∀ x, x ∈ L ↔ x ∈ g :: P ∨ x ∈ W
  nd : (W ++ g :: P).Nodup
  lnd : L.Nodup
  ok1 : ∀ (r : Nat) d, ds[r]? = some d → shortF d = true → ¬ r ∈ L → i ≤ r ∧ r < hi → D r = dst (lenz ds P) r d ∧ borneF (D r) = true
  ok2 : ∀ (r : Nat) d, ds[r]? = some d → shortF d = true → ¬ r ∈ L → ¬ (i ≤ r ∧ r < hi) → D r = dst (lenz ds (g :: P)) r d ∧ borneF (D r) = true
theorem Gw.done {ds : List FR} {D : Nat → Int} {L P : List Nat} (hG : AllG ds) (h : Gw ds D L [] P) : ∀ x, x ∈ L ↔ Far ds x := by
  have e : ∀ x, x ∈ L ↔ x ∈ P := fun x => (h.lw x).trans (by simp)
  refine fun x => ⟨h.far x, far_is hG h.far (fun r d hd hs hn => ?_) x⟩
  obtain ⟨h1, h2⟩ := h.ok r d hd hs hn
  rw [lenz_congr e, ← h1]
  exact h2
theorem Gi.out {ds : List FR} {D : Nat → Int} {L W P : List Nat} {g hi i : Nat} (h : Gi ds D L W P g hi i) (hi' : hi ≤ i) : Gw ds D L W (g :: P) :=
  ⟨h.far, h.lw, h.nd, h.lnd, fun r d hd hs hn => h.ok2 r d hd hs hn (by omega)⟩
section
variable {ds : List FR} {D : Nat → Int} {L W P : List Nat} {g hi i : Nat}
theorem Gi.not_in (h : Gi ds D L W P g hi i) : ¬ g ∈ P := fun z => by
  have := (List.nodup_append.mp h.nd).2.1
  exact (List.nodup_cons.mp this).1 z
theorem Gi.shorts (h : Gi ds D L W P g hi i) : (∀ x ∈ P, ShortAt ds x) ∧ ShortAt ds g :=
  ⟨fun x hx => (h.far x ((h.lw x).mpr (.inl (List.mem_cons_of_mem _ hx)))).short, (h.far g ((h.lw g).mpr (.inl List.mem_cons_self))).short⟩
/-- nothing to do at row i -/
theorem Gi.skip (h : Gi ds D L W P g hi i) (hs : ∀ d, ds[i]? = some d → shortF d = true → ¬ i ∈ L → D i = dst (lenz ds (g :: P)) i d ∧ borneF (D i) = true) : Gi ds D L W P g hi (i + 1) :=
  ⟨h.far, h.lw, h.nd, h.lnd, fun r d hd h1 h2 h3 => h.ok1 r d hd h1 h2 (by omega), fun r d hd h1 h2 h3 => by
    by_cases e : r = i
    · subst e
      exact hs d hd h1 h2
    · exact h.ok2 r d hd h1 h2 (by omega)⟩
end
end My


set_option Elab.async false
set_option linter.all false
set_option maxRecDepth 100000
set_option maxHeartbeats 4000000
namespace My
open PySem L2
/-- each short jump has one target, a row -/
def OneT (ds : List FR) : Prop := ∀ (r : Nat) d, ds[r]? = some d → shortF d = true → ∃ t : Nat, d.ts = [(t : Int)] ∧ t < ds.length ∧ ∀ es, dst es r d = dstT es r (t : Int)
section
variable {ds : List FR} {D : Nat → Int} {L W P : List Nat} {g hi i : Nat}
theorem Gi.start (hG : AllG ds) (hT : OneT ds) (h : Gw ds D L (W ++ [g]) P) {lo : Nat} (hlo : lo = g - 64) (hhi : hi = min ds.length (g + 65)) : Gi ds D L W P g hi lo := by
  have hgP : ¬ g ∈ P := fun z => by
    have := (List.nodup_append.mp h.nd).2.2 g (by simp) g z
    exact this rfl
  have hP : ∀ x ∈ P, ShortAt ds x := fun x hx => (h.far x ((h.lw x).mpr (.inl hx))).short
  have hg : ShortAt ds g := (h.far g ((h.lw g).mpr (.inr (by simp)))).short
  refine ⟨h.far, fun x => ?_, ?_, h.lnd, fun r d hd hs hn _ => h.ok r d hd hs hn, fun r d hd hs hn hw => ?_⟩
  · rw [h.lw x, List.mem_append, List.mem_singleton, List.mem_cons]
    constructor
    · rintro (a | a | a)
      · exact .inl (.inr a)
      · exact .inr a
      · exact .inl (.inl a)
    · rintro ((a | a) | a)
      · exact .inr (.inr a)
      · exact .inl a
      · exact .inr (.inl a)
  · have := h.nd
    rw [List.append_assoc] at this
    exact this
  · obtain ⟨h1, h2⟩ := h.ok r d hd hs hn
    obtain ⟨t, _, ht, et⟩ := hT r d hd hs
    have hr := (List.getElem?_eq_some_iff.mp hd).1
    have hno : overB r t g = false := by
      cases ho : overB r t g with
      | false => rfl
      | true =>
        rw [et] at h1
        have := near hG hP hr ht (by rw [← h1]; exact h2) ho
        omega
    refine ⟨?_, h2⟩
    rw [h1, et, et, step_not hP hg hgP hr ht hno]
/-- row i does not jump over g -/
theorem Gi.pass (hT : OneT ds) (h : Gi ds D L W P g hi i) (hi' : i < hi) (hno : ∀ d (t : Nat), ds[i]? = some d → shortF d = true → d.ts = [(t : Int)] → ¬ i ∈ L → overB i t g = false) : Gi ds D L W P g hi (i + 1) :=
  h.skip fun d hd hs hn => by
    obtain ⟨h1, h2⟩ := h.ok1 i d hd hs hn (by omega)
    obtain ⟨t, ets, ht, et⟩ := hT i d hd hs
    have hr := (List.getElem?_eq_some_iff.mp hd).1
    refine ⟨?_, h2⟩
    rw [h1, et, et, step_not h.shorts.1 h.shorts.2 h.not_in hr ht (hno d t hd hs ets hn)]
/-- row i jumps over g -/
theorem Gi.over (hG : AllG ds) (hT : OneT ds) (h : Gi ds D L W P g hi i) (hi' : i < hi) {d : FR} {t : Nat} (hd : ds[i]? = some d) (hs : shortF d = true) (hn : ¬ i ∈ L) (ets : d.ts = [(t : Int)]) (ho : overB i t g = true) : furtherF (D i) = dst (lenz ds (g :: P)) i d := by
  obtain ⟨h1, h2⟩ := h.ok1 i d hd hs hn (by omega)
  obtain ⟨t', ets', ht, et⟩ := hT i d hd hs
  have e : t' = t := by
    rw [ets] at ets'
    have := List.cons.inj ets'
    omega
  subst e
  have hr := (List.getElem?_eq_some_iff.mp hd).1
  rw [h1, et, et, step_over hG h.shorts.1 h.shorts.2 h.not_in hr ht ho]
theorem Gi.keep (h : Gi ds D L W P g hi i) {x : Int} {d : FR} (hd : ds[i]? = some d) (hx : x = dst (lenz ds (g :: P)) i d) (hb : borneF x = true) : Gi ds (fun j => if j = i then x else D j) L W P g hi (i + 1) :=
  ⟨h.far, h.lw, h.nd, h.lnd, fun r d' hd' h1 h2 h3 => by
    show (if r = i then x else D r) = _ ∧ borneF (if r = i then x else D r) = true
    rw [if_neg (by omega)]
    exact h.ok1 r d' hd' h1 h2 (by omega), fun r d' hd' h1 h2 h3 => by
    show (if r = i then x else D r) = _ ∧ borneF (if r = i then x else D r) = true
    by_cases e : r = i
    · subst e
      rw [hd] at hd'
      cases hd'
      rw [if_pos rfl]
      exact ⟨hx, hb⟩
    · rw [if_neg e]
      exact h.ok2 r d' hd' h1 h2 (by omega)⟩
theorem Gi.add (h : Gi ds D L W P g hi i) {x : Int} {d : FR} (hd : ds[i]? = some d) (hs : shortF d = true) (hn : ¬ i ∈ L) (hx : x = dst (lenz ds (g :: P)) i d) (hb : borneF x = false) : Gi ds (fun j => if j = i then x else D j) (L ++ [i]) (W ++ [i]) P g hi (i + 1) := by
  have hfar : Far ds i := .mk (g :: P) (fun y hy => h.far y ((h.lw y).mpr (.inl hy))) hd hs (by rw [← hx]; exact hb)
  refine ⟨fun y hy => ?_, fun y => ?_, ?_, ?_, fun r d' hd' h1 h2 h3 => ?_, fun r d' hd' h1 h2 h3 => ?_⟩
  · rcases List.mem_append.mp hy with z | z
    · exact h.far y z
    · rw [List.mem_singleton.mp z]; exact hfar
  · rw [List.mem_append, List.mem_append, h.lw y, or_assoc]
  · have h1 : ¬ i ∈ W ++ g :: P := fun z => hn ((h.lw i).mpr ((List.mem_append.mp z).elim .inr .inl))
    rw [List.append_assoc]
    have h2 := List.nodup_append.mp h.nd
    rw [List.nodup_append]
    refine ⟨h2.1, ?_, fun a ha b hb' e => ?_⟩
    · show (i :: (g :: P)).Nodup
      exact List.nodup_cons.mpr ⟨fun z => h1 (List.mem_append_right _ z), h2.2.1⟩
    · rcases List.mem_cons.mp (show b ∈ i :: (g :: P) from hb') with z | z
      · rw [← z, ← e] at h1
        exact h1 (List.mem_append_left _ ha)
      · exact h2.2.2 a ha b z e
  · rw [List.nodup_append]
    exact ⟨h.lnd, by simp, fun a ha b hb' e => hn (by rw [← List.mem_singleton.mp hb', ← e]; exact ha)⟩
  · have hr : r ≠ i := by omega
    show (if r = i then x else D r) = _ ∧ borneF (if r = i then x else D r) = true
    rw [if_neg hr]
    exact h.ok1 r d' hd' h1 (fun z => h2 (List.mem_append_left _ z)) (by omega)
  · have hr : r ≠ i := fun z => h2 (by rw [z]; simp)
    show (if r = i then x else D r) = _ ∧ borneF (if r = i then x else D r) = true
    rw [if_neg hr]
    exact h.ok2 r d' hd' h1 (fun z => h2 (List.mem_append_left _ z)) (by omega)
end
/-- at the beginning: those that are not borne -/
theorem Gw.start {ds : List FR} : Gw ds (D0 ds) ((keysL ds).filter fun r => !borneF (D0 ds r)) ((keysL ds).filter fun r => !borneF (D0 ds r)) [] := by
  have e0 : lenz ds [] = ds := by
    refine List.ext_getElem? fun r => ?_
    unfold lenz
    rw [List.getElem?_mapIdx]
    cases ds[r]? <;> simp
  have hk : (keysL ds).Nodup := shL_nodup ds ds.length
  have hD : ∀ (r : Nat) d, ds[r]? = some d → D0 ds r = dst ds r d := fun r d hd => by unfold D0; rw [hd]
  refine ⟨fun x hx => ?_, fun x => by simp, by rw [List.append_nil]; exact hk.sublist List.filter_sublist, hk.sublist List.filter_sublist, fun r d hd hs hn => ?_⟩
  · obtain ⟨h1, h2⟩ := List.mem_filter.mp hx
    obtain ⟨d, hd, hs⟩ := keysL_mem.mp h1
    rw [hD x d hd] at h2
    exact .mk [] (fun y hy => (List.not_mem_nil hy).elim) hd hs (by rw [e0]; simpa using h2)
  · rw [e0]
    refine ⟨hD r d hd, ?_⟩
    cases hb : borneF (D0 ds r) with
    | true => rfl
    | false => exact absurd (List.mem_filter.mpr ⟨keysL_mem.mpr ⟨d, hd, hs⟩, by rw [hb]; rfl⟩) hn
end My


set_option Elab.async false
set_option linter.all false
set_option maxRecDepth 100000
set_option maxHeartbeats 4000000
namespace My
open PySem L2
section
variable {P : Program} {w : World} {K : PySem.W.Frag} {mg : Str → Option Value} {base : Heap}
def spToLen : Sp := fun vs H Q _ => ∃ (lr : Addr) (ds : List FR), vs = [.ref lr] ∧ RowsF H lr ds ∧ AllG ds ∧ ds.length ≤ 100000 ∧ ∀ (p : Addr) (L : List Nat) (H' : Hp), Same H H' → H p = none → H' p = some (.dK (nD L)) → (∀ x, x ∈ L ↔ Far ds x) → L.Nodup → Q (.ref p) H'
theorem scTL : FnScope ["rows", "distances", "waiting", "longer", "r", "grown"] ["rows"] (defScope sToLen) := ⟨rfl, rfl, rfl, by decide +kernel, rfl, by decide +kernel, by decide +kernel⟩
def csTLC1 : Scope := { kind := .function, names := [(".0", .local), ("r", .local), ("is_borne", .globalImplicit), ("distances", .free)], isGenerator := false, isCoroutine := false, more := [] }
theorem scTLC1 : CompSc (defScope sToLen) csTLC1 ["rows", "distances", "waiting", "longer", "r", "grown"] ["r", "distances"] [none, some 1] := ⟨rfl, by decide +kernel, by decide +kernel, by decide +kernel, by decide +kernel, by decide +kernel⟩
theorem ok_tolen {f fS fB fJ fO : Addr} {fd fdS fdB fdJ fdO : FuncData} (F : Fun K "jumps_to_lengthen" "jumps_to_lengthen" sToLen f fd) (T : Txt K w.params mg) (GS : FnOk P w K mg base CX0 4 fS fdS ["rows"] spShDist) (kS : PySem.W.keepIn K (.ref fS) = true) (bS : Binds K fdS ["rows"] []) (mS : mg "short_distances" = some (.ref fS)) (GB : FnOk P w K mg base CX0 1 fB fdB ["distance"] spBorne) (kB : PySem.W.keepIn K (.ref fB) = true) (bB : Binds K fdB ["distance"] []) (mB : mg "is_borne" = some (.ref fB)) (GJ : FnOk P w K mg base CX0 2 fJ fdJ ["rows", "r", "other"] spJO) (kJ : PySem.W.keepIn K (.ref fJ) = true) (bJ : Binds K fdJ ["rows", "r", "other"] []) (mJ : mg "jumps_over" = some (.ref fJ)) (GO : FnOk P w K mg base CX0 1 fO fdO ["distance"] spOF) (kO : PySem.W.keepIn K (.ref fO) = true) (bO : Binds K fdO ["distance"] []) (mO : mg "one_further" = some (.ref fO)) : FnOk P w K mg base CX0 5 f fd ["rows"] spToLen := by
  refine F.ok scTL (fun vs H Q E h => ?_) (fun cdv A outer s H vs Q E hr h => ?_)
  · obtain ⟨lr, ds, rfl, _⟩ := h
    rfl
  · obtain ⟨lr, ds, rfl, hR, hG, hn, k⟩ := h
    have hr1 : Room 1 (A.deeper (PyProof.Rows.envOfC "jumps_to_lengthen" (defScope sToLen) s.heap.objs.size f cdv)) := hr.mono (by decide)
    have hr2 : Room 2 (A.deeper (PyProof.Rows.envOfC "jumps_to_lengthen" (defScope sToLen) s.heap.objs.size f cdv)) := hr.mono (by decide)
    have hu : (A.deeper (PyProof.Rows.envOfC "jumps_to_lengthen" (defScope sToLen) s.heap.objs.size f cdv)).units + 1 < cLine := Nat.lt_of_le_of_lt (Nat.add_le_add_left (by decide : 1 ≤ 64) _) hr.units
    obtain ⟨tMO, hMO⟩ := T.mro
    obtain ⟨qs, r1, r2, r3⟩ := id hR
    have hT : OneT ds := fun r d hd hs => by
      have hq : qs[r]? = some (qs[r]'(by have := (List.getElem?_eq_some_iff.mp hd).1; omega)) := List.getElem?_eq_getElem _
      exact tgt hG hd hs (r3 r _ d hq hd)
    have hks : (keysL ds).Nodup := shL_nodup ds ds.length
    have hkl : (keysL ds).length ≤ ds.length := by unfold keysL; rw [List.length_map]; exact shL_len _ _
    have hklt : ∀ x ∈ keysL ds, x < ds.length := fun x hx => by
      obtain ⟨d, hd, _⟩ := keysL_mem.mp hx
      exact (List.getElem?_eq_some_iff.mp hd).1
    refine wrapX (pssx_cons (psx_of (ps_set (i := 1) scTL.nd rfl (Or.inr rfl) (pe_call GS hr (by rfl) mS kS bS .nil pass0 (pa_cons (pv 0) pa_nil))))
      (pssx_cons (psx_of (ps_thaw (ps_comp (i := 2) (N' := ["r", "distances"]) (fr := [none, some 1]) scTL.nd rfl rfl scTLC1 rfl (pi_keys (pv 1)) (fun C s0 H0 fp => (pg_name (i := 0) scTLC1.nd rfl (Or.inl rfl))) (fun C s0 H0 fp => (pts_one (pt_not (pt_val (pe_call GB hr1 (by rfl) mB kB bB .nil pass0 (pa_cons (pe_dget hu (pv 1) (pv 0) (fun _ _ => rfl)) pa_nil)))))) (fun C s0 H0 fp => (pv 0)))))
      (pssx_cons (psx_of (ps_set (i := 3) scTL.nd rfl (Or.inl rfl) pe_dnewK))
      (pssx_cons (psx_of (ps_for PassesOwn.never rfl (pi_list (pv 2)) (pg_name (i := 4) scTL.nd rfl (Or.inl rfl)) (pss_one (ps_dput hu (pv 3) (pv 4) pe_bl rfl))))
      (pssx_cons (psx_of (ps_while PassesOwn.never (pt_cmpR op_gt (pe_callB call_len_seq (by rfl) T.len bt_len (pa_cons (pv 2) pa_nil)) pe_int (nomark _)) (pss_cons (ps_set (i := 5) scTL.nd rfl (Or.inl rfl) (pe_bm0 PySem.F.plainAttrs_list PySem.F.slot_list_pop PySem.F.type_list_pop mt_pop (pv 2)))
      (pss_one (ps_for PassesOwn.never rfl (pi_range2 rfl T.range (pa_cons (pe_callB (call_max2 rfl) (by rfl) T.max bt_max (pa_cons pe_int (pa_cons (pe_op op_sub (pv 5) (pe_glob (v := .int 64) (by rfl) hMO ⟨_, rfl⟩)) pa_nil))) (pa_cons (pe_callB (call_min2 rfl) (by rfl) T.min bt_min (pa_cons (pe_callB call_len_seq (by rfl) T.len bt_len (pa_cons (pv 0) pa_nil)) (pa_cons (pe_op op_add (pe_op op_add (pv 5) (pe_glob (v := .int 64) (by rfl) hMO ⟨_, rfl⟩)) pe_int) pa_nil))) pa_nil))) (pg_name (i := 4) scTL.nd rfl (Or.inl rfl)) (pss_one (ps_if (pw_and (pt_cmp (pc_din hu (pv 4) (pv 1))) (pw_and (pt_cmp (pc_dnotin hu (pv 4) (pv 3))) (pw_and1 (pt_val (pe_call GJ hr2 (by rfl) mJ kJ bJ .nil pass0 (pa_cons (pv 0) (pa_cons (pv 4) (pa_cons (pv 5) pa_nil)))))))).pt (pss_cons (ps_dput hu (pv 1) (pv 4) (pe_call GO hr1 (by rfl) mO kO bO .nil pass0 (pa_cons (pe_dget hu (pv 1) (pv 4) (fun _ _ => rfl)) pa_nil)) rfl)
      (pss_one (ps_if (pt_not (pt_val (pe_call GB hr1 (by rfl) mB kB bB .nil pass0 (pa_cons (pe_dget hu (pv 1) (pv 4) (fun _ _ => rfl)) pa_nil)))) (pss_cons (ps_dput hu (pv 3) (pv 4) pe_bl rfl)
      (pss_one (ps_expr (pe_bm PySem.F.plainAttrs_list PySem.F.slot_list_append PySem.F.type_list_append mt_append (pv 2) (pa_cons (pv 4) pa_nil))))) pss_nil))) pss_nil)))))))
      (pssx_one (psx_of (ps_ret (pv 3))))))))) ?_
    refine ⟨_, rfl, lr, ds, rfl, hR, hG.tg, hn, fun pd G1 s1 npd hpd => ?_⟩
    have ek : dKof (shL ds ds.length) = dKf (keysL ds) (D0 ds) := by unfold dKf; rw [← shL_keys]
    rw [ek] at hpd
    have kat : ∀ (j : Nat) ky y, (dKf (keysL ds) (D0 ds))[j]? = some (ky, y) → ∃ r, (keysL ds)[j]? = some r ∧ ky = Sum.inl (r : Int) ∧ y = .int (D0 ds r) := fun j ky y h => by
      unfold dKf dKof at h
      rw [List.map_map, List.getElem?_map] at h
      obtain ⟨r, hr', e⟩ := Option.map_eq_some_iff.mp h
      cases e
      exact ⟨r, hr', rfl, rfl⟩
    refine ⟨_, rfl, pd, _, rfl, hpd, fun o nf Dw nDw => ?_⟩
    refine comp_keys (a := pd) (o := o) (kvs := dKf (keysL ds) (D0 ds)) (fun j σ ys G => ∃ v : Option V, σ = [v, some (.ref pd)] ∧ ys = (((keysL ds).take j).filter fun r => !borneF (D0 ds r)).map (fun r : Nat => V.int (r : Int)) ∧ Same H G ∧ G pd = some (.frz o (.dK (dKf (keysL ds) (D0 ds)))) ∧ G Dw = some (.lst ys)) ?_ ?_ ?_ ?_
    · refine ⟨none, rfl, rfl, ?_, ?_, upd_same⟩
      · exact same_put (same_put s1 npd) ((same_put (o := .frz o (.dK (dKf (keysL ds) (D0 ds)))) s1 npd).free nDw)
      · rw [upd_ne (fun z => by rw [← z, upd_same] at nDw; cases nDw), upd_same]
    · rintro j σ ys G _ ⟨v, rfl, rfl, _, h, _⟩
      exact h
    · rintro j ky y σ ys G hx ⟨v, rfl, rfl, s2, hp2, hD⟩
      obtain ⟨r, hkr, rfl, rfl⟩ := kat j ky y hx
      have tk : (keysL ds).take (j + 1) = (keysL ds).take j ++ [r] := by rw [List.take_add_one, hkr]; rfl
      refine ⟨_, rfl, _, rfl, pd, .int (D0 ds r), rfl, .inl ⟨_, Sum.inl (r : Int), .inr ⟨_, hp2⟩, rfl, ?_⟩, D0 ds r, rfl, _, rfl, ?_⟩
      · rw [dKf_get hks, if_pos (List.mem_of_getElem? hkr)]
      refine ite2 (fun e => ?_) (fun e => ?_)
      · refine ⟨_, rfl, hD, small_lt ?_, _, rfl, ?_, same_put s2 ?_, ?_, upd_same⟩
        · rw [List.length_map]
          exact Nat.le_trans (List.length_filter_le _ _) (by rw [List.length_take]; omega)
        · rw [tk, List.filter_append, List.map_append, List.filter_cons_of_pos (p := fun r => !borneF (D0 ds r)) e]
          rfl
        · exact (same_put (o := .frz o (.dK (dKf (keysL ds) (D0 ds)))) s1 npd).free nDw
        · rw [upd_ne (fun z => by rw [z, hD] at hp2; cases hp2)]
          exact hp2
      · refine ⟨_, rfl, ?_, s2, hp2, hD⟩
        rw [tk, List.filter_append, List.filter_cons_of_neg (p := fun r => !borneF (D0 ds r)) e]
        simp
    · rintro σ ys G ⟨v, rfl, rfl, s2, hp2, hD⟩
      have hlk : (dKf (keysL ds) (D0 ds)).length = (keysL ds).length := by unfold dKf dKof; rw [List.length_map, List.length_map]
      rw [hlk, List.take_length] at hD
      refine ⟨pd, o, _, hp2, nf, ?_⟩
      have s3 : Same H (upd G pd (.dK (dKf (keysL ds) (D0 ds)))) := same_put s2 npd
      have hp3 : upd G pd (.dK (dKf (keysL ds) (D0 ds))) pd = _ := upd_same
      have neDp : Dw ≠ pd := fun z => by rw [z, hp2] at hD; cases hD
      have hD3 : upd G pd (.dK (dKf (keysL ds) (D0 ds))) Dw = some (.lst (((keysL ds).filter fun r => !borneF (D0 ds r)).map fun r : Nat => V.int (r : Int))) := by rw [upd_ne neDp]; exact hD
      have nDH : H Dw = none := (same_put (o := .frz o (.dK (dKf (keysL ds) (D0 ds)))) s1 npd).free nDw
      have gw0 := Gw.start (ds := ds)
      generalize ((keysL ds).filter fun r => !borneF (D0 ds r)) = ws at hD3 gw0
      generalize upd G pd (.dK (dKf (keysL ds) (D0 ds))) = Ga at s3 hp3 hD3 ⊢
      refine fun pl npl => ?_
      have nplH : H pl = none := s3.free npl
      have nelp : pl ≠ pd := fun z => by rw [z, hp3] at npl; cases npl
      have nelD : pl ≠ Dw := fun z => by rw [z, hD3] at npl; cases npl
      have s4 := s3.trans (same_new (o := .dK []) npl)
      have hp4 := same_new (o := .dK []) npl _ _ hp3
      have hD4 := same_new (o := .dK []) npl _ _ hD3
      have hl4 : upd Ga pl (.dK []) pl = some (.dK (nD ([] : List Nat))) := upd_same
      generalize upd Ga pl (.dK []) = Gb at s4 hp4 hD4 hl4 ⊢
      have hwl : ws.length ≤ ds.length := nodup_lt gw0.lnd fun x hx => by
        obtain ⟨d, h1, _⟩ := (gw0.far x hx).short
        exact (List.getElem?_eq_some_iff.mp h1).1
      refine ⟨_, rfl, Dw, rfl, ⟨_, SqL.of hD4⟩, for_list (K := K) (a := Dw) (xs := ws.map fun r : Nat => V.int (r : Int)) (fun i σ G => ∃ v : Option V, σ = [some (.ref lr), some (.ref pd), some (.ref Dw), some (.ref pl), v, none] ∧ Same H G ∧ G pd = some (.dK (dKf (keysL ds) (D0 ds))) ∧ G Dw = some (.lst (ws.map fun r : Nat => V.int (r : Int))) ∧ G pl = some (.dK (nD (ws.take i)))) ?_ ?_ ?_ ?_⟩
      · exact ⟨none, rfl, s4, hp4, hD4, hl4⟩
      · rintro i σ G' _ ⟨v, rfl, _, _, h, _⟩
        exact SqL.of h
      · rintro i x σ G' hx ⟨v, rfl, s5, hp5, hD5, hl5⟩
        rw [List.getElem?_map] at hx
        obtain ⟨r, hr', rfl⟩ := Option.map_eq_some_iff.mp hx
        have hil := (List.getElem?_eq_some_iff.mp hr').1
        have hni : ¬ r ∈ ws.take i := fun z => by
          have hnd := gw0.lnd
          rw [← List.take_append_drop i ws] at hnd
          exact (List.nodup_append.mp hnd).2.2 r z r (List.mem_of_getElem? (i := 0) (by rw [List.getElem?_drop]; exact hr')) rfl
        refine ⟨_, rfl, _, rfl, pl, _, rfl, DPut.k (k := Sum.inl (r : Int)) hl5 (by rw [nD_len, List.length_take]; exact small_lt (by omega)), ?_⟩
        rw [nD_put hni]
        have tk : ws.take (i + 1) = ws.take i ++ [r] := by rw [List.take_add_one, hr']; rfl
        refine ⟨_, rfl, same_put s5 nplH, by rw [upd_ne (Ne.symm nelp)]; exact hp5, by rw [upd_ne (Ne.symm nelD)]; exact hD5, by rw [upd_same, tk]⟩
      · rintro σ G' ⟨v, rfl, s5, hp5, hD5, hl5⟩
        rw [List.length_map, List.take_length] at hl5
        refine ⟨fun mm σ G => ∃ (D : Nat → Int) (L W P : List Nat) (v4 v5 : Option V), σ = [some (.ref lr), some (.ref pd), some (.ref Dw), some (.ref pl), v4, v5] ∧ Same H G ∧ G pd = some (.dK (dKf (keysL ds) D)) ∧ G Dw = some (.lst (W.map fun r : Nat => V.int (r : Int))) ∧ G pl = some (.dK (nD L)) ∧ Gw ds D L W P ∧ mm = ds.length - P.length, ⟨_, D0 ds, ws, ws, [], _, _, rfl, s5, hp5, hD5, hl5, gw0, rfl⟩, ?_⟩
        rintro mm σ G2 ⟨D, L, W, P, v4, v5, rfl, s6, hp6, hD6, hl6, gw, rfl⟩
        refine ⟨_, rfl, Dw, _, rfl, .inl (SqL.of hD6), _, _, rfl, rfl, _, rfl, ?_⟩
        refine ite2 (fun e => ?_) (fun e => ?_)
        · have e := of_decide_eq_true e
          rw [List.length_map] at e
          obtain ⟨W0, g, rfl⟩ : ∃ ys x, W = ys ++ [x] := ⟨_, _, (List.dropLast_concat_getLast (fun z => by rw [z] at e; simp at e)).symm⟩
          have hPl : (g :: P).length ≤ ds.length := nodup_lt (by have := (List.nodup_append.mp (by have := gw.nd; rw [List.append_assoc] at this; exact this)).2.1; exact this) fun x hx => by
            obtain ⟨d, h1, _⟩ := (gw.far x ((gw.lw x).mpr ((List.mem_cons.mp hx).elim (fun z => by rw [z]; exact .inr (by simp)) .inl))).short
            exact (List.getElem?_eq_some_iff.mp h1).1
          rw [List.length_cons] at hPl
          have hgl : g < ds.length := by
            obtain ⟨d, h1, _⟩ := (gw.far g ((gw.lw g).mpr (.inr (by simp)))).short
            exact (List.getElem?_eq_some_iff.mp h1).1
          refine ⟨fun σ' G' => ∃ (D : Nat → Int) (L W : List Nat) (v4 v5 : Option V), σ' = [some (.ref lr), some (.ref pd), some (.ref Dw), some (.ref pl), v4, v5] ∧ Same H G' ∧ G' pd = some (.dK (dKf (keysL ds) D)) ∧ G' Dw = some (.lst (W.map fun r : Nat => V.int (r : Int))) ∧ G' pl = some (.dK (nD L)) ∧ Gw ds D L W (g :: P), ?_, ?_⟩
          · rintro σ' G' ⟨D, L, W, v4, v5, rfl, a1, a2, a3, a4, a5⟩
            exact ⟨ds.length - (g :: P).length, by rw [List.length_cons]; omega, D, L, W, g :: P, v4, v5, rfl, a1, a2, a3, a4, a5, rfl⟩
          refine ⟨_, rfl, .inl ⟨rfl, _, SqL.of hD6⟩, Dw, _, .int (g : Int), rfl, rfl, hD6, by simp, ?_⟩
          have edl : ((W0 ++ [g]).map fun r : Nat => V.int (r : Int)).dropLast = W0.map fun r : Nat => V.int (r : Int) := by simp
          rw [edl]
          have s7 : Same H (upd G2 Dw (.lst (W0.map fun r : Nat => V.int (r : Int)))) := same_put s6 nDH
          have hp7 : upd G2 Dw (.lst (W0.map fun r : Nat => V.int (r : Int))) pd = some (.dK (dKf (keysL ds) D)) := by rw [upd_ne (Ne.symm neDp)]; exact hp6
          have hl7 : upd G2 Dw (.lst (W0.map fun r : Nat => V.int (r : Int))) pl = some (.dK (nD L)) := by rw [upd_ne nelD]; exact hl6
          have hD7 : upd G2 Dw (.lst (W0.map fun r : Nat => V.int (r : Int))) Dw = _ := upd_same
          generalize upd G2 Dw (.lst (W0.map fun r : Nat => V.int (r : Int))) = G7 at s7 hp7 hl7 hD7 ⊢
          have emax : (if (g : Int) - 64 > 0 then (g : Int) - 64 else 0) = ((g - 64 : Nat) : Int) := by split <;> omega
          have emin : (if (g : Int) + 64 + 1 < ((qs.map V.ref).length : Nat) then (g : Int) + 64 + 1 else ((qs.map V.ref).length : Nat)) = ((min ds.length (g + 65) : Nat) : Int) := by rw [List.length_map, r2]; split <;> omega
          refine ⟨_, rfl, _, _, rfl, rfl, _, _, rfl, _, rfl, lr, _, rfl, .inl (SqL.of (s7 _ _ r1)), _, rfl, _, _, rfl, rfl, _, _, rfl, rfl, _, _, rfl, ((g - 64 : Nat) : Int), ((min ds.length (g + 65) : Nat) : Int), by rw [emax, emin], by omega, ?_⟩
          refine for_range (lo := ((g - 64 : Nat) : Int)) (n := (((min ds.length (g + 65) : Nat) : Int) - ((g - 64 : Nat) : Int)).toNat) (fun i σ G' => ∃ (D : Nat → Int) (L W : List Nat) (v4 : Option V), σ = [some (.ref lr), some (.ref pd), some (.ref Dw), some (.ref pl), v4, some (.int (g : Int))] ∧ Same H G' ∧ G' pd = some (.dK (dKf (keysL ds) D)) ∧ G' Dw = some (.lst (W.map fun r : Nat => V.int (r : Int))) ∧ G' pl = some (.dK (nD L)) ∧ Gi ds D L W P g (min ds.length (g + 65)) (g - 64 + i)) ?_ ?_ ?_
          · exact ⟨D, L, W0, _, rfl, s7, hp7, hD7, hl7, Gi.start hG hT gw rfl rfl⟩
          · rintro i σ G8 hi ⟨D, L, W, v4, rfl, s8, hp8, hD8, hl8, gi⟩
            have er : ((g - 64 : Nat) : Int) + (i : Int) = ((g - 64 + i : Nat) : Int) := by omega
            rw [er]
            have hiw : g - 64 + i < min ds.length (g + 65) := by omega
            generalize hr0 : g - 64 + i = r at gi hiw
            have hLl : L.length ≤ ds.length := nodup_lt gi.lnd fun x hx => by
              obtain ⟨d, h1, _⟩ := (gi.far x hx).short
              exact (List.getElem?_eq_some_iff.mp h1).1
            have hWl : W.length ≤ ds.length := nodup_lt (List.nodup_append.mp gi.nd).1 fun x hx => by
              obtain ⟨d, h1, _⟩ := (gi.far x ((gi.lw x).mpr (.inr hx))).short
              exact (List.getElem?_eq_some_iff.mp h1).1
            have hd : ds[r]? = some (ds[r]'(by omega)) := List.getElem?_eq_getElem _
            generalize ds[r]'(by omega) = d at hd
            refine ⟨_, rfl, _, rfl, pd, _, rfl, DGet.k (k := Sum.inl (r : Int)) hp8, _, rfl, ?_⟩
            rw [dKf_get hks]
            have er1 : g - 64 + (i + 1) = r + 1 := by omega
            have skip : (∀ d', ds[r]? = some d' → shortF d' = true → ¬ r ∈ L → D r = dst (lenz ds (g :: P)) r d' ∧ borneF (D r) = true) → Gi ds D L W P g (min ds.length (g + 65)) (g - 64 + (i + 1)) := fun h => by rw [er1]; exact gi.skip h
            by_cases hk' : r ∈ keysL ds
            · rw [if_pos hk']
              obtain ⟨d', hd', hs⟩ := keysL_mem.mp hk'
              rw [hd] at hd'
              cases hd'
              refine iteP rfl ?_
              refine ⟨_, rfl, _, rfl, pl, _, rfl, DGet.k (k := Sum.inl (r : Int)) hl8, _, rfl, ?_⟩
              rw [nD_val]
              by_cases hL : r ∈ L
              · rw [if_pos hL]
                exact iteN (by decide) (iteN (by decide) ⟨D, L, W, _, rfl, s8, hp8, hD8, hl8, skip fun _ _ _ z => absurd hL z⟩)
              · rw [if_neg hL]
                refine iteP rfl ?_
                obtain ⟨tn, ets, htl, et⟩ := hT r d hd hs
                refine ⟨_, rfl, _, rfl, _, rfl, lr, ds, r, g, tn, d, rfl, hR.same s8, hd, ets, fun G9 s9 => ⟨_, rfl, ?_⟩⟩
                have hp9 := s9 _ _ hp8
                have hD9 := s9 _ _ hD8
                have hl9 := s9 _ _ hl8
                have sA := s8.trans s9
                refine ite2 (fun eo => ?_) (fun eo => ?_)
                · have hx := gi.over hG hT hiw hd hs hL ets eo
                  refine ⟨_, rfl, _, rfl, pd, .int (D r), rfl, .inl ⟨_, Sum.inl (r : Int), .inl hp9, rfl, by rw [dKf_get hks, if_pos hk']⟩, D r, rfl, _, rfl, _, rfl, pd, _, rfl, DPut.k (k := Sum.inl (r : Int)) hp9 (by unfold dKf dKof; rw [List.length_map, List.length_map]; exact small_lt (by omega)), ?_⟩
                  rw [dKf_put D hk']
                  have sB : Same H (upd G9 pd (.dK (dKf (keysL ds) fun j => if j = r then furtherF (D r) else D j))) := same_put sA npd
                  have hpB : upd G9 pd (.dK (dKf (keysL ds) fun j => if j = r then furtherF (D r) else D j)) pd = _ := upd_same
                  have hDB : upd G9 pd (.dK (dKf (keysL ds) fun j => if j = r then furtherF (D r) else D j)) Dw = some (.lst (W.map fun r : Nat => V.int (r : Int))) := by rw [upd_ne neDp]; exact hD9
                  have hlB : upd G9 pd (.dK (dKf (keysL ds) fun j => if j = r then furtherF (D r) else D j)) pl = some (.dK (nD L)) := by rw [upd_ne nelp]; exact hl9
                  generalize upd G9 pd (.dK (dKf (keysL ds) fun j => if j = r then furtherF (D r) else D j)) = GB at sB hpB hDB hlB ⊢
                  refine ⟨_, rfl, _, rfl, pd, .int (furtherF (D r)), rfl, .inl ⟨_, Sum.inl (r : Int), .inl hpB, rfl, by rw [dKf_get hks, if_pos hk', if_pos rfl]⟩, furtherF (D r), rfl, _, rfl, ?_⟩
                  refine ite2 (fun eb => ?_) (fun eb => ?_)
                  · have eb : borneF (furtherF (D r)) = false := by simpa using eb
                    refine ⟨_, rfl, _, rfl, pl, _, rfl, DPut.k (k := Sum.inl (r : Int)) hlB (by rw [nD_len]; exact small_lt (by omega)), ?_⟩
                    rw [nD_put hL]
                    have hDC : upd GB pl (.dK (nD (L ++ [r]))) Dw = some (.lst (W.map fun r : Nat => V.int (r : Int))) := by rw [upd_ne (Ne.symm nelD)]; exact hDB
                    refine ⟨_, rfl, .inl ⟨rfl, _, SqL.of hDC⟩, _, rfl, Dw, _, _, rfl, rfl, hDC, small_lt (by rw [List.length_map]; omega), ?_⟩
                    refine ⟨_, L ++ [r], W ++ [r], _, rfl, same_put (same_put sB nplH) nDH, by rw [upd_ne (Ne.symm neDp), upd_ne (Ne.symm nelp)]; exact hpB, by rw [upd_same, List.map_append]; rfl, by rw [upd_ne nelD, upd_same], by rw [er1]; exact gi.add hd hs hL hx eb⟩
                  · have eb : borneF (furtherF (D r)) = true := by simpa using eb
                    exact ⟨_, L, W, _, rfl, sB, hpB, hDB, hlB, by rw [er1]; exact gi.keep hd hx eb⟩
                · have eo : overB r tn g = false := Bool.eq_false_iff.mpr eo
                  refine ⟨D, L, W, _, rfl, sA, hp9, hD9, hl9, ?_⟩
                  rw [er1]
                  exact gi.pass hT hiw fun d2 t2 h2 _ h4 _ => by
                    rw [hd] at h2
                    cases h2
                    rw [ets] at h4
                    have := List.cons.inj h4
                    have e9 : t2 = tn := by omega
                    rw [e9]
                    exact eo
            · rw [if_neg hk']
              exact iteN (by decide) (iteN (by decide) ⟨D, L, W, _, rfl, s8, hp8, hD8, hl8, skip fun d' h1 h2 _ => absurd (keysL_mem.mpr ⟨d', h1, h2⟩) hk'⟩)
          · rintro σ G8 ⟨D, L, W, v4, rfl, s8, hp8, hD8, hl8, gi⟩
            exact ⟨D, L, W, _, _, rfl, s8, hp8, hD8, hl8, gi.out (by omega)⟩
        · have hW : W = [] := by
            cases W with
            | nil => rfl
            | cons a b => exact absurd (decide_eq_true (by rw [List.length_map, List.length_cons]; omega)) e
          subst hW
          exact ⟨_, rfl, k pl L _ s6 nplH hl6 (gw.done hG) gw.lnd⟩
end
end My


set_option Elab.async false
set_option linter.all false
set_option maxRecDepth 100000
set_option maxHeartbeats 4000000
namespace My
open PySem L2
section
variable {P : Program} {w : World} {K : PySem.W.Frag} {mg : Str → Option Value} {base : Heap}
def spLeast : Sp := fun vs H Q _ => ∃ (lr : Addr) (ds : List FR), vs = [.ref lr] ∧ RowsF H lr ds ∧ AllG ds ∧ ds.length ≤ 100000 ∧ ∀ (l : Addr) (L : List Nat) (H' : Hp), Same H H' → H l = none → RowsF H' l (lenz ds L) → (∀ x, x ∈ L ↔ Far ds x) → Q (.ref l) H'
theorem scLst : FnScope ["rows", "longer"] ["rows"] (defScope sLeast) := ⟨rfl, rfl, rfl, by decide +kernel, rfl, by decide +kernel, by decide +kernel⟩
def csLstC1 : Scope := { kind := .function, names := [(".0", .local), ("r", .local), ("row", .local), ("with_far", .globalImplicit), ("longer", .free)], isGenerator := false, isCoroutine := false, more := [] }
theorem scLstC1 : CompSc (defScope sLeast) csLstC1 ["rows", "longer"] ["r", "row", "longer"] [none, none, some 1] := ⟨rfl, by decide +kernel, by decide +kernel, by decide +kernel, by decide +kernel, by decide +kernel⟩
theorem ok_least {f fT fW : Addr} {fd fdT fdW : FuncData} (F : Fun K "least_layout" "least_layout" sLeast f fd) (T : Txt K w.params mg) (GT : FnOk P w K mg base CX0 5 fT fdT ["rows"] spToLen) (kT : PySem.W.keepIn K (.ref fT) = true) (bT : Binds K fdT ["rows"] []) (mT : mg "jumps_to_lengthen" = some (.ref fT)) (GW : FnOk P w K mg base CX0 2 fW fdW ["row", "far"] spWF) (kW : PySem.W.keepIn K (.ref fW) = true) (bW : Binds K fdW ["row", "far"] []) (mW : mg "with_far" = some (.ref fW)) : FnOk P w K mg base CX0 6 f fd ["rows"] spLeast := by
  refine F.ok scLst (fun vs H Q E h => ?_) (fun cdv A outer s H vs Q E hr h => ?_)
  · obtain ⟨lr, ds, rfl, _⟩ := h
    rfl
  · obtain ⟨lr, ds, rfl, hR, hG, hn, k⟩ := h
    have hr2 : Room 2 (A.deeper (PyProof.Rows.envOfC "least_layout" (defScope sLeast) s.heap.objs.size f cdv)) := hr.mono (by decide)
    have hu : (A.deeper (PyProof.Rows.envOfC "least_layout" (defScope sLeast) s.heap.objs.size f cdv)).units + 1 < cLine := Nat.lt_of_le_of_lt (Nat.add_le_add_left (by decide : 1 ≤ 64) _) hr.units
    refine wrapX (pssx_cons (psx_of (ps_set (i := 1) scLst.nd rfl (Or.inr rfl) (pe_call GT hr (by rfl) mT kT bT .nil pass0 (pa_cons (pv 0) pa_nil))))
      (pssx_one (psx_of (ps_ret (pe_comp (N' := ["r", "row", "longer"]) (fr := [none, none, some 1]) scLstC1 rfl (pi_enum rfl T.enum (pa_cons (pv 0) pa_nil)) (fun C s0 H0 fp => (pg_two (K := K) (i := 0) (j := 1) rfl rfl scLstC1.nd rfl (Or.inl rfl) rfl (Or.inl rfl))) (fun C s0 H0 fp => pts_nil) (fun C s0 H0 fp => (pe_ifExp (pt_cmp (pc_din hu (pv 0) (pv 2))) (pe_call GW hr2 (by rfl) mW kW bW .nil pass0 (pa_cons (pv 1) (pa_cons pe_int pa_nil))) (pv 1)))))))) ?_
    refine ⟨_, rfl, lr, ds, rfl, hR, hG, hn, fun pl L G1 s1 npl hpl hL _ => ?_⟩
    obtain ⟨qs, r1, r2, r3⟩ := hR.same s1
    refine ⟨_, rfl, lr, rfl, ⟨_, SqL.of r1⟩, ?_⟩
    refine fun D nD => comp_enum (K := K) (a := lr) (xs := qs.map V.ref) (fun i σ ys G => ∃ (v1 v2 : Option V) (es : List Addr), σ = [v1, v2, some (.ref pl)] ∧ ys = es.map V.ref ∧ es.length = i ∧ (∀ (j : Nat) q d, es[j]? = some q → ds[j]? = some d → RowF G q (if j ∈ L then setF d else d)) ∧ Same G1 G ∧ G D = some (.lst ys)) ?_ ?_ ?_ ?_
    · exact ⟨none, none, [], rfl, rfl, rfl, fun j q d h => by simp at h, same_new nD, upd_same⟩
    · rintro i σ ys G _ ⟨v1, v2, es, rfl, rfl, _, _, s2, _⟩
      exact SqL.of (s2 _ _ r1)
    · rintro i x σ ys G tt hx ntt ⟨v1, v2, es, rfl, rfl, hel, hrow, s2, hD⟩
      rw [List.getElem?_map] at hx
      obtain ⟨q, hq, rfl⟩ := Option.map_eq_some_iff.mp hx
      have hil := (List.getElem?_eq_some_iff.mp hq).1
      have hd : ds[i]? = some (ds[i]'(by omega)) := List.getElem?_eq_getElem _
      generalize ds[i]'(by omega) = d at hd
      have s3 := s2.trans (same_new (o := .tup [V.int i, V.ref q]) ntt)
      have hD3 := same_new (o := .tup [V.int i, V.ref q]) ntt _ _ hD
      have hro3 : ∀ (j : Nat) q d, es[j]? = some q → ds[j]? = some d → RowF (upd G tt (.tup [V.int i, V.ref q])) q (if j ∈ L then setF d else d) := fun j q d g1 g2 => (hrow j q d g1 g2).same (same_new ntt)
      have htt : upd G tt (.tup [V.int i, V.ref q]) tt = _ := upd_same
      have hro3' : ∀ (j : Nat) q' d, es[j]? = some q' → ds[j]? = some d → RowF (upd G tt (.tup [V.int i, V.ref q])) q' (if j ∈ L then setF d else d) := fun j q' d g1 g2 => (hrow j q' d g1 g2).same (same_new ntt)
      clear hro3
      generalize upd G tt (.tup [V.int i, V.ref q]) = G3 at s3 hD3 htt hro3' ⊢
      have hfin : ∀ (p' : Addr) (G4 : Hp), Same G3 G4 → RowF G4 p' (if i ∈ L then setF d else d) → ∃ (v1 v2 : Option V) (es' : List Addr), ([some (V.int (i : Int)), some (V.ref q), some (V.ref pl)] : St) = [v1, v2, some (.ref pl)] ∧ es.map V.ref ++ [V.ref p'] = es'.map V.ref ∧ es'.length = i + 1 ∧ (∀ (j : Nat) q d, es'[j]? = some q → ds[j]? = some d → RowF (upd G4 D (.lst (es.map V.ref ++ [V.ref p']))) q (if j ∈ L then setF d else d)) ∧ Same G1 (upd G4 D (.lst (es.map V.ref ++ [V.ref p']))) ∧ upd G4 D (.lst (es.map V.ref ++ [V.ref p'])) D = some (.lst (es.map V.ref ++ [V.ref p'])) := fun p' G4 s4 hp' => by
        refine ⟨_, _, es ++ [p'], rfl, by rw [List.map_append]; rfl, by rw [List.length_append, hel]; rfl, fun j q' d' g1 g2 => ?_, same_put (s3.trans s4) nD, upd_same⟩
        by_cases hj : j < es.length
        · rw [List.getElem?_append_left hj] at g1
          exact ((hro3' j q' d' g1 g2).same s4).put (s4 _ _ hD3)
        · have h9 := (List.getElem?_eq_some_iff.mp g1).1
          rw [List.length_append, List.length_singleton] at h9
          have ej : j = es.length := by omega
          subst ej
          rw [show (es ++ [p'])[es.length]? = some p' by simp] at g1
          cases g1
          rw [hel] at g2 ⊢
          rw [hd] at g2
          cases g2
          exact hp'.put (s4 _ _ hD3)
      refine ⟨tt, _, rfl, SqT.of htt, rfl, _, _, rfl, _, _, rfl, rfl, ?_⟩
      refine ⟨_, rfl, _, rfl, pl, _, rfl, DGet.k (k := Sum.inl (i : Int)) (s3 _ _ hpl), _, rfl, ?_⟩
      rw [nD_val]
      by_cases hiL : i ∈ L
      · rw [if_pos hiL]
        rw [if_pos hiL] at hfin
        refine iteP rfl ?_
        exact ⟨_, rfl, q, d, rfl, (r3 i q d hq hd).same s3, fun p' G4 s4 hp' => ⟨s4 _ _ hD3, small_lt (by rw [List.length_map]; omega), hfin p' G4 s4 hp'⟩⟩
      · rw [if_neg hiL]
        rw [if_neg hiL] at hfin
        refine iteN (by decide) ?_
        exact ⟨_, rfl, hD3, small_lt (by rw [List.length_map]; omega), hfin q G3 (.refl _) ((r3 i q d hq hd).same s3)⟩
    · rintro σ ys G ⟨v1, v2, es, rfl, rfl, hel, hrow, s2, hD⟩
      rw [List.length_map, r2] at hel
      refine k D L _ (s1.trans s2) (s1.free nD) ⟨es, hD, by rw [lenz_len]; exact hel, fun j q d g1 g2 => ?_⟩ hL
      have hjl := (List.getElem?_eq_some_iff.mp g1).1
      have hd : ds[j]? = some (ds[j]'(by omega)) := List.getElem?_eq_getElem _
      have := hrow j q _ g1 hd
      rw [lenz_at hd] at g2
      cases g2
      exact this
end
end My


set_option Elab.async false
set_option linter.all false
set_option maxRecDepth 100000
set_option maxHeartbeats 4000000
namespace PySem.SeqAt
open AutoSeq1 (wpAny_loadPart')
open MeetsSeq MeetsSeq2 MeetsSeq3 SeqRoads2
theorem wpAny_forIn_rng {M : Model} {A : Around} {E : Value → Shared → Prop} {s : Shared} {β : Type} (f : Nat → β → Sem (ForInStep β)) (I : List Nat → β → Shared → Prop) (Q : β → Shared → Prop)
    (turn : ∀ x rest b s, I (x :: rest) b s → wpAny M A (f x b) (fun r s' => match r with | .yield b' => I rest b' s' | .done b' => Q b' s') E s)
    (fin : ∀ b s, I [] b s → Q b s) (k : Nat) (b : β) (h : I (List.range' 0 k) b s) : wpAny M A (forIn [:k] b f) Q E s := by
  rw [Std.Legacy.Range.forIn_eq_forIn_range']
  refine wpAny_forIn_list f I Q turn fin _ b ?_
  have : ([:k] : Std.Legacy.Range).size = k := by simp [Std.Legacy.Range.size]
  rw [this]
  exact h
theorem tuple_indexAt (l : Addr) (items : Array Value) (n : Nat) (dd : Option Addr) (sl : Array (Option Value)) (x : Value) (e : Nat → Bool) (j : Nat) (hj : j < items.size) (hit : e j = true) (hno : ∀ m, m < j → e m = false) :
    Meets (Builtin.«tuple.index» ⟨[.ref l, x], []⟩)
      (fun A R s => s.heap.get? l = some { cls := .type "tuple", dict := dd, data := .seq items n, slots := sl } ∧ (∀ i (hi : i < items.size), EqAt A.in1 s items[i] x (e i)) ∧ R (.ok (.ret (.int j s.toks))) { s with toks := s.toks + 1 }) :=
  .of_wp fun prog w A R s h => by
    obtain ⟨hp, g, d, tk, os⟩ := s; obtain ⟨hl, he, h⟩ := h
    wp_walk using wpAny_loadPart' hl, wpAny_forIn_rng _ (fun rest b s' => b.1 = none ∧ s' = ⟨hp, g, d, tk, os⟩ ∧ ∃ i, i ≤ j ∧ rest = List.range' i (items.size - i)) _
    case turn =>
      rintro y rest b s' ⟨hb, rfl, i, hij, hrest⟩
      have hi : items.size - i = (items.size - (i + 1)) + 1 := by omega
      rw [hi, List.range'_succ] at hrest
      obtain ⟨rfl, rfl⟩ := List.cons.inj hrest
      have hy : y < items.size := by omega
      have hg : items[y]? = some items[y] := by simp [hy]
      rw [hg]
      refine wpAny_bind (he y hy prog w _ _ ?_)
      by_cases z : y = j
      · subst z
        rw [hit]
        wp_walk
        exact ⟨_, rfl, h⟩
      · rw [hno y (by omega)]
        wp_walk
        exact ⟨rfl, rfl, y + 1, by omega, rfl⟩
    case fin =>
      rintro ⟨b1, b2⟩ s' ⟨hb, rfl, i, hij, hrest⟩
      have : (List.range' i (items.size - i)).length = 0 := by rw [← hrest]; rfl
      rw [List.length_range'] at this
      omega
    case h =>
      exact ⟨rfl, rfl, 0, Nat.zero_le _, by simp⟩
end PySem.SeqAt
namespace L2
open PySem PySem.Spec PyProof.Rows
/-! ### where a thing stands in a tuple of the top -/
def rTIdx (K : PySem.W.Frag) : V → List V → Hp → VK → Prop := fun x vs H Q => ∃ (p : Addr) (xs : List V) (ds : List Da) (y : V) (b : Da) (n j : Nat), x = .ref p ∧ vs = [y] ∧ SqT K H p xs ∧ xs.length = ds.length ∧ (∀ (i : Nat) x d, xs[i]? = some x → ds[i]? = some d → DaAt K H x d) ∧ DaAt K H y b ∧ (∀ d ∈ ds, d.Nb n) ∧ b.Nb n ∧ n ≤ 5 ∧ ds[j]? = some b ∧ (∀ m, m < j → ds[m]? ≠ some b) ∧ Q (.int (j : Nat)) H
section
variable {X : Cx}
theorem mt_tidx (hu : X.A.units + 8 < cLine) : MtR X "tuple.index" (rTIdx X.K) := by
  intro pins s σ H x vs v us Q I rx rv h
  obtain ⟨p, xs, ds, y, b, n, j, rfl, rfl, hp, hl, hd, hy, hnd, hnb, hn, hj, hno, q⟩ := h
  cases rx
  obtain ⟨u, rfl, ru⟩ := rv.one
  obtain ⟨its, r, pl, hz⟩ := I.tuple hp
  obtain ⟨o, ho, hc, m, hdat⟩ := pl
  obtain ⟨oc, od, odt, osl⟩ := o
  have hc : oc = _ := hc
  have hdat : odt = _ := hdat
  subst hc hdat
  have hlen := r.length
  have hjl := (List.getElem?_eq_some_iff.mp hj).1
  have hji : j < its.toArray.size := by simp; omega
  refine call_meets F.slot_tuple_index ⟨_, ho, rfl⟩ F.entry_tuple_index (F.args_tuple_index_2 _ _)
    (SeqAt.tuple_indexAt p its.toArray m od osl u (fun i => decide (ds[i]? = some b)) j hji (decide_eq_true hj) fun k hk => decide_eq_false (hno k hk)) ⟨ho, fun i hi => ?_, ⟨.int (j : Nat), H, I.tok _, ⟨_, rfl⟩, q⟩⟩
  obtain ⟨x, z1, q1⟩ := arr_at r hi
  have k1 := (List.getElem?_eq_some_iff.mp z1).1
  have g1 : ds[i]? = some (ds[i]'(by omega)) := List.getElem?_eq_getElem (by omega)
  have e : decide (ds[i]? = some b) = decide (ds[i]'(by omega) = b) := by rw [g1]; simp
  rw [e]
  exact da_at (n := n) (by show X.A.units + 1 + n < cLine; omega) I (hd i x _ z1 g1) hy (hnd _ (List.mem_of_getElem? g1)) hnb q1 ru
end
end L2


set_option Elab.async false
set_option linter.all false
set_option maxRecDepth 100000
set_option maxHeartbeats 4000000
namespace L2
open PySem PySem.W PySem.Spec PySem.Calls PyProof.Rows
/-- a callee's exception goes on through the body of the caller, which leaves it to its own caller -/
theorem pass22 {P : Program} {w : World} {K : PySem.W.Frag} {mg : Str → Option Value} {base : Heap} {N : List Str} {qual : Str} {scope : Scope} {f : Addr} {cd : Value} {A : Around} {outer : List Env} {s₀ : Shared} {H₀ : Hp} {E : XK} :
    Passes (CX2 P w) (cxOf (CX2 P w) P w K mg base N qual scope f cd A outer s₀ H₀ E) E := by
  intro pins σ H s e s' I cx
  obtain ⟨ea, cls, a0, od, H', B, rfl, fly, dc, hB, hH, os, bare, un, hok, hE⟩ := cx
  obtain ⟨T, be, bT, fly2⟩ := fly_less fly
  have apart : ∀ {b o}, B.get? b = some o → b ∉ frs ((envOfC qual scope s₀.heap.objs.size f cd) :: outer) → b ∉ frs ((envOfC qual scope s₀.heap.objs.size f cd) :: outer) ++ [ea, T] := fun {b o} hb nf hx => by
    rcases List.mem_append.mp hx with h | h
    · exact nf h
    · rcases (show b = ea ∨ b = T by simpa using h) with rfl | rfl
      · rw [be] at hb; cases hb
      · rw [bT] at hb; cases hb
  have fr' : ∀ b ∈ frs ((envOfC qual scope s₀.heap.objs.size f cd) :: outer), H' b = none := fun b hb => by
    obtain ⟨_, o, ho, _⟩ := I.stack.mem hb
    exact un.free b o ho (I.stkFree b hb) (by simp)
  have kH : ∀ {b o}, H' b = some o → b ∉ frs ((envOfC qual scope s₀.heap.objs.size f cd) :: outer) ++ [ea, T] := fun {b o} hb => by
    obtain ⟨o', h1⟩ := hH b o hb
    exact apart h1 fun z => by rw [fr' b z] at hb; cases hb
  have stk : ∀ {b o}, s₀.heap.get? b = some o → b ∉ frs outer → b ∉ frs ((envOfC qual scope s₀.heap.objs.size f cd) :: outer) := fun {b o} hb nf hx => by
    rcases List.mem_cons.mp (I.stkSub b hx) with e | e
    · have h1 := Heap.lt_size hb
      have h2 : s₀.heap.objs.size ≤ (envOfC qual scope s₀.heap.objs.size f cd).locals := I.ok.above
      have e : b = (envOfC qual scope s₀.heap.objs.size f cd).locals := e
      rw [e] at h1
      exact absurd h1 (Nat.not_lt.mpr h2)
    · exact nf e
  refine leavesOnD (B := less s'.heap (frs ((envOfC qual scope s₀.heap.objs.size f cd) :: outer) ++ [ea, T])) (L := (envOfC qual scope s₀.heap.objs.size f cd).locals) I.ok.frames rfl fly2 dc fun h5 fly5 up dc5 => ?_
  have stay : ∀ {b u}, b ∉ frs ((envOfC qual scope s₀.heap.objs.size f cd) :: outer) ++ [ea, T] → s'.heap.get? b = some u → h5.get? b = some u := fun {b u} hb hu => fly5.1 b u (by rw [less_out hb]; exact hu)
  have up1 : ∀ b o, s'.heap.get? b = some o → b ∈ frs ((envOfC qual scope s₀.heap.objs.size f cd) :: outer) → ∃ sl, h5.get? b = some { o with slots := sl } := fun b o ho hb => by
    obtain ⟨_, o2, e2, nf⟩ := fly.2.2.1.mem hb
    rw [ho] at e2
    cases e2
    exact up b o ho nf
  have un5 : Un (frs ((envOfC qual scope s₀.heap.objs.size f cd) :: outer)) [] H H' s.heap h5 := by
    refine ⟨fun b o e n nf nx => ?_, fun b o e n hb nx => ?_, un.free, fun b o e nx => ?_, un.tups, un.frzs, un.tbls⟩
    · obtain ⟨o', hb⟩ := hB b o e nf
      exact stay (apart hb nf) (un.keep b o e n nf nx)
    · obtain ⟨sl, e1⟩ := un.slot b o e n hb nx
      obtain ⟨sl', e2⟩ := up1 b _ e1 hb
      exact ⟨sl', e2⟩
    · obtain ⟨o', e1⟩ := un.there b o e nx
      by_cases hb : b ∈ frs ((envOfC qual scope s₀.heap.objs.size f cd) :: outer)
      · obtain ⟨sl', e2⟩ := up1 b _ e1 hb
        exact ⟨_, e2⟩
      · obtain ⟨o2, h2⟩ := hB b o e hb
        exact ⟨o', stay (apart h2 hb) e1⟩
  have hok5 : HOk P w H' h5 := fun a o e => (hok a o e).stay (fun b u hc q => by
    rcases hc with rfl | hc
    · exact stay (kH e) q
    · exact stay (kH hc) q) (fun _ q => q) fun _ _ q => q
  have I5 := I.call' (s' := { s' with heap := h5 }) (ch := []) os un5 hok5 bare (fun b z => absurd z (by simp))
  refine ⟨ea, cls, a0, od, H', _, rfl, fly5, dc5, fun b o hb nf => ?_, fun b o hb => ?_, I5.os, I5.bare, I5.base, hok5, hE⟩
  · have ns := stk hb nf
    obtain ⟨o1, e1⟩ := I.base.there b o hb (by show b ∉ []; simp)
    obtain ⟨o2, e2⟩ := hB b o1 e1 ns
    obtain ⟨o3, e3⟩ := un.there b o1 e1 (by simp)
    exact ⟨o3, by rw [less_out (apart e2 ns)]; exact e3⟩
  · obtain ⟨u, hu⟩ := (hok b o hb).some_
    exact ⟨u, by rw [less_out (kH hb)]; exact hu⟩
end L2


set_option Elab.async false
set_option linter.all false
set_option maxRecDepth 100000
set_option maxHeartbeats 4000000
namespace My
open PySem L2
/-! ### units: what a row shows -/
def far0 (d : FR) : Int := if d.u ∈ five then farF d else 0
def pkD (d : FR) (S : List Str) : List Int := (((ksOf d.u).zip d.is).filter fun x => decide (x.1 ∈ S)).map (·.2)
def codeF (d : FR) : Nat := heads.idxOf (d.u, far0 d)
def lowF (d : FR) (dist : List Int) : Int := if shortF d = true then dist.headD 0 + 64 else if (pkD d ["box"]).length = 2 then (pkD d ["box"])[1]?.getD 0 else 0
def firstF (d : FR) (dist : List Int) : Int := (codeF d : Int) * 1024 + (pkD d ["box"]).headD 0 * 128 + lowF d dist
def otherF (d : FR) (dist : List Int) : List Int := if d.u = "table" then (dist.length : Int) :: dist else if d.u ∈ five then (if farF d = 1 then dist else []) else pkD d numK
def unitsR (ds : List FR) (r : Nat) (d : FR) : List Int := firstF d (d.ts.map (dstT ds r)) :: otherF d (d.ts.map (dstT ds r))
def unitsL (ds : List FR) (n : Nat) : List Int := ((List.range n).filterMap fun r => ds[r]?.map (unitsR ds r)).flatten
theorem unitsL_succ {ds : List FR} {n : Nat} {d : FR} (h : ds[n]? = some d) : unitsL ds (n + 1) = unitsL ds n ++ unitsR ds n d := by
  unfold unitsL
  rw [List.range_succ, List.filterMap_append, List.flatten_append]
  simp [h]
theorem ks_in : ∀ u ∈ all20, (u, ksOf u) ∈ kinds := by decide +kernel
theorem heads_in {d : FR} (hu : d.u ∈ all20) (hf : FarOk d) : (d.u, far0 d) ∈ heads := by
  unfold far0
  by_cases h : d.u ∈ five
  · rw [if_pos h]
    rcases hf h with z | z <;> rw [z]
    · exact (by decide +kernel : ∀ u ∈ five, (u, (0 : Int)) ∈ heads) _ h
    · exact (by decide +kernel : ∀ u ∈ five, (u, (1 : Int)) ∈ heads) _ h
  · rw [if_neg h]
    exact (by decide +kernel : ∀ u ∈ all20, (u, (0 : Int)) ∈ heads) _ hu
/-- a row's parts, one for each kind -/
theorem RowF.full {H : Hp} {q : Addr} {d : FR} (h : RowF H q d) : ∃ items, H q = some (.tup (.str d.u :: items)) ∧ items.length = (ksOf d.u).length ∧ ((¬ d.u = "table" ∧ items = d.is.map V.int ∧ d.is.length = (ksOf d.u).length) ∨ (d.u = "table" ∧ ∃ b p, d.is = [b] ∧ items = [.int b, .ref p])) := by
  obtain ⟨⟨hu, h1, h2, h3, h4, h5, h6⟩, h⟩ := h
  rcases h with ⟨a, b, p, e, g1, g2⟩ | ⟨a, g1⟩
  · exact ⟨_, g1, by rw [a]; exact (by decide +kernel : 2 = (ksOf "table").length), .inr ⟨a, b, p, e, rfl⟩⟩
  · have hl : d.is.length = (ksOf d.u).length := by
      by_cases z1 : d.u ∈ jcm
      · obtain ⟨t, f, e1, _⟩ := h2 z1
        rw [e1]
        exact ((by decide +kernel : ∀ u ∈ jcm, 2 = (ksOf u).length)) _ z1
      · by_cases z2 : d.u ∈ zb
        · obtain ⟨b, t, f, e1, _⟩ := h3 z2
          rw [e1]
          exact ((by decide +kernel : ∀ u ∈ zb, 3 = (ksOf u).length)) _ z2
        · exact (h4 a z1 z2).2
    exact ⟨_, g1, by rw [List.length_map, hl], .inl ⟨a, rfl, hl⟩⟩
theorem cut_tail (x : V) (xs : List V) : cutV (x :: xs) (some 1) none = xs := by
  unfold cutV
  have h1 : HT.sIx (x :: xs).length 0 (some 1) = 1 := by
    have : HT.sIx (x :: xs).length 0 (some ((1 : Nat) : Int)) = min 1 (x :: xs).length := HT.sIx_nat ..
    rw [show (1 : Int) = ((1 : Nat) : Int) from rfl, this, List.length_cons]
    omega
  have h2 : HT.sIx (x :: xs).length (x :: xs).length none = (x :: xs).length := rfl
  rw [h1, h2, List.drop_one, List.tail_cons]
  exact List.take_of_length_le (by simp)
theorem take_filt {α : Type} (l : List α) (p : α → Bool) (i : Nat) : ((l.take (i + 1)).filter p) = (l.take i).filter p ++ (match l[i]? with | some x => if p x = true then [x] else [] | none => []) := by
  rw [List.take_add_one, List.filter_append]
  congr 1
  cases l[i]? with
  | none => rfl
  | some x => simp [List.filter_cons]
section
variable {P : Program} {w : World} {K : PySem.W.Frag} {mg : Str → Option Value} {base : Heap}
/-! ### far_of -/
def spFarOf : Sp := fun vs H Q _ => ∃ (q : Addr) (d : FR), vs = [.ref q] ∧ RowF H q d ∧ Q (.int (far0 d)) H
theorem scFro : FnScope ["row"] ["row"] (defScope sFarOf) := ⟨rfl, rfl, rfl, by decide +kernel, rfl, by decide +kernel, by decide +kernel⟩
theorem ok_farof {f fH : Addr} {fd fdH : FuncData} (F : Fun K "far_of" "far_of" sFarOf f fd) (T : Txt K w.params mg) (GH : FnOk P w K mg base CX0 1 fH fdH ["word"] spFar) (kH : PySem.W.keepIn K (.ref fH) = true) (bH : Binds K fdH ["word"] []) (mH : mg "has_far" = some (.ref fH)) : FnOk P w K mg base CX0 2 f fd ["row"] spFarOf := by
  refine F.ok scFro (fun vs H Q E h => ?_) (fun cdv A outer s H vs Q E hr h => ?_)
  · obtain ⟨q, d, rfl, _⟩ := h
    rfl
  · obtain ⟨q, d, rfl, hR, k⟩ := h
    obtain ⟨items, i1, _⟩ := hR.full
    refine wrapX (pssx_one (psx_of (ps_ret (pe_ifExp (pt_val (pe_call GH hr (by rfl) mH kH bH .nil pass0 (pa_cons (pe_ix ix_tup (pv 0) pe_int (fun _ _ => rfl)) pa_nil))) (pe_ix ix_tup (pv 0) (pe_un un_neg pe_int) (fun _ _ => rfl)) pe_int)))) ?_
    refine ⟨_, rfl, q, _, 0, _, rfl, rfl, SqT.of i1, at0 _ _, d.u, rfl, hR.1.1, _, rfl, ?_⟩
    unfold far0 at k
    refine ite2 (fun e => ?_) (fun e => ?_)
    · have e := of_decide_eq_true e
      obtain ⟨_, y1, y2, _⟩ := five_row hR e
      rw [if_pos e] at k
      exact ⟨_, rfl, _, rfl, q, _, -1, _, rfl, rfl, SqT.of y1, y2, k⟩
    · rw [if_neg (fun z => e (decide_eq_true z))] at k
      exact k
/-! ### parts_of -/
def spParts : Sp := fun vs H Q _ => ∃ (q s : Addr) (d : FR) (S : List Str), vs = [.ref q, .ref s] ∧ RowF H q d ∧ (∀ H', Same H H' → SqT K H' s (S.map V.str)) ∧ ¬ ("targets" : Str) ∈ S ∧ ∀ (l : Addr) (H' : Hp), Same H H' → H l = none → H' l = some (.lst ((pkD d S).map V.int)) → Q (.ref l) H'
theorem scPar : FnScope ["row", "kinds"] ["row", "kinds"] (defScope sPartsOf) := ⟨rfl, rfl, rfl, by decide +kernel, rfl, by decide +kernel, by decide +kernel⟩
def csParC1 : Scope := { kind := .function, names := [(".0", .local), ("kind", .local), ("part", .local), ("kinds", .free)], isGenerator := false, isCoroutine := false, more := [] }
theorem scParC1 : CompSc (defScope sPartsOf) csParC1 ["row", "kinds"] ["kind", "part", "kinds"] [none, none, some 1] := ⟨rfl, by decide +kernel, by decide +kernel, by decide +kernel, by decide +kernel, by decide +kernel⟩
theorem ok_parts {f : Addr} {fd : FuncData} (F : Fun K "parts_of" "parts_of" sPartsOf f fd) (T : Txt K w.params mg) : FnOk P w K mg base CX0 1 f fd ["row", "kinds"] (spParts (K := K)) := by
  refine F.ok scPar (fun vs H Q E h => ?_) (fun cdv A outer s H vs Q E hr h => ?_)
  · obtain ⟨q, s, d, S, rfl, _⟩ := h
    rfl
  · obtain ⟨q, sk, d, S, rfl, hR, hS, hnt, k⟩ := h
    obtain ⟨items, i1, i2, i3⟩ := hR.full
    obtain ⟨p, hp, hk⟩ := T.prt
    obtain ⟨qk, hq, hqS⟩ := hk _ (ks_in _ hR.1.1)
    refine wrapX (pssx_one (psx_of (ps_ret (pe_comp (N' := ["kind", "part", "kinds"]) (fr := [none, none, some 1]) scParC1 rfl (pi_zip rfl T.zip (pa_cons (pe_kget (pe_glob (v := .ref p) (by rfl) hp rfl) (pe_ix ix_tup (pv 0) pe_int (fun _ _ => rfl)) (fun _ _ => rfl)) (pa_cons (pe_slice sl_tup (pv 0) (po_some pe_int) po_none) pa_nil))) (fun C s0 H0 fp => (pg_two (K := K) (i := 0) (j := 1) rfl rfl scParC1.nd rfl (Or.inl rfl) rfl (Or.inl rfl))) (fun C s0 H0 fp => (pts_one (pt_cmpR (r := rIn K false) op_in_seq (pv 0) (pv 2) rfl))) (fun C s0 H0 fp => (pv 1)))))) ?_
    refine ⟨_, rfl, q, _, 0, _, rfl, rfl, SqT.of i1, at0 _ _, p, d.u, _, rfl, rfl, hq, ?_⟩
    refine ⟨_, rfl, 1, rfl, q, _, rfl, SqT.of i1, (fun z => absurd z.1 (by
      have : HT.sIx (V.str d.u :: items).length 0 (some ((1 : Nat) : Int)) = min 1 (V.str d.u :: items).length := HT.sIx_nat ..
      rw [show (1 : Int) = ((1 : Nat) : Int) from rfl, this, List.length_cons]
      omega)), fun p1 np1 => ?_⟩
    rw [cut_tail]
    have s1 := same_new (o := .tup items) np1
    have hp1 : upd H p1 (.tup items) p1 = _ := upd_same
    generalize upd H p1 (.tup items) = G1 at s1 hp1 ⊢
    refine ⟨qk, p1, rfl, ⟨_, hqS _⟩, ⟨_, SqT.of hp1⟩, fun D nD => comp_zip (K := K) (a := qk) (b := p1) (xs := (ksOf d.u).map V.str) (zs := items) (by rw [List.length_map, i2])
      (fun i σ ys G => ∃ (v1 v2 : Option V), σ = [v1, v2, some (.ref sk)] ∧ ys = (((((ksOf d.u).zip d.is).take i).filter fun x => decide (x.1 ∈ S)).map (·.2)).map V.int ∧ Same G1 G ∧ G D = some (.lst ys)) ?_ ?_ ?_ ?_⟩
    · exact ⟨none, none, rfl, rfl, same_new nD, upd_same⟩
    · rintro i σ ys G _ ⟨v1, v2, rfl, rfl, s2, _⟩
      exact ⟨hqS _, SqT.of (s2 _ _ hp1)⟩
    · rintro i y z σ ys G t hy hz nt ⟨v1, v2, rfl, rfl, s2, hD⟩
      rw [List.getElem?_map] at hy
      obtain ⟨kd, hkd, rfl⟩ := Option.map_eq_some_iff.mp hy
      have s3 := same_new (o := .tup [.str kd, z]) nt
      have s13 := s1.trans (s2.trans s3)
      refine ⟨t, _, rfl, SqT.of upd_same, rfl, _, _, rfl, _, _, rfl, rfl, ?_⟩
      have hil := (List.getElem?_eq_some_iff.mp hkd).1
      have hll : (((((ksOf d.u).zip d.is).take i).filter fun x => decide (x.1 ∈ S)).map (·.2)).length < sizeLine := by
        rw [List.length_map]
        refine Nat.lt_of_le_of_lt (List.length_filter_le _ _) ?_
        rw [List.length_take]
        have : (ksOf d.u).length ≤ 3 := (by decide +kernel : ∀ u ∈ all20, (ksOf u).length ≤ 3) _ hR.1.1
        exact small_lt (by omega)
      refine ⟨_, rfl, _, rfl, sk, S.map V.str, rfl, .inr (hS _ s13), rfl, (by rw [List.all_map]; exact List.all_eq_true.mpr fun _ _ => rfl), _, rfl, ?_⟩
      rw [show inV (.str kd) (S.map V.str) = decide (kd ∈ S) from inV_str _ _]
      refine ite2 (fun e => ?_) (fun e => ?_)
      · have e := of_decide_eq_true e
        have hzi : ∃ n, z = .int n ∧ ((ksOf d.u).zip d.is)[i]? = some (kd, n) := by
          rcases i3 with ⟨_, e1, e2⟩ | ⟨e0, b, pp, e1, e2⟩
          · rw [e1, List.getElem?_map] at hz
            obtain ⟨n, hn, rfl⟩ := Option.map_eq_some_iff.mp hz
            exact ⟨n, rfl, by rw [List.getElem?_zip_eq_some]; exact ⟨hkd, hn⟩⟩
          · rw [e2] at hz
            rw [e0] at hkd
            match i, hz, hkd with
            | 0, hz, hkd => cases hz; exact ⟨b, rfl, by rw [List.getElem?_zip_eq_some, e0, e1]; exact ⟨hkd, rfl⟩⟩
            | 1, hz, hkd =>
              have : kd = "targets" := by
                have h9 : (ksOf "table")[1]? = some ("targets" : Str) := by decide +kernel
                rw [h9] at hkd
                exact (Option.some.inj hkd).symm
              rw [this] at e
              exact absurd e hnt
            | (n + 2), hz, _ => simp at hz
        obtain ⟨n, rfl, hzi⟩ := hzi
        refine ⟨_, rfl, s3 _ _ hD, by rw [List.length_map]; exact hll, _, _, rfl, ?_, same_put (s2.trans s3) nD, upd_same⟩
        rw [take_filt, hzi]
        simp [e]
      · refine ⟨_, _, rfl, ?_, s2.trans s3, s3 _ _ hD⟩
        rw [take_filt]
        cases hzi : ((ksOf d.u).zip d.is)[i]? with
        | none => simp
        | some x =>
          obtain ⟨x1, x2⟩ := x
          rw [List.getElem?_zip_eq_some, hkd] at hzi
          obtain ⟨hz1, _⟩ := hzi
          have hz1 := Option.some.inj hz1
          subst hz1
          have e' : ¬ kd ∈ S := fun z => e (decide_eq_true z)
          simp [e']
    · rintro σ ys G ⟨v1, v2, rfl, rfl, s2, hD⟩
      refine k D _ (s1.trans s2) (s1.free nD) ?_
      rw [hD]
      unfold pkD
      rw [List.take_of_length_le (by rw [List.length_zip, List.length_map]; omega)]
/-! ### head_of -/
def spHead : Sp := fun vs H Q _ => ∃ (q : Addr) (d : FR), vs = [.ref q] ∧ RowF H q d ∧ ∀ p, H p = none → Q (.ref p) (upd H p (.tup [.str d.u, .int (far0 d)]))
theorem scHdo : FnScope ["row"] ["row"] (defScope sHeadOf) := ⟨rfl, rfl, rfl, by decide +kernel, rfl, by decide +kernel, by decide +kernel⟩
theorem ok_head {f fF : Addr} {fd fdF : FuncData} (F : Fun K "head_of" "head_of" sHeadOf f fd) (T : Txt K w.params mg) (GF : FnOk P w K mg base CX0 2 fF fdF ["row"] spFarOf) (kF : PySem.W.keepIn K (.ref fF) = true) (bF : Binds K fdF ["row"] []) (mF : mg "far_of" = some (.ref fF)) : FnOk P w K mg base CX0 3 f fd ["row"] spHead := by
  refine F.ok scHdo (fun vs H Q E h => ?_) (fun cdv A outer s H vs Q E hr h => ?_)
  · obtain ⟨q, d, rfl, _⟩ := h
    rfl
  · obtain ⟨q, d, rfl, hR, k⟩ := h
    obtain ⟨items, i1, _⟩ := hR.full
    refine wrapX (pssx_one (psx_of (ps_ret (pe_tup (pa_cons (pe_ix ix_tup (pv 0) pe_int (fun _ _ => rfl)) (pa_cons (pe_call GF hr (by rfl) mF kF bF .nil pass0 (pa_cons (pv 0) pa_nil)) pa_nil)))))) ?_
    exact ⟨_, rfl, q, _, 0, _, rfl, rfl, SqT.of i1, at0 _ _, _, rfl, q, d, rfl, hR, (by show 2 ≤ sizeLine; decide), fun p np => k p np⟩
/-! ### low_of -/
def spLow : Sp := fun vs H Q _ => ∃ (q ld : Addr) (d : FR) (dist : List Int), vs = [.ref q, .ref ld] ∧ RowF H q d ∧ H ld = some (.lst (dist.map V.int)) ∧ (shortF d = true → dist ≠ []) ∧ ∀ H', Same H H' → Q (.int (lowF d dist)) H'
theorem scLow : FnScope ["row", "distances", "boxes"] ["row", "distances"] (defScope sLowOf) := ⟨rfl, rfl, rfl, by decide +kernel, rfl, by decide +kernel, by decide +kernel⟩
theorem ok_low {f fJ fP : Addr} {fd fdJ fdP : FuncData} (F : Fun K "low_of" "low_of" sLowOf f fd) (T : Txt K w.params mg) (GJ : FnOk P w K mg base CX0 2 fJ fdJ ["row"] spShJ) (kJ : PySem.W.keepIn K (.ref fJ) = true) (bJ : Binds K fdJ ["row"] []) (mJ : mg "is_short_jump" = some (.ref fJ)) (GP : FnOk P w K mg base CX0 1 fP fdP ["row", "kinds"] (spParts (K := K))) (kP : PySem.W.keepIn K (.ref fP) = true) (bP : Binds K fdP ["row", "kinds"] []) (mP : mg "parts_of" = some (.ref fP)) : FnOk P w K mg base CX0 3 f fd ["row", "distances"] spLow := by
  refine F.ok scLow (fun vs H Q E h => ?_) (fun cdv A outer s H vs Q E hr h => ?_)
  · obtain ⟨q, ld, d, dist, rfl, _⟩ := h
    rfl
  · obtain ⟨q, ld, d, dist, rfl, hR, hd, hne, k⟩ := h
    have hrJ : Room 2 (A.deeper (PyProof.Rows.envOfC "low_of" (defScope sLowOf) s.heap.objs.size f cdv)) := hr.mono (by decide)
    have hrP : Room 1 (A.deeper (PyProof.Rows.envOfC "low_of" (defScope sLowOf) s.heap.objs.size f cdv)) := hr.mono (by decide)
    obtain ⟨_, hsa⟩ := T.sad
    refine wrapX (pssx_cons (psx_if (pt_val (pe_call GJ hrJ (by rfl) mJ kJ bJ .nil pass0 (pa_cons (pv 0) pa_nil))) (pssx_one (psx_of (ps_ret (pe_op op_add (pe_ix ix_list (pv 1) pe_int (fun _ _ => rfl)) (pe_glob (v := .int 64) (by rfl) hsa ⟨_, rfl⟩))))) (pssx_nil pss_nil))
      (pssx_cons (psx_of (ps_set (i := 2) scLow.nd rfl (Or.inl rfl) (pe_call GP hrP (by rfl) mP kP bP .nil pass0 (pa_cons (pv 0) (pa_cons (pe_tup (pa_cons pe_str pa_nil)) pa_nil)))))
      (pssx_one (psx_of (ps_ret (pe_ifExp (pt_cmpR op_eq (pe_callB call_len_seq (by rfl) T.len bt_len (pa_cons (pv 2) pa_nil)) pe_int (nomark _)) (pe_ix ix_list (pv 2) pe_int (fun _ _ => rfl)) pe_int)))))) ?_
    unfold lowF at k
    refine ⟨_, rfl, q, d, rfl, hR, _, rfl, ?_⟩
    refine ite2 (fun e => ?_) (fun e => ?_)
    · rw [if_pos e] at k
      obtain ⟨x, r, hx⟩ := List.exists_cons_of_ne_nil (hne e)
      subst hx
      exact ⟨_, rfl, ld, _, 0, .int x, rfl, rfl, SqL.of hd, at0 _ _, _, _, rfl, rfl, k _ (.refl _)⟩
    · rw [if_neg e] at k
      refine ⟨_, rfl, (by show 1 ≤ sizeLine; decide), fun t nt => ?_⟩
      have s1 := same_new (o := .tup [V.str "box"]) nt
      have ht : upd H t (.tup [V.str "box"]) t = _ := upd_same
      generalize upd H t (.tup [V.str "box"]) = G1 at s1 ht ⊢
      refine ⟨q, t, d, ["box"], rfl, hR.same s1, fun H' s' => SqT.of (s' _ _ ht), by decide, fun lb G2 s2 _ hlb => ?_⟩
      refine ⟨_, rfl, lb, _, rfl, .inl (SqL.of hlb), rfl, _, rfl, ?_⟩
      rw [List.length_map]
      by_cases h2 : (pkD d ["box"]).length = 2
      · rw [if_pos h2] at k
        refine iteP (by simp [h2]) ?_
        have : ∃ x y, pkD d ["box"] = [x, y] := by
          match hpk : pkD d ["box"], h2 with
          | [x, y], _ => exact ⟨x, y, rfl⟩
        obtain ⟨x, y, hxy⟩ := this
        rw [hxy] at hlb k
        exact ⟨_, rfl, lb, _, 1, .int y, rfl, rfl, SqL.of hlb, rfl, k _ (s1.trans s2)⟩
      · rw [if_neg h2] at k
        refine iteN (by simp; omega) ?_
        exact k _ (s1.trans s2)
/-! ### first_unit -/
def daH (h : Str × Int) : Da := .tup [.str h.1, .int h.2]
theorem daH_inj {a b : Str × Int} (h : daH a = daH b) : a = b := by
  obtain ⟨a1, a2⟩ := a
  obtain ⟨b1, b2⟩ := b
  unfold daH at h
  injection h with h
  injection h with h1 h2
  injection h1 with h1
  injection h2 with h2 _
  injection h2 with h2
  exact Prod.ext h1 h2
theorem daH_at (K : PySem.W.Frag) {H : Hp} {p : Addr} {h : Str × Int} (e : SqT K H p [.str h.1, .int h.2]) : DaAt K H (.ref p) (daH h) := by
  refine .tup e rfl fun i y d g1 g2 => ?_
  match i, g1, g2 with
  | 0, g1, g2 => cases g1; cases g2; exact .str _
  | 1, g1, g2 => cases g1; cases g2; exact .int _
theorem daH_nb (h : Str × Int) : (daH h).Nb 1 := .tup fun d hd => by
  rcases List.mem_cons.mp hd with rfl | hd
  · exact .str
  · rw [List.mem_singleton.mp hd]
    exact .int
theorem idx_at {α : Type} [BEq α] [LawfulBEq α] {l : List α} {x : α} (h : x ∈ l) : l[l.idxOf x]? = some x ∧ ∀ m, m < l.idxOf x → l[m]? ≠ some x := by
  have hl : l.idxOf x < l.length := List.idxOf_lt_length_iff.mpr h
  refine ⟨by rw [List.getElem?_eq_getElem hl]; exact congrArg some (List.getElem_idxOf hl), fun m hm e => ?_⟩
  obtain ⟨h1, h2⟩ := List.getElem?_eq_some_iff.mp e
  have := List.not_of_lt_findIdx (p := (· == x)) (xs := l) (i := m) hm
  simp [h2] at this
def spFirst : Sp := fun vs H Q _ => ∃ (q ld : Addr) (d : FR) (dist : List Int), vs = [.ref q, .ref ld] ∧ RowF H q d ∧ FarOk d ∧ H ld = some (.lst (dist.map V.int)) ∧ (shortF d = true → dist ≠ []) ∧ ∀ H', Same H H' → Q (.int (firstF d dist)) H'
theorem scFst : FnScope ["row", "distances", "boxes", "a"] ["row", "distances"] (defScope sFirstU) := ⟨rfl, rfl, rfl, by decide +kernel, rfl, by decide +kernel, by decide +kernel⟩
theorem ok_first {f fP fH fL : Addr} {fd fdP fdH fdL : FuncData} (F : Fun K "first_unit" "first_unit" sFirstU f fd) (T : Txt K w.params mg) (GP : FnOk P w K mg base CX0 1 fP fdP ["row", "kinds"] (spParts (K := K))) (kP : PySem.W.keepIn K (.ref fP) = true) (bP : Binds K fdP ["row", "kinds"] []) (mP : mg "parts_of" = some (.ref fP)) (GH : FnOk P w K mg base CX0 3 fH fdH ["row"] spHead) (kH : PySem.W.keepIn K (.ref fH) = true) (bH : Binds K fdH ["row"] []) (mH : mg "head_of" = some (.ref fH)) (GL : FnOk P w K mg base CX0 3 fL fdL ["row", "distances"] spLow) (kL : PySem.W.keepIn K (.ref fL) = true) (bL : Binds K fdL ["row", "distances"] []) (mL : mg "low_of" = some (.ref fL)) : FnOk P w K mg base CX0 4 f fd ["row", "distances"] spFirst := by
  refine F.ok scFst (fun vs H Q E h => ?_) (fun cdv A outer s H vs Q E hr h => ?_)
  · obtain ⟨q, ld, d, dist, rfl, _⟩ := h
    rfl
  · obtain ⟨q, ld, d, dist, rfl, hR, hF, hd, hne, k⟩ := h
    have hrH : Room 3 (A.deeper (PyProof.Rows.envOfC "first_unit" (defScope sFirstU) s.heap.objs.size f cdv)) := hr
    have hrP : Room 1 (A.deeper (PyProof.Rows.envOfC "first_unit" (defScope sFirstU) s.heap.objs.size f cdv)) := hr.mono (by decide)
    have hu8 : (A.deeper (PyProof.Rows.envOfC "first_unit" (defScope sFirstU) s.heap.objs.size f cdv)).units + 8 < cLine := Nat.lt_of_le_of_lt (Nat.add_le_add_left (by decide : 8 ≤ 64) _) hr.units
    obtain ⟨_, hcs⟩ := T.cst
    obtain ⟨_, hbs⟩ := T.bst
    obtain ⟨ph, hph, hpo, hpq⟩ := T.hds
    refine wrapX (pssx_cons (psx_of (ps_set (i := 2) scFst.nd rfl (Or.inl rfl) (pe_call GP hrP (by rfl) mP kP bP .nil pass0 (pa_cons (pv 0) (pa_cons (pe_tup (pa_cons pe_str pa_nil)) pa_nil)))))
      (pssx_cons (psx_of (ps_set (i := 3) scFst.nd rfl (Or.inl rfl) (pe_mid (pe_ifExp (pt_cmpR op_gt (pe_callB call_len_seq (by rfl) T.len bt_len (pa_cons (pv 2) pa_nil)) pe_int (nomark _)) (pe_ix ix_list (pv 2) pe_int (fun _ _ => rfl)) pe_int))))
      (pssx_one (psx_of (ps_ret (pe_op op_add (pe_op op_add (pe_op op_mul (pe_bm PySem.F.plainAttrs_tuple PySem.F.slot_tuple_index PySem.F.type_tuple_index (mt_tidx hu8) (pe_glob (v := .ref ph) (by rfl) hph rfl) (pa_cons (pe_call GH hrH (by rfl) mH kH bH .nil pass0 (pa_cons (pv 0) pa_nil)) pa_nil)) (pe_glob (v := .int 1024) (by rfl) hcs ⟨_, rfl⟩)) (pe_op op_mul (pv 3) (pe_glob (v := .int 128) (by rfl) hbs ⟨_, rfl⟩))) (pe_call GL hr (by rfl) mL kL bL .nil pass0 (pa_cons (pv 0) (pa_cons (pv 1) pa_nil))))))))) ?_
    refine ⟨_, rfl, (by show 1 ≤ sizeLine; decide), fun t nt => ?_⟩
    have s1 := same_new (o := .tup [V.str "box"]) nt
    have ht : upd H t (.tup [V.str "box"]) t = _ := upd_same
    generalize upd H t (.tup [V.str "box"]) = G1 at s1 ht ⊢
    refine ⟨q, t, d, ["box"], rfl, hR.same s1, fun H' s' => SqT.of (s' _ _ ht), by decide, fun lb G2 s2 _ hlb => ?_⟩
    have s12 := s1.trans s2
    refine ⟨fun v G => v = .int ((pkD d ["box"]).headD 0) ∧ G = G2, ?_, ?_⟩
    · refine ⟨_, rfl, lb, _, rfl, .inl (SqL.of hlb), _, _, rfl, rfl, _, rfl, ?_⟩
      rw [List.length_map]
      cases hb : pkD d ["box"] with
      | nil => exact iteN (by simp) ⟨rfl, rfl⟩
      | cons x r =>
        rw [hb] at hlb
        refine iteP (by simp) ?_
        exact ⟨_, rfl, lb, _, 0, .int x, rfl, rfl, SqL.of hlb, at0 _ _, rfl, rfl⟩
    rintro v G ⟨rfl, hG⟩
    subst hG
    refine ⟨.inr (.inl ⟨rfl, hpo⟩), _, rfl, q, d, rfl, hR.same s12, fun p np => ?_⟩
    have s3 := s12.trans (same_new (o := .tup [.str d.u, .int (far0 d)]) np)
    have hp3 : upd G p (.tup [.str d.u, .int (far0 d)]) p = _ := upd_same
    generalize upd G p (.tup [.str d.u, .int (far0 d)]) = G3 at s3 hp3 ⊢
    obtain ⟨hs, h1, h2, h3⟩ := hpq G3
    have hin := idx_at (heads_in hR.1.1 hF)
    refine ⟨ph, hs.map V.ref, heads.map daH, .ref p, daH (d.u, far0 d), 1, codeF d, rfl, rfl, h1, by rw [List.length_map, List.length_map, h2], fun i x y g1 g2 => ?_, daH_at K (h := (d.u, far0 d)) (SqT.of hp3), fun y hy => ?_, daH_nb _, by decide, ?_, fun m hm => ?_, ?_⟩
    · rw [List.getElem?_map] at g1 g2
      obtain ⟨q1, e1, rfl⟩ := Option.map_eq_some_iff.mp g1
      obtain ⟨h, e2, rfl⟩ := Option.map_eq_some_iff.mp g2
      exact daH_at K (h3 i q1 h e1 e2)
    · obtain ⟨h, _, rfl⟩ := List.mem_map.mp hy
      exact daH_nb h
    · rw [List.getElem?_map]
      unfold codeF
      rw [hin.1]
      rfl
    · intro z
      rw [List.getElem?_map] at z
      obtain ⟨h, e1, e2⟩ := Option.map_eq_some_iff.mp z
      have := daH_inj e2
      subst this
      exact hin.2 m hm e1
    refine ⟨_, _, rfl, rfl, .inr ⟨by decide, by decide⟩, _, rfl, _, _, rfl, rfl, .inr ⟨by decide, by decide⟩, _, _, rfl, rfl, ?_⟩
    exact ⟨_, rfl, _, rfl, q, ld, d, dist, rfl, hR.same s3, s3 _ _ hd, hne, fun G4 s4 => ⟨_, _, rfl, rfl, k _ (s3.trans s4)⟩⟩
/-! ### other_units -/
def spOther : Sp := fun vs H Q _ => ∃ (q ld : Addr) (d : FR) (dist : List Int), vs = [.ref q, .ref ld] ∧ RowF H q d ∧ H ld = some (.lst (dist.map V.int)) ∧ dist.length ≤ 16 ∧ ∀ (l : Addr) (H' : Hp), Same H H' → H' l = some (.lst ((otherF d dist).map V.int)) → Q (.ref l) H'
theorem scOth : FnScope ["row", "distances"] ["row", "distances"] (defScope sOtherU) := ⟨rfl, rfl, rfl, by decide +kernel, rfl, by decide +kernel, by decide +kernel⟩
theorem ok_other {f fH fP : Addr} {fd fdH fdP : FuncData} (F : Fun K "other_units" "other_units" sOtherU f fd) (T : Txt K w.params mg) (GH : FnOk P w K mg base CX0 1 fH fdH ["word"] spFar) (kH : PySem.W.keepIn K (.ref fH) = true) (bH : Binds K fdH ["word"] []) (mH : mg "has_far" = some (.ref fH)) (GP : FnOk P w K mg base CX0 1 fP fdP ["row", "kinds"] (spParts (K := K))) (kP : PySem.W.keepIn K (.ref fP) = true) (bP : Binds K fdP ["row", "kinds"] []) (mP : mg "parts_of" = some (.ref fP)) : FnOk P w K mg base CX0 2 f fd ["row", "distances"] spOther := by
  refine F.ok scOth (fun vs H Q E h => ?_) (fun cdv A outer s H vs Q E hr h => ?_)
  · obtain ⟨q, ld, d, dist, rfl, _⟩ := h
    rfl
  · obtain ⟨q, ld, d, dist, rfl, hR, hd, hl, k⟩ := h
    have hrH : Room 1 (A.deeper (PyProof.Rows.envOfC "other_units" (defScope sOtherU) s.heap.objs.size f cdv)) := hr
    obtain ⟨pn, hpn, hnk⟩ := T.nks
    obtain ⟨items, i1, _⟩ := hR.full
    refine wrapX (pssx_cons (psx_if (pt_cmpR op_eq (pe_ix ix_tup (pv 0) pe_int (fun _ _ => rfl)) pe_str (nomark _)) (pssx_one (psx_of (ps_ret (pe_op op_cat (pe_lst (pa_cons (pe_callB call_len_seq (by rfl) T.len bt_len (pa_cons (pv 1) pa_nil)) pa_nil)) (pv 1))))) (pssx_nil pss_nil))
      (pssx_cons (psx_if (pt_val (pe_call GH hrH (by rfl) mH kH bH .nil pass0 (pa_cons (pe_ix ix_tup (pv 0) pe_int (fun _ _ => rfl)) pa_nil))) (pssx_one (psx_of (ps_ret (pe_ifExp (pt_cmpR op_eq (pe_ix ix_tup (pv 0) (pe_un un_neg pe_int) (fun _ _ => rfl)) pe_int (nomark _)) (pv 1) (pe_lst pa_nil))))) (pssx_nil pss_nil))
      (pssx_one (psx_of (ps_ret (pe_call GP hr (by rfl) mP kP bP .nil pass0 (pa_cons (pv 0) (pa_cons (pe_glob (v := .ref pn) (by rfl) hpn rfl) pa_nil)))))))) ?_
    unfold otherF at k
    refine ⟨_, rfl, q, _, 0, .str d.u, rfl, rfl, SqT.of i1, at0 _ _, rfl, _, rfl, ?_⟩
    refine ite2 (fun e => ?_) (fun e => ?_)
    · have e := strEq e
      rw [if_pos e] at k
      refine ⟨_, rfl, ld, _, rfl, .inl (SqL.of hd), (by show 1 ≤ sizeLine; decide), fun l1 nl1 => ?_⟩
      rw [List.length_map]
      have s1 := same_new (o := .lst [V.int ((dist.length : Nat) : Int)]) nl1
      have h1 : upd H l1 (.lst [V.int ((dist.length : Nat) : Int)]) l1 = _ := upd_same
      generalize upd H l1 (.lst [V.int ((dist.length : Nat) : Int)]) = G1 at s1 h1 ⊢
      refine ⟨_, rfl, l1, ld, _, _, rfl, rfl, h1, s1 _ _ hd, small_len (by show 1 + _ ≤ 1000000; rw [List.length_map]; omega), fun l2 nl2 => ?_⟩
      exact k l2 _ (s1.trans (same_new nl2)) upd_same
    · have e := strNe e
      rw [if_neg e] at k
      refine ⟨_, rfl, q, _, 0, .str d.u, rfl, rfl, SqT.of i1, at0 _ _, d.u, rfl, hR.1.1, _, rfl, ?_⟩
      refine ite2 (fun e2 => ?_) (fun e2 => ?_)
      · have e2 := of_decide_eq_true e2
        rw [if_pos e2] at k
        obtain ⟨_, g1, g2, _⟩ := five_row hR e2
        refine ⟨_, rfl, _, rfl, q, _, _, _, rfl, rfl, SqT.of g1, g2, rfl, _, rfl, ?_⟩
        by_cases hf : farF d = 1
        · rw [if_pos hf] at k
          refine iteP (by rw [hf]; decide) ?_
          exact ⟨_, rfl, k ld _ (.refl _) hd⟩
        · rw [if_neg hf] at k
          refine iteN (fun z => hf (V.int.inj (of_decide_eq_true z))) ?_
          exact ⟨Nat.le_of_ble_eq_true rfl, fun l nl => k l _ (same_new nl) upd_same⟩
      · have e2 : ¬ d.u ∈ five := fun z => e2 (decide_eq_true z)
        rw [if_neg e2] at k
        exact ⟨_, rfl, q, pn, d, numK, rfl, hR, fun H' _ => hnk H', by decide, fun l H' s' _ hl' => k l H' s' hl'⟩
/-! ### units_of -/
theorem other_len {d : FR} {dist : List Int} (hu : d.u ∈ all20) (h : dist.length ≤ 16) : (otherF d dist).length ≤ 17 := by
  unfold otherF
  split
  · rw [List.length_cons]; omega
  · split
    · split
      · omega
      · exact Nat.zero_le _
    · unfold pkD
      rw [List.length_map]
      refine Nat.le_trans (List.length_filter_le _ _) ?_
      rw [List.length_zip]
      have : (ksOf d.u).length ≤ 3 := (by decide +kernel : ∀ u ∈ all20, (ksOf u).length ≤ 3) _ hu
      omega
theorem big_lt {n : Nat} (h : n ≤ 2000000) : n < sizeLine := by rw [sizeLine_eq]; omega
def spUnits (cNL : Addr) : Sp := fun vs H Q E => ∃ (lr : Addr) (ds : List FR), vs = [.ref lr] ∧ RowsF H lr ds ∧ TgF ds ∧ (∀ d ∈ ds, FarOk d) ∧ ds.length ≤ 100000 ∧
  (firstL ds = none → ∀ (l : Addr) (H' : Hp), Same H H' → H l = none → H' l = some (.lst ((unitsL ds ds.length).map V.int)) → Q (.ref l) H') ∧ ∀ r, firstL ds = some r → ∀ H' d, Same H H' → H' d = some (.xd [("at", .int (r : Int))]) → E (.ref cNL) (some d) H'
theorem scUni : FnScope ["rows", "begins", "units", "r", "row", "distances"] ["rows"] (defScope sUnits) := ⟨rfl, rfl, rfl, by decide +kernel, rfl, by decide +kernel, by decide +kernel⟩
theorem ok_units {f fC fB fD fF fO cNL : Addr} {fd fdC fdB fdD fdF fdO : FuncData} (F : Fun K "units_of" "units_of" sUnits f fd) (T : Txt K w.params mg)
    (GC : FnOk P w K mg base (CX2 P w) 5 fC fdC ["rows"] (spCheckL cNL)) (kC : PySem.W.keepIn K (.ref fC) = true) (bC : Binds K fdC ["rows"] []) (mC : mg "check_layout" = some (.ref fC)) (GB : FnOk P w K mg base CX0 3 fB fdB ["rows"] spBegins) (kB : PySem.W.keepIn K (.ref fB) = true) (bB : Binds K fdB ["rows"] []) (mB : mg "begins_of" = some (.ref fB)) (GD : FnOk P w K mg base CX0 2 fD fdD ["rows", "begins", "r"] spDists) (kD : PySem.W.keepIn K (.ref fD) = true) (bD : Binds K fdD ["rows", "begins", "r"] []) (mD : mg "distances_of" = some (.ref fD)) (GF : FnOk P w K mg base CX0 4 fF fdF ["row", "distances"] spFirst) (kF : PySem.W.keepIn K (.ref fF) = true) (bF : Binds K fdF ["row", "distances"] []) (mF : mg "first_unit" = some (.ref fF)) (GO : FnOk P w K mg base CX0 2 fO fdO ["row", "distances"] spOther) (kO : PySem.W.keepIn K (.ref fO) = true) (bO : Binds K fdO ["row", "distances"] []) (mO : mg "other_units" = some (.ref fO)) : FnOk P w K mg base (CX2 P w) 6 f fd ["rows"] (spUnits cNL) := by
  refine F.okX scUni (fun vs H Q E h => ?_) (fun cdv A outer s H vs Q E hr h => ?_)
  · obtain ⟨lr, ds, rfl, _⟩ := h
    rfl
  · obtain ⟨lr, ds, rfl, hR, hT, hFo, hn, k, hE⟩ := h
    have hrC : Room 5 (A.deeper (PyProof.Rows.envOfC "units_of" (defScope sUnits) s.heap.objs.size f cdv)) := hr
    have hrB : Room 3 (A.deeper (PyProof.Rows.envOfC "units_of" (defScope sUnits) s.heap.objs.size f cdv)) := hr.mono (by decide)
    have hrD : Room 2 (A.deeper (PyProof.Rows.envOfC "units_of" (defScope sUnits) s.heap.objs.size f cdv)) := hr.mono (by decide)
    have hrO : Room 2 (A.deeper (PyProof.Rows.envOfC "units_of" (defScope sUnits) s.heap.objs.size f cdv)) := hr.mono (by decide)
    replace hr : Room 4 (A.deeper (PyProof.Rows.envOfC "units_of" (defScope sUnits) s.heap.objs.size f cdv)) := hr.mono (by decide)
    refine ⟨_, (pss_cons (ps_expr (pe_call GC hrC (by rfl) mC kC bC .nil pass22 (pa_cons (pv 0) pa_nil)))
      (pss_cons (ps_set (i := 1) scUni.nd rfl (Or.inl rfl) (pe_call GB hrB (by rfl) mB kB bB .nil pass0 (pa_cons (pv 0) pa_nil)))
      (pss_cons (ps_set (i := 2) scUni.nd rfl (Or.inl rfl) (pe_lst pa_nil))
      (pss_cons (ps_for PassesOwn.leaving rfl (pi_enum rfl T.enum (pa_cons (pv 0) pa_nil)) (pg_two (K := K) (i := 3) (j := 4) rfl rfl scUni.nd rfl (Or.inl rfl) rfl (Or.inl rfl)) (pss_cons (ps_set (i := 5) scUni.nd rfl (Or.inl rfl) (pe_call GD hrD (by rfl) mD kD bD .nil pass0 (pa_cons (pv 0) (pa_cons (pv 1) (pa_cons (pv 3) pa_nil)))))
      (pss_cons (ps_expr (pe_bm PySem.F.plainAttrs_list PySem.F.slot_list_append PySem.F.type_list_append mt_append (pv 2) (pa_cons (pe_call GF hr (by rfl) mF kF bF .nil pass0 (pa_cons (pv 4) (pa_cons (pv 5) pa_nil))) pa_nil)))
      (pss_one (ps_expr (pe_bm PySem.F.plainAttrs_list PySem.F.slot_list_extend PySem.F.type_list_extend mt_extend (pv 2) (pa_cons (pe_call GO hrO (by rfl) mO kO bO .nil pass0 (pa_cons (pv 4) (pa_cons (pv 5) pa_nil))) pa_nil)))))))
      (pss_one (ps_ret (pv 2))))))), ?_⟩
    refine ⟨_, rfl, lr, ds, rfl, hR, hT, hn, (fun e G1 s1 => ?_), fun r e G d sG hd => hE r e G d sG hd⟩
    replace k := k e
    refine ⟨_, rfl, lr, ds, rfl, hR.same s1, hn, fun lb G2 s2 nlb hlb => ?_⟩
    refine ⟨Nat.le_of_ble_eq_true rfl, fun lu nlu => ?_⟩
    have s12 := s1.trans s2
    have nluH : H lu = none := s12.free nlu
    have s3 := s12.trans (same_new (o := .lst []) nlu)
    have hlb3 := same_new (o := .lst []) nlu _ _ hlb
    have hlu3 : upd G2 lu (.lst []) lu = some (.lst ((unitsL ds 0).map V.int)) := upd_same
    have nbu : lb ≠ lu := fun z => by rw [← z, hlb] at nlu; cases nlu
    generalize upd G2 lu (.lst []) = G3 at s3 hlb3 hlu3 ⊢
    obtain ⟨qs, r1, r2, r3⟩ := id hR
    refine ⟨_, rfl, lr, rfl, ⟨_, SqL.of (s3 _ _ r1)⟩, for_enum (xs := qs.map V.ref) (fun i σ G => i ≤ ds.length ∧ ∃ v3 v4 v5 : Option V, σ = [some (.ref lr), some (.ref lb), some (.ref lu), v3, v4, v5] ∧ Same H G ∧ G lb = some (.lst ((begs ds ds.length).map V.int)) ∧ G lu = some (.lst ((unitsL ds i).map V.int)) ∧ (unitsL ds i).length ≤ 18 * i) ?_ ?_ ?_ ?_⟩
    · exact ⟨Nat.zero_le _, none, none, none, rfl, s3, hlb3, hlu3, Nat.zero_le _⟩
    · rintro i σ G _ ⟨_, v3, v4, v5, rfl, s4, _⟩
      exact SqL.of (s4 _ _ r1)
    · rintro i x σ G tt hx ntt ⟨_, v3, v4, v5, rfl, s4, hb4, hu4, hul⟩
      rw [List.getElem?_map] at hx
      obtain ⟨q, hq, rfl⟩ := Option.map_eq_some_iff.mp hx
      have hil : i < ds.length := by have := (List.getElem?_eq_some_iff.mp hq).1; omega
      have hd : ds[i]? = some ds[i] := List.getElem?_eq_getElem hil
      generalize ds[i] = d at hd
      have hTd := hT d (List.mem_of_getElem? hd)
      have s5 := s4.trans (same_new (o := .tup [V.int i, V.ref q]) ntt)
      have hb5 := same_new (o := .tup [V.int i, V.ref q]) ntt _ _ hb4
      have hu5 := same_new (o := .tup [V.int i, V.ref q]) ntt _ _ hu4
      have htt : upd G tt (.tup [V.int i, V.ref q]) tt = _ := upd_same
      generalize upd G tt (.tup [V.int i, V.ref q]) = G5 at s5 hb5 hu5 htt ⊢
      have hrow := (r3 i q d hq hd)
      refine ⟨tt, _, rfl, SqT.of htt, rfl, _, _, rfl, _, _, rfl, rfl, ?_⟩
      refine ⟨_, rfl, _, rfl, _, rfl, lr, lb, ds, i, d, rfl, hR.same s5, hb5, hd, hTd.2, hTd.1, fun ldi G6 s6 nld hld => ?_⟩
      have s56 := s5.trans s6
      have hsh : shortF d = true → d.ts.map (dstT ds i) ≠ [] := fun z => by
        have hu : d.u ∈ five := by
          unfold shortF at z
          rw [Bool.and_eq_true] at z
          exact of_decide_eq_true z.1
        obtain ⟨_, _, _, t, et, _⟩ := five_row hrow hu
        rw [et]
        exact List.cons_ne_nil _ _
      refine ⟨_, rfl, .inl ⟨rfl, _, SqL.of (s6 _ _ hu5)⟩, _, rfl, _, rfl, q, ldi, d, _, rfl, hrow.same s56, hFo d (List.mem_of_getElem? hd), hld, hsh, fun G7 s7 => ?_⟩
      have s57 := s56.trans s7
      have hu7 := s7 _ _ (s6 _ _ hu5)
      refine ⟨lu, _, _, rfl, rfl, hu7, big_lt (by rw [List.length_map]; omega), ?_⟩
      have e1 : (unitsL ds i).map V.int ++ [V.int (firstF d (d.ts.map (dstT ds i)))] = (unitsL ds i ++ [firstF d (d.ts.map (dstT ds i))]).map V.int := by rw [List.map_append]; rfl
      rw [e1]
      have nlu7 : H lu = none := nluH
      have hld8 : upd G7 lu (.lst ((unitsL ds i ++ [firstF d (d.ts.map (dstT ds i))]).map V.int)) ldi = some (.lst ((d.ts.map (dstT ds i)).map V.int)) := by
        have ne : ldi ≠ lu := fun z => by rw [z, hu5] at nld; cases nld
        rw [upd_ne ne]
        exact s7 _ _ hld
      have hb8 : upd G7 lu (.lst ((unitsL ds i ++ [firstF d (d.ts.map (dstT ds i))]).map V.int)) lb = some (.lst ((begs ds ds.length).map V.int)) := by
        rw [upd_ne nbu]
        exact s7 _ _ (s6 _ _ hb5)
      have s8 : Same H (upd G7 lu (.lst ((unitsL ds i ++ [firstF d (d.ts.map (dstT ds i))]).map V.int))) := same_put s57 nluH
      have hu8 : upd G7 lu (.lst ((unitsL ds i ++ [firstF d (d.ts.map (dstT ds i))]).map V.int)) lu = _ := upd_same
      generalize upd G7 lu (.lst ((unitsL ds i ++ [firstF d (d.ts.map (dstT ds i))]).map V.int)) = G8 at hld8 hb8 s8 hu8 ⊢
      have hdl : (d.ts.map (dstT ds i)).length ≤ 16 := by rw [List.length_map]; exact hTd.1
      refine ⟨_, rfl, .inl ⟨rfl, _, SqL.of hu8⟩, _, rfl, _, rfl, q, ldi, d, _, rfl, hrow.same s8, hld8, hdl, fun lo G9 s9 hlo => ?_⟩
      have hol := other_len (d := d) hrow.1.1 hdl
      refine ⟨lu, lo, _, _, rfl, rfl, s9 _ _ hu8, hlo, Nat.le_of_lt (big_lt (by rw [List.length_map, List.length_map, List.length_append, List.length_singleton]; omega)), ?_⟩
      have e2 : (unitsL ds i ++ [firstF d (d.ts.map (dstT ds i))]).map V.int ++ (otherF d (d.ts.map (dstT ds i))).map V.int = (unitsL ds (i + 1)).map V.int := by
        rw [unitsL_succ hd, ← List.map_append]
        unfold unitsR
        simp
      rw [e2]
      refine ⟨by omega, _, _, _, rfl, same_put (s8.trans s9) nluH, by rw [upd_ne nbu]; exact s9 _ _ hb8, upd_same, ?_⟩
      rw [unitsL_succ hd, List.length_append]
      unfold unitsR
      rw [List.length_cons]
      omega
    · rintro σ G ⟨_, v3, v4, v5, rfl, s4, hb4, hu4, hul⟩
      rw [List.length_map, r2] at hu4
      exact ⟨_, rfl, k lu _ s4 nluH hu4⟩
end
end My


set_option Elab.async false
set_option linter.all false
set_option maxRecDepth 100000
set_option maxHeartbeats 4000000
namespace My
open PySem L2
/-! ### the first row that does not bear its distance -/
def badL (ds : List FR) (r : Nat) : Bool := match ds[r]? with
  | some d => !bearsF ds r d
  | none => false
theorem badL_sh (ds : List FR) (r : Nat) : badL ds r = (shAt ds r).any fun x => !borneF x.2 := by
  unfold badL shAt
  cases ds[r]? with
  | none => rfl
  | some d =>
    show (!bearsF ds r d) = _
    unfold bearsF
    cases h : shortF d <;> simp [h]
theorem firstL_range (ds : List FR) : firstL ds = (List.range ds.length).find? (badL ds) := by
  unfold firstL shL
  rw [List.find?_filterMap]
  have e : (fun a => (shAt ds a).any fun x => !borneF x.2) = badL ds := funext fun r => (badL_sh ds r).symm
  rw [e]
  cases h : (List.range ds.length).find? (badL ds) with
  | none => rfl
  | some r =>
    have hb := List.find?_some h
    rw [badL_sh] at hb
    show ((shAt ds r).map (·.1)) = some r
    unfold shAt at hb ⊢
    cases h2 : ds[r]? with
    | none => rw [h2] at hb; cases hb
    | some d =>
      rw [h2] at hb
      show Option.map _ (if shortF d = true then some (r, dst ds r d) else none) = some r
      by_cases h3 : shortF d = true
      · rw [if_pos h3]; rfl
      · have hb : (if shortF d = true then some (r, dst ds r d) else none).any (fun x => !borneF x.2) = true := hb
        rw [if_neg h3] at hb
        cases hb
/-! ### a layout grown is good -/
theorem lenz_nil (ds : List FR) : lenz ds [] = ds := by
  refine List.ext_getElem? fun r => ?_
  unfold lenz
  rw [List.getElem?_mapIdx]
  cases ds[r]? <;> simp
/-! ### rows that do not jump -/
def T1 : FR := ⟨"tell", [3], []⟩
def T2 : FR := ⟨"set", [3, 4], []⟩
def T3 : FR := ⟨"table", [3], [0]⟩
def T4 : FR := ⟨"table", [3], [0, 0]⟩
def hlt : FR := ⟨"halt", [3], []⟩
def fillOk (d : FR) : Prop := d = T1 ∨ d = T2 ∨ d = T3 ∨ d = T4
def jr (u : Str) (t f : Int) : FR := if u ∈ zb then ⟨u, [5, t, f], [t]⟩ else ⟨u, [t, f], [t]⟩
def sz (l : List FR) : Int := (l.map szF).sum
theorem fill_facts {d : FR} (h : fillOk d) : ¬ d.u ∈ five ∧ 1 ≤ szF d ∧ d.ts.length ≤ 16 ∧ (∀ t ∈ d.ts, t = 0) ∧ ∀ (ds : List FR) (r : Nat), ((unitsR ds r d).length : Int) = szF d := by
  rcases h with rfl | rfl | rfl | rfl
  · exact ⟨by decide +kernel, by decide +kernel, by decide +kernel, by decide +kernel, fun ds r => by
      unfold unitsR
      rw [List.length_cons, show otherF T1 (T1.ts.map (dstT ds r)) = [] from (by decide +kernel : otherF T1 [] = [])]
      decide +kernel⟩
  · exact ⟨by decide +kernel, by decide +kernel, by decide +kernel, by decide +kernel, fun ds r => by
      unfold unitsR
      rw [List.length_cons, show otherF T2 (T2.ts.map (dstT ds r)) = [4] from (by decide +kernel : otherF T2 [] = [4])]
      decide +kernel⟩
  · exact ⟨by decide +kernel, by decide +kernel, by decide +kernel, by decide +kernel, fun ds r => by
      unfold unitsR otherF
      rw [if_pos (show T3.u = "table" from rfl), show szF T3 = 3 by decide +kernel]
      rfl⟩
  · exact ⟨by decide +kernel, by decide +kernel, by decide +kernel, by decide +kernel, fun ds r => by
      unfold unitsR otherF
      rw [if_pos (show T4.u = "table" from rfl), show szF T4 = 4 by decide +kernel]
      rfl⟩
theorem jr_u (u : Str) (t f : Int) : (jr u t f).u = u := by unfold jr; split <;> rfl
theorem jr_ts (u : Str) (t f : Int) : (jr u t f).ts = [t] := by unfold jr; split <;> rfl
theorem jr_far (u : Str) (t f : Int) : farF (jr u t f) = f := by unfold jr farF; split <;> rfl
theorem jr_sz {u : Str} (h : u ∈ five) (t f : Int) : szF (jr u t f) = 1 + f := by
  unfold szF
  rw [jr_u, if_neg (fun z => absurd h (by rw [z]; decide)), if_pos h, jr_far]
theorem jr_short {u : Str} (h : u ∈ five) (t f : Int) : shortF (jr u t f) = decide (f = 0) := by
  unfold shortF
  rw [jr_u, jr_far, decide_eq_true h, Bool.true_and]
theorem jr_set {u : Str} (h : u ∈ five) (t f : Int) : setF (jr u t f) = jr u t 1 := by
  unfold setF
  rw [jr_u, if_pos h]
  unfold jr
  split <;> rfl
theorem jr_good {u : Str} {t f n : Int} (h0 : 0 ≤ t) (h1 : t < n) (hf : f = 0 ∨ f = 1) : GoodR (jr u t f) n := by
  refine ⟨by rw [jr_ts]; exact (by decide : 1 ≤ 16), by rw [jr_ts]; exact fun x hx => by rw [List.mem_singleton.mp hx]; exact ⟨h0, h1⟩, fun _ => ?_⟩
  rw [jr_far]
  exact hf
theorem hlt_facts : ¬ hlt.u ∈ five ∧ hlt.ts = [] ∧ szF hlt = 2 := by decide +kernel
/-! ### one jump, as its place -/
structure One (ds : List FR) (a : Nat) (u : Str) (t f : Int) : Prop where
  at_ : ds[a]? = some (jr u t f)
  five_ : u ∈ five
  oth : ∀ (r : Nat) d, ds[r]? = some d → r ≠ a → ¬ d.u ∈ five
theorem One.short {ds : List FR} {a : Nat} {u : Str} {t f : Int} (h : One ds a u t f) {r : Nat} {d : FR} (hd : ds[r]? = some d) (hs : shortF d = true) : r = a ∧ d = jr u t f ∧ f = 0 := by
  by_cases e : r = a
  · subst e
    rw [h.at_] at hd
    cases hd
    rw [jr_short h.five_] at hs
    exact ⟨rfl, rfl, of_decide_eq_true hs⟩
  · exact absurd (short_five hs).1 (h.oth r d hd e)
theorem One.first {ds : List FR} {a : Nat} {u : Str} {t f : Int} (h : One ds a u t f) : firstL ds = if f = 0 ∧ borneF (dstT ds a t) = false then some a else none := by
  have hb : ∀ r, badL ds r = true → r = a ∧ f = 0 ∧ borneF (dstT ds a t) = false := fun r hr => by
    unfold badL at hr
    cases hd : ds[r]? with
    | none => rw [hd] at hr; cases hr
    | some d =>
      rw [hd] at hr
      have hr : (!bearsF ds r d) = true := hr
      unfold bearsF at hr
      cases hs : shortF d with
      | false => rw [hs] at hr; cases hr
      | true =>
        obtain ⟨rfl, rfl, e⟩ := h.short hd hs
        rw [hs] at hr
        unfold dst at hr
        rw [jr_ts] at hr
        exact ⟨rfl, e, by simpa using hr⟩
  have ha : a < ds.length := (List.getElem?_eq_some_iff.mp h.at_).1
  rw [firstL_range]
  by_cases z : f = 0 ∧ borneF (dstT ds a t) = false
  · rw [if_pos z, List.find?_range_eq_some]
    refine ⟨?_, List.mem_range.mpr ha, fun j hj => ?_⟩
    · unfold badL
      rw [h.at_]
      show (!bearsF ds a (jr u t f)) = true
      unfold bearsF dst
      rw [jr_ts, jr_short h.five_, decide_eq_true z.1]
      show (!(false || borneF (dstT ds a t))) = true
      rw [z.2]
      rfl
    · cases hbj : badL ds j with
      | false => rfl
      | true => have := (hb j hbj).1; omega
  · rw [if_neg z, List.find?_eq_none]
    intro r _ hr
    exact z (hb r hr).2
theorem One.far {ds : List FR} {a : Nat} {u : Str} {t f : Int} (h : One ds a u t f) (hG : AllG ds) {L : List Nat} (hL : ∀ x, x ∈ L ↔ Far ds x) : lenz ds L = if f = 0 ∧ borneF (dstT ds a t) = false then ds.set a (jr u t 1) else ds := by
  by_cases z : f = 0 ∧ borneF (dstT ds a t) = false
  · rw [if_pos z]
    have hs : shortF (jr u t f) = true := by rw [jr_short h.five_]; exact decide_eq_true z.1
    have hfa : Far ds a := .mk [] (fun x hx => (List.not_mem_nil hx).elim) h.at_ hs (by unfold dst; rw [lenz_nil, jr_ts]; exact z.2)
    have e : lenz ds L = lenz ds [a] := lenz_congr fun x => by
      rw [hL]
      constructor
      · intro hx
        exact far_is hG (L := [a]) (fun y hy => by rw [List.mem_singleton.mp hy]; exact hfa) (fun r d hd hs' hn => absurd (List.mem_singleton.mpr (h.short hd hs').1) hn) x hx
      · intro hx
        rw [List.mem_singleton.mp hx]
        exact hfa
    rw [e, ← lenz_set h.at_, lenz_nil, jr_set h.five_]
  · rw [if_neg z]
    have hno := far_good hG fun r d hd hs => by
      obtain ⟨rfl, rfl, e⟩ := h.short hd hs
      cases hb : borneF (dst ds r (jr u t f)) with
      | true => rfl
      | false =>
        unfold dst at hb
        rw [jr_ts] at hb
        exact absurd ⟨e, hb⟩ z
    have e : L = [] := List.eq_nil_iff_forall_not_mem.mpr fun x hx => hno x ((hL x).mp hx)
    rw [e, lenz_nil]
/-! ### sums of sizes -/
theorem beg_sz (ds : List FR) (j : Nat) : beg ds j = sz (ds.take j) := rfl
theorem sz_app (a b : List FR) : sz (a ++ b) = sz a + sz b := by unfold sz; rw [List.map_append, List.sum_append]
theorem sz_one (d : FR) : sz [d] = szF d := by unfold sz; simp
theorem units_len {ds : List FR} : ∀ j, j ≤ ds.length → (∀ d ∈ ds.take j, fillOk d) → ((unitsL ds j).length : Int) = beg ds j
  | 0, _, _ => rfl
  | j + 1, h, hf => by
    have hd : ds[j]? = some ds[j] := List.getElem?_eq_getElem (by omega)
    have ih := units_len (ds := ds) j (by omega) (fun d hd' => hf d (by rw [List.take_add_one]; exact List.mem_append_left _ hd'))
    have hfd := hf ds[j] (by rw [List.take_add_one, hd]; exact List.mem_append_right _ (by simp))
    rw [unitsL_succ hd, beg_succ hd, List.length_append, ← ih]
    have := (fill_facts hfd).2.2.2.2 ds j
    omega
theorem units_pre {ds : List FR} {j : Nat} : ∀ m, j ≤ m → m ≤ ds.length → ∃ r, unitsL ds m = unitsL ds j ++ r
  | 0, h, _ => ⟨[], by rw [Nat.le_zero.mp h]; simp⟩
  | m + 1, h, hm => by
    rcases Nat.lt_or_eq_of_le h with z | z
    · obtain ⟨r, e⟩ := units_pre (ds := ds) (j := j) m (by omega) (by omega)
      have hd : ds[m]? = some ds[m] := List.getElem?_eq_getElem (by omega)
      exact ⟨r ++ unitsR ds m ds[m], by rw [unitsL_succ hd, e, List.append_assoc]⟩
    · exact ⟨[], by rw [z]; simp⟩
/-- the units of the jump stand where its row begins -/
theorem One.units {ds : List FR} {a : Nat} {u : Str} {t f : Int} (h : One ds a u t f) (hf : ∀ d ∈ ds.take a, fillOk d) {U : Nat} (hU : beg ds a = U) (i : Nat) {x : Int} (hx : (unitsR ds a (jr u t f))[i]? = some x) : (unitsL ds ds.length)[U + i]? = some x := by
  have ha : a < ds.length := (List.getElem?_eq_some_iff.mp h.at_).1
  obtain ⟨r, e⟩ := units_pre (ds := ds) (j := a + 1) ds.length (by omega) (Nat.le_refl _)
  have hl := units_len a (by omega) hf
  have hl' : (unitsL ds a).length = U := by omega
  rw [e, unitsL_succ h.at_, List.append_assoc, List.getElem?_append_right (by omega), hl', Nat.add_sub_cancel_left]
  rw [List.getElem?_append_left (List.getElem?_eq_some_iff.mp hx).1]
  exact hx
theorem jr_first {ds : List FR} {a : Nat} {u : Str} {t : Int} (h : u ∈ five) (hb : borneF (dstT ds a t) = true) : ∃ x, (unitsR ds a (jr u t 0))[0]? = some x ∧ x % 128 = dstT ds a t + 64 := by
  refine ⟨_, rfl, ?_⟩
  unfold firstF lowF
  rw [jr_short h, jr_ts, if_pos (by simp)]
  show ((codeF (jr u t 0) : Int) * 1024 + (pkD (jr u t 0) ["box"]).headD 0 * 128 + (dstT ds a t + 64)) % 128 = dstT ds a t + 64
  unfold borneF at hb
  have := of_decide_eq_true hb
  generalize (codeF (jr u t 0) : Int) = c
  generalize (pkD (jr u t 0) ["box"]).headD 0 = b
  omega
theorem jr_second {ds : List FR} {a : Nat} {u : Str} {t : Int} (h : u ∈ five) : (unitsR ds a (jr u t 1))[1]? = some (dstT ds a t) := by
  unfold unitsR otherF
  rw [jr_u, if_neg (fun z => absurd h (by rw [z]; decide)), if_pos h, jr_far, if_pos rfl, jr_ts]
  rfl
end My


set_option Elab.async false
set_option linter.all false
set_option maxRecDepth 100000
set_option maxHeartbeats 4000000
namespace My
open PySem L2
theorem pei_ix {X : Cx} {a b : Expr} {ta tb : TE} {pos : Pos} {r : R2} (hr : IxR X r) (ha : PEi X a ta) (hb : PE X b tb) (hs : PlainIx b) : PEi X (.Subscript a b pos) (tOp r ta tb) := by
  unfold PEi at ha ⊢
  exact pe_ix hr ha hb hs
theorem peo_ix {X : Cx} {a b : Expr} {ta tb : TE} {pos : Pos} {r : R2} (hr : IxR X r) (ha : PEi X a ta) (hb : PE X b tb) (hs : PlainIx b) : PE X (.Subscript a b pos) (tOp r ta tb) := by
  unfold PEi at ha
  exact pe_ix hr ha hb hs
theorem pe_bm1 {X : Cx} {o e : Expr} {to te : TE} {name : Str} {apos cpos : Pos} {Ty id : String} {r : V → List V → Hp → VK → Prop} (pa : PySem.PlainAttrs Ty) (slot : PySem.Slot Ty name id) (hty : typeOf (.builtin id) = pure (.type "method_descriptor")) (hm : MtR X id r) (ho : PE X o to) (he : PE X e te) (hst : isStar e = false := by rfl)
    (hbase : attributeBase o name X.env (eval o X.env) = eval o X.env := by rfl) (hline : (apos.endLine == cpos.line) = true := by rfl) : PE X (.Call (.Attribute o name apos) [e] [] cpos) (tBM X.K Ty r to (tCons te tNil)) :=
  pe_bm pa slot hty hm ho (pa_cons he pa_nil (star_no hst)) hbase (by rw [star_no hst]; rfl) hline (star_no hst) rfl
theorem pei_bm1 {X : Cx} {o e : Expr} {to te : TE} {name : Str} {apos cpos : Pos} {Ty id : String} {r : V → List V → Hp → VK → Prop} (pa : PySem.PlainAttrs Ty) (slot : PySem.Slot Ty name id) (hty : typeOf (.builtin id) = pure (.type "method_descriptor")) (hm : MtR X id r) (ho : PE X o to) (he : PEi X e te) (hst : isStar e = false := by rfl)
    (hbase : attributeBase o name X.env (eval o X.env) = eval o X.env := by rfl) (hline : (apos.endLine == cpos.line) = true := by rfl) : PEi X (.Call (.Attribute o name apos) [e] [] cpos) (tBM X.K Ty r to (tCons te tNil)) := by
  unfold PEi at he ⊢
  exact pe_bm1 pa slot hty hm ho he hst hbase hline
theorem psi_call {X : Cx} {f : Expr} {es : List Expr} {cpos pos : Pos} {te : TE} (he : PEi X (.Call f es [] cpos) te) : PSi X (.Expr (.Call f es [] cpos) pos) (tDrop te) := by
  unfold PEi at he
  unfold PSi
  exact ps_expr he
theorem pk_t2 {X : Cx} {u : Str} {i : Int} {j1 p1 j2 p2 x1 pos} : PE X (.Tuple [.Constant (.str u) j1 p1, .Constant (.int i) j2 p2] x1 pos) (tTup (tCons (tC (.str u)) (tCons (tC (.int i)) tNil))) := pe_tup (pa_cons pe_str (pa_cons pe_int pa_nil))
theorem pk_t3 {X : Cx} {u : Str} {i k : Int} {j1 p1 j2 p2 j3 p3 x1 pos} : PE X (.Tuple [.Constant (.str u) j1 p1, .Constant (.int i) j2 p2, .Constant (.int k) j3 p3] x1 pos) (tTup (tCons (tC (.str u)) (tCons (tC (.int i)) (tCons (tC (.int k)) tNil)))) := pe_tup (pa_cons pe_str (pa_cons pe_int (pa_cons pe_int pa_nil)))
theorem pk_t31 {X : Cx} {u : Str} {i a : Int} {j1 p1 j2 p2 j3 p3 x2 p4 x1 pos} : PE X (.Tuple [.Constant (.str u) j1 p1, .Constant (.int i) j2 p2, .Tuple [.Constant (.int a) j3 p3] x2 p4] x1 pos) (tTup (tCons (tC (.str u)) (tCons (tC (.int i)) (tCons (tTup (tCons (tC (.int a)) tNil)) tNil)))) := pe_tup (pa_cons pe_str (pa_cons pe_int (pa_cons (pe_tup (pa_cons pe_int pa_nil)) pa_nil)))
theorem pk_t32 {X : Cx} {u : Str} {i a b : Int} {j1 p1 j2 p2 j3 p3 j4 p5 x2 p4 x1 pos} : PE X (.Tuple [.Constant (.str u) j1 p1, .Constant (.int i) j2 p2, .Tuple [.Constant (.int a) j3 p3, .Constant (.int b) j4 p5] x2 p4] x1 pos) (tTup (tCons (tC (.str u)) (tCons (tC (.int i)) (tCons (tTup (tCons (tC (.int a)) (tCons (tC (.int b)) tNil))) tNil)))) := pe_tup (pa_cons pe_str (pa_cons pe_int (pa_cons (pe_tup (pa_cons pe_int (pa_cons pe_int pa_nil))) pa_nil)))
/-! ### rows and their places in the heap -/
def RowsA (G : Hp) (qs : List Addr) (ds : List FR) : Prop := qs.length = ds.length ∧ ∀ (i : Nat) q d, qs[i]? = some q → ds[i]? = some d → RowF G q d
theorem RowsA.same {G G' : Hp} {qs : List Addr} {ds : List FR} (h : RowsA G qs ds) (s : Same G G') : RowsA G' qs ds := ⟨h.1, fun i q d a b => (h.2 i q d a b).same s⟩
theorem RowsA.put {G : Hp} {qs : List Addr} {ds : List FR} {l : Addr} {xs : List V} {o : HO} (h : RowsA G qs ds) (hl : G l = some (.lst xs)) : RowsA (upd G l o) qs ds := ⟨h.1, fun i q d a b => (h.2 i q d a b).put hl⟩
theorem RowsA.app {G : Hp} {qs rs : List Addr} {ds es : List FR} (h : RowsA G qs ds) (h' : RowsA G rs es) : RowsA G (qs ++ rs) (ds ++ es) := by
  refine ⟨by rw [List.length_append, List.length_append, h.1, h'.1], fun i q d g1 g2 => ?_⟩
  by_cases hi : i < qs.length
  · rw [List.getElem?_append_left hi] at g1
    rw [List.getElem?_append_left (by rw [← h.1]; exact hi)] at g2
    exact h.2 i q d g1 g2
  · rw [List.getElem?_append_right (by omega)] at g1
    rw [List.getElem?_append_right (by rw [← h.1]; omega), ← h.1] at g2
    exact h'.2 _ q d g1 g2
theorem RowsA.one {G : Hp} {q : Addr} {d : FR} (h : RowF G q d) : RowsA G [q] [d] := ⟨rfl, fun i q' d' g1 g2 => by
  cases i with
  | zero => cases g1; cases g2; exact h
  | succ i => simp at g1⟩
theorem RowsA.nil {G : Hp} : RowsA G [] [] := ⟨rfl, fun i q d g => by simp at g⟩
theorem RowsA.set {G : Hp} {qs : List Addr} {ds : List FR} {q : Addr} {d : FR} (h : RowsA G qs ds) (hr : RowF G q d) (j : Nat) : RowsA G (qs.set j q) (ds.set j d) := by
  refine ⟨by rw [List.length_set, List.length_set, h.1], fun i q' d' g1 g2 => ?_⟩
  rcases set_get g1 with ⟨e, rfl⟩ | ⟨e, g1⟩ <;> rcases set_get g2 with ⟨e', rfl⟩ | ⟨e', g2⟩
  · exact hr
  · exact absurd e e'
  · exact absurd e' e
  · exact h.2 i q' d' g1 g2
theorem fill_len : ∀ {fs : List FR}, (∀ d ∈ fs, fillOk d) → (fs.length : Int) ≤ sz fs
  | [], _ => by unfold sz; simp
  | d :: fs, h => by
    have ih := fill_len (fs := fs) fun x hx => h x (List.mem_cons_of_mem _ hx)
    have := (fill_facts (h d (by simp))).2.1
    unfold sz at ih ⊢
    rw [List.map_cons, List.sum_cons, List.length_cons]
    omega
theorem jr_row {H : Hp} {q : Addr} {u : Str} {t f : Int} (hu : u ∈ five) (h : H q = some (.tup (if u ∈ zb then [.str u, .int 5, .int t, .int f] else [.str u, .int t, .int f]))) : RowF H q (jr u t f) := by
  unfold jr
  by_cases z : u ∈ zb
  · rw [if_pos z] at h ⊢
    exact row_zb z h
  · rw [if_neg z] at h ⊢
    exact row_jcm ((by decide +kernel : ∀ u ∈ five, ¬ u ∈ zb → u ∈ jcm) u hu z) h
def rowsD (b : Bool) (u : Str) (fs : List FR) (f : Int) : List FR := if b = true then [jr u ((fs.length : Int) + 1) f] ++ fs ++ [hlt] else fs ++ [jr u 0 f, hlt]
section
variable {P : Program} {w : World} {K : PySem.W.Frag} {mg : Str → Option Value} {base : Heap}
/-! ### _law_filled -/
def spFilled : Sp := fun vs H Q _ => ∃ (lx : Addr) (ms : List Int) (U : Int), vs = [.ref lx, .int U] ∧ H lx = some (.lst (ms.map V.int)) ∧ ms.length = 8 ∧ 0 ≤ U ∧ U ≤ 100 ∧ ∀ (l : Addr) (fs : List FR) (H' : Hp), Same H H' → RowsF H' l fs → (∀ d ∈ fs, fillOk d) → sz fs = U → Q (.ref l) H'
theorem scFil : FnScope ["_law_xs", "_law_units", "_law_rows_here", "_law_x", "_law_size"] ["_law_xs", "_law_units"] (defScope sFilled) := ⟨rfl, rfl, rfl, by decide +kernel, rfl, by decide +kernel, by decide +kernel⟩
theorem ok_filled {f : Addr} {fd : FuncData} (F : Fun K "_law_filled" "_law_filled" sFilled f fd) (T : Txt K w.params mg) : FnOk P w K mg base CX0 1 f fd ["_law_xs", "_law_units"] spFilled := by
  refine F.ok scFil (fun vs H Q E h => ?_) (fun cdv A outer s H vs Q E hr h => ?_)
  · obtain ⟨lx, ms, U, rfl, _⟩ := h
    rfl
  · obtain ⟨lx, ms, U, rfl, hx, hms, hU0, hU1, k⟩ := h
    obtain ⟨x3, _, hx3⟩ := at_intsS ms 3 (by decide) (by omega)
    refine wrapX (pssx_cons (psx_of (ps_set (i := 2) scFil.nd rfl (Or.inl rfl) (pe_lst pa_nil)))
      (pssx_cons (psx_of (ps_set (i := 3) scFil.nd rfl (Or.inl rfl) (pe_ix ix_list (pv 0) pe_int (fun _ _ => rfl))))
      (pssx_cons (psx_of (ps_while PassesOwn.never (pt_cmpR op_gt (pv 1) pe_int (nomark _)) (pssx_cons (psx_of (ps_set (i := 4) scFil.nd rfl (Or.inl rfl) (peo_ix ix_list (pei_lst (.cons pe_int (.cons pe_int (.cons pe_int (.cons pe_int .nil))))) (pe_op op_mod (pv 3) pe_int) (fun _ _ => rfl)))) (pssx_cons (psx_of (ps_set (i := 3) scFil.nd rfl (Or.inl rfl) (pe_op op_fdivB (pv 3) pe_int))) (pssx_cons (psx_of (ps_set (i := 4) scFil.nd rfl (Or.inl rfl) (pe_callB (call_min2 rfl) (by rfl) T.min bt_min (pa_cons (pv 4) (pa_cons (pv 1) pa_nil))))) (pssx_cons (psx_of_i (psi_call (pei_bm1 PySem.F.plainAttrs_list PySem.F.slot_list_append PySem.F.type_list_append mt_append (pv 2) (pei_ix ix_list (pei_lst (.cons pk_t2 (.cons pk_t3 (.cons pk_t31 (.cons pk_t32 .nil))))) (pe_op op_sub (pv 4) pe_int) (fun _ _ => rfl))))) (pssx_one (psx_of (ps_set (i := 1) scFil.nd rfl (Or.inl rfl) (pe_op op_sub (pv 1) (pv 4))))))))).ps))
      (pssx_one (psx_of (ps_ret (pv 2))))))) ?_
    refine ⟨Nat.le_of_ble_eq_true rfl, fun la nla => ?_⟩
    have s0 := same_new (o := .lst []) nla
    have h0 : upd H la (.lst []) la = some (.lst (([] : List Addr).map V.ref)) := upd_same
    generalize upd H la (.lst []) = G0 at s0 h0 ⊢
    refine ⟨_, rfl, lx, _, 3, .int x3, rfl, rfl, SqL.of (s0 _ _ hx), hx3, ?_⟩
    refine ⟨fun mm σ G => ∃ (U1 x : Int) (v : Option V) (qs : List Addr) (fs : List FR), σ = [some (.ref lx), some (.int U1), some (.ref la), some (.int x), v] ∧ Same H G ∧ G la = some (.lst (qs.map V.ref)) ∧ RowsA G qs fs ∧ (∀ d ∈ fs, fillOk d) ∧ sz fs + U1 = U ∧ 0 ≤ U1 ∧ mm = U1.toNat, ⟨_, U, x3, none, [], [], rfl, s0, h0, .nil, fun d hd => (List.not_mem_nil hd).elim, by unfold sz; simp, hU0, rfl⟩, ?_⟩
    rintro mm σ G ⟨U1, x, v, qs, fs, rfl, s1, hla, hR, hF, hS, hU, rfl⟩
    refine ⟨_, rfl, _, _, rfl, rfl, _, rfl, ?_⟩
    refine ite2 (fun e => ?_) (fun e => ?_)
    · have e := of_decide_eq_true e
      have hfl := fill_len hF
      have hql := hR.1
      have hx4 := modB x (show (0 : Int) < 4 by decide)
      obtain ⟨c, hc, hcat⟩ := at_intsS [1, 2, 3, 4] (x % 4) hx4.1 hx4.2
      have hc4 : 1 ≤ c ∧ c ≤ 4 := by
        simp at hc
        omega
      refine ⟨fun σ' G' => ∃ (U1' x' : Int) (v' : Option V) (qs' : List Addr) (fs' : List FR), σ' = [some (.ref lx), some (.int U1'), some (.ref la), some (.int x'), v'] ∧ Same H G' ∧ G' la = some (.lst (qs'.map V.ref)) ∧ RowsA G' qs' fs' ∧ (∀ d ∈ fs', fillOk d) ∧ sz fs' + U1' = U ∧ 0 ≤ U1' ∧ U1' < U1, ?_, ?_⟩
      · rintro σ' G' ⟨U1', x', v', qs', fs', rfl, a1, a2, a3, a4, a5, a6, a7⟩
        exact ⟨U1'.toNat, by omega, U1', x', v', qs', fs', rfl, a1, a2, a3, a4, a5, a6, rfl⟩
      refine ⟨(by show 4 ≤ sizeLine; decide), fun l4 nl4 => ?_⟩
      have s2 := s1.trans (same_new (o := .lst [V.int 1, V.int 2, V.int 3, V.int 4]) nl4)
      have zl4 : upd G l4 (.lst [V.int 1, V.int 2, V.int 3, V.int 4]) l4 = _ := upd_same
      replace hR := hR.same (same_new (o := .lst [V.int 1, V.int 2, V.int 3, V.int 4]) nl4)
      replace hla := same_new (o := .lst [V.int 1, V.int 2, V.int 3, V.int 4]) nl4 _ _ hla
      generalize upd G l4 (.lst [V.int 1, V.int 2, V.int 3, V.int 4]) = G2 at s2 zl4 hR hla ⊢
      refine ⟨_, rfl, _, _, rfl, rfl, (by show (0 : Int) < 4; decide), l4, _, _, .int c, rfl, rfl, SqL.of (show G2 l4 = some (.lst (([1, 2, 3, 4] : List Int).map V.int)) from zl4), hcat, ?_⟩
      refine ⟨_, rfl, _, _, rfl, rfl, ⟨by show (0 : Int) < 4; decide, by show (4 : Int) < _; decide⟩, ?_⟩
      refine ⟨_, rfl, _, rfl, _, _, rfl, ?_⟩
      have hs : 1 ≤ (if U1 < c then U1 else c) ∧ (if U1 < c then U1 else c) ≤ 4 ∧ (if U1 < c then U1 else c) ≤ U1 := by split <;> omega
      refine ⟨_, rfl, .inl ⟨rfl, _, SqL.of hla⟩, ?_⟩
      refine ⟨(by show 2 ≤ sizeLine; decide), fun t1 nt1 => ?_⟩
      have s3 := s2.trans (same_new (o := .tup [V.str "tell", V.int 3]) nt1)
      have zt1 : upd G2 t1 (.tup [V.str "tell", V.int 3]) t1 = _ := upd_same
      replace hR := hR.same (same_new (o := .tup [V.str "tell", V.int 3]) nt1)
      replace hla := same_new (o := .tup [V.str "tell", V.int 3]) nt1 _ _ hla
      generalize upd G2 t1 (.tup [V.str "tell", V.int 3]) = G3 at s3 zt1 hR hla ⊢
      have r1 : RowF G3 t1 T1 := row_one (by decide) zt1
      refine ⟨(by show 3 ≤ sizeLine; decide), fun t2 nt2 => ?_⟩
      have s4 := s3.trans (same_new (o := .tup [V.str "set", V.int 3, V.int 4]) nt2)
      have zt2 : upd G3 t2 (.tup [V.str "set", V.int 3, V.int 4]) t2 = _ := upd_same
      replace hR := hR.same (same_new (o := .tup [V.str "set", V.int 3, V.int 4]) nt2)
      replace r1 := r1.same (same_new (o := .tup [V.str "set", V.int 3, V.int 4]) nt2)
      replace hla := same_new (o := .tup [V.str "set", V.int 3, V.int 4]) nt2 _ _ hla
      generalize upd G3 t2 (.tup [V.str "set", V.int 3, V.int 4]) = G4 at s4 zt2 hR r1 hla ⊢
      have r2 : RowF G4 t2 T2 := row_two (by decide) zt2
      refine ⟨(by show 1 ≤ sizeLine; decide), fun ti nti => ?_⟩
      have s5 := s4.trans (same_new (o := .tup [V.int 0]) nti)
      have zti : upd G4 ti (.tup [V.int 0]) ti = _ := upd_same
      replace hR := hR.same (same_new (o := .tup [V.int 0]) nti)
      replace r1 := r1.same (same_new (o := .tup [V.int 0]) nti)
      replace r2 := r2.same (same_new (o := .tup [V.int 0]) nti)
      replace hla := same_new (o := .tup [V.int 0]) nti _ _ hla
      generalize upd G4 ti (.tup [V.int 0]) = G5 at s5 zti hR r1 r2 hla ⊢
      refine ⟨(by show 3 ≤ sizeLine; decide), fun t3 nt3 => ?_⟩
      have s6 := s5.trans (same_new (o := .tup [V.str "table", V.int 3, V.ref ti]) nt3)
      have zt3 : upd G5 t3 (.tup [V.str "table", V.int 3, V.ref ti]) t3 = _ := upd_same
      replace hR := hR.same (same_new (o := .tup [V.str "table", V.int 3, V.ref ti]) nt3)
      replace r1 := r1.same (same_new (o := .tup [V.str "table", V.int 3, V.ref ti]) nt3)
      replace r2 := r2.same (same_new (o := .tup [V.str "table", V.int 3, V.ref ti]) nt3)
      replace hla := same_new (o := .tup [V.str "table", V.int 3, V.ref ti]) nt3 _ _ hla
      replace zti := same_new (o := .tup [V.str "table", V.int 3, V.ref ti]) nt3 _ _ zti
      generalize upd G5 t3 (.tup [V.str "table", V.int 3, V.ref ti]) = G6 at s6 zt3 hR r1 r2 hla zti ⊢
      have r3 : RowF G6 t3 T3 := row_table (ts := [0]) zt3 zti
      refine ⟨(by show 2 ≤ sizeLine; decide), fun tj ntj => ?_⟩
      have s7 := s6.trans (same_new (o := .tup [V.int 0, V.int 0]) ntj)
      have ztj : upd G6 tj (.tup [V.int 0, V.int 0]) tj = _ := upd_same
      replace hR := hR.same (same_new (o := .tup [V.int 0, V.int 0]) ntj)
      replace r1 := r1.same (same_new (o := .tup [V.int 0, V.int 0]) ntj)
      replace r2 := r2.same (same_new (o := .tup [V.int 0, V.int 0]) ntj)
      replace r3 := r3.same (same_new (o := .tup [V.int 0, V.int 0]) ntj)
      replace hla := same_new (o := .tup [V.int 0, V.int 0]) ntj _ _ hla
      generalize upd G6 tj (.tup [V.int 0, V.int 0]) = G7 at s7 ztj hR r1 r2 r3 hla ⊢
      refine ⟨(by show 3 ≤ sizeLine; decide), fun t4 nt4 => ?_⟩
      have s8 := s7.trans (same_new (o := .tup [V.str "table", V.int 3, V.ref tj]) nt4)
      have zt4 : upd G7 t4 (.tup [V.str "table", V.int 3, V.ref tj]) t4 = _ := upd_same
      replace hR := hR.same (same_new (o := .tup [V.str "table", V.int 3, V.ref tj]) nt4)
      replace r1 := r1.same (same_new (o := .tup [V.str "table", V.int 3, V.ref tj]) nt4)
      replace r2 := r2.same (same_new (o := .tup [V.str "table", V.int 3, V.ref tj]) nt4)
      replace r3 := r3.same (same_new (o := .tup [V.str "table", V.int 3, V.ref tj]) nt4)
      replace hla := same_new (o := .tup [V.str "table", V.int 3, V.ref tj]) nt4 _ _ hla
      replace ztj := same_new (o := .tup [V.str "table", V.int 3, V.ref tj]) nt4 _ _ ztj
      generalize upd G7 t4 (.tup [V.str "table", V.int 3, V.ref tj]) = G8 at s8 zt4 hR r1 r2 r3 hla ztj ⊢
      have r4 : RowF G8 t4 T4 := row_table (ts := [0, 0]) zt4 ztj
      refine ⟨(by show 4 ≤ sizeLine; decide), fun l5 nl5 => ?_⟩
      have s9 := s8.trans (same_new (o := .lst [V.ref t1, V.ref t2, V.ref t3, V.ref t4]) nl5)
      have zl5 : upd G8 l5 (.lst [V.ref t1, V.ref t2, V.ref t3, V.ref t4]) l5 = _ := upd_same
      replace hR := hR.same (same_new (o := .lst [V.ref t1, V.ref t2, V.ref t3, V.ref t4]) nl5)
      replace r1 := r1.same (same_new (o := .lst [V.ref t1, V.ref t2, V.ref t3, V.ref t4]) nl5)
      replace r2 := r2.same (same_new (o := .lst [V.ref t1, V.ref t2, V.ref t3, V.ref t4]) nl5)
      replace r3 := r3.same (same_new (o := .lst [V.ref t1, V.ref t2, V.ref t3, V.ref t4]) nl5)
      replace r4 := r4.same (same_new (o := .lst [V.ref t1, V.ref t2, V.ref t3, V.ref t4]) nl5)
      replace hla := same_new (o := .lst [V.ref t1, V.ref t2, V.ref t3, V.ref t4]) nl5 _ _ hla
      generalize upd G8 l5 (.lst [V.ref t1, V.ref t2, V.ref t3, V.ref t4]) = G9 at s9 zl5 hR r1 r2 r3 r4 hla ⊢
      have hpick : ∃ (t : Addr) (d : FR), atI [V.ref t1, V.ref t2, V.ref t3, V.ref t4] ((if U1 < c then U1 else c) - 1) = some (.ref t) ∧ RowF G9 t d ∧ fillOk d ∧ szF d = (if U1 < c then U1 else c) := by
        rcases (show (if U1 < c then U1 else c) = 1 ∨ (if U1 < c then U1 else c) = 2 ∨ (if U1 < c then U1 else c) = 3 ∨ (if U1 < c then U1 else c) = 4 by omega) with z | z | z | z
        · rw [z]; exact ⟨t1, _, rfl, r1, .inl rfl, by decide +kernel⟩
        · rw [z]; exact ⟨t2, _, rfl, r2, .inr (.inl rfl), by decide +kernel⟩
        · rw [z]; exact ⟨t3, _, rfl, r3, .inr (.inr (.inl rfl)), by decide +kernel⟩
        · rw [z]; exact ⟨t4, _, rfl, r4, .inr (.inr (.inr rfl)), by decide +kernel⟩
      obtain ⟨t, d, hat, hrow, hfd, hsd⟩ := hpick
      refine ⟨_, rfl, _, _, rfl, rfl, l5, _, _, .ref t, rfl, rfl, SqL.of zl5, hat, la, _, _, rfl, rfl, hla, small_lt (by rw [List.length_map]; omega), ?_⟩
      refine ⟨_, rfl, _, rfl, _, _, rfl, rfl, ?_⟩
      have eQ : qs.map V.ref ++ [V.ref t] = (qs ++ [t]).map V.ref := by rw [List.map_append]; rfl
      rw [eQ]
      refine ⟨U1 - (if U1 < c then U1 else c), _, _, qs ++ [t], fs ++ [d], rfl, same_put s9 nla, upd_same, (hR.app (.one hrow)).put hla, fun y hy => ?_, ?_, by omega, by omega⟩
      · rcases List.mem_append.mp hy with z | z
        · exact hF y z
        · rw [List.mem_singleton.mp z]; exact hfd
      · rw [sz_app, sz_one, hsd]
        omega
    · have e : ¬ 0 < U1 := fun z => e (decide_eq_true z)
      exact ⟨_, rfl, k la fs _ s1 ⟨qs, hla, hR.1, hR.2⟩ hF (by omega)⟩
/-! ### _law_jump -/
def spJump : Sp := fun vs H Q _ => ∃ (u : Str) (t f : Int), vs = [.str u, .int t, .int f] ∧ u ∈ five ∧ ∀ (p : Addr) (H' : Hp), Same H H' → RowF H' p (jr u t f) → Q (.ref p) H'
theorem scJmp : FnScope ["_law_word", "_law_target", "_law_far"] ["_law_word", "_law_target", "_law_far"] (defScope sJump) := ⟨rfl, rfl, rfl, by decide +kernel, rfl, by decide +kernel, by decide +kernel⟩
theorem ok_jump {f : Addr} {fd : FuncData} (F : Fun K "_law_jump" "_law_jump" sJump f fd) (T : Txt K w.params mg) : FnOk P w K mg base CX0 1 f fd ["_law_word", "_law_target", "_law_far"] spJump := by
  refine F.ok scJmp (fun vs H Q E h => ?_) (fun cdv A outer s H vs Q E hr h => ?_)
  · obtain ⟨u, t, f, rfl, _⟩ := h
    rfl
  · obtain ⟨u, t, ff, rfl, hu, k⟩ := h
    refine wrapX (pssx_cons (psx_if (pt_cmpR op_in_seq (pv 0) (pe_tup (pa_cons pe_str (pa_cons pe_str pa_nil))) rfl) (pssx_one (psx_of (ps_ret (pe_tup (pa_cons (pv 0) (pa_cons pe_int (pa_cons (pv 1) (pa_cons (pv 2) pa_nil)))))))) (pssx_nil pss_nil))
      (pssx_one (psx_of (ps_ret (pe_tup (pa_cons (pv 0) (pa_cons (pv 1) (pa_cons (pv 2) pa_nil)))))))) ?_
    refine ⟨_, rfl, (by show 2 ≤ sizeLine; decide), fun t0 nt0 => ⟨t0, (["zero", "below"] : List Str).map V.str, rfl, .inr (SqT.of upd_same), rfl, rfl, _, rfl, ?_⟩⟩
    have s0 := same_new (o := .tup [V.str "zero", V.str "below"]) nt0
    rw [show inV (.str u) ((["zero", "below"] : List Str).map V.str) = decide (u ∈ zb) from inV_str _ _]
    generalize upd H t0 (.tup [V.str "zero", V.str "below"]) = G0 at s0 ⊢
    refine ite2 (fun e => ?_) (fun e => ?_)
    · have e := of_decide_eq_true e
      refine ⟨_, rfl, _, rfl, _, rfl, (by show 4 ≤ sizeLine; decide), fun p np => k p _ (s0.trans (same_new np)) (jr_row hu ?_)⟩
      rw [if_pos e]
      exact upd_same
    · have e : ¬ u ∈ zb := fun z => e (decide_eq_true z)
      refine ⟨_, rfl, _, rfl, _, rfl, (by show 3 ≤ sizeLine; decide), fun p np => k p _ (s0.trans (same_new np)) (jr_row hu ?_)⟩
      rw [if_neg e]
      exact upd_same
/-! ### _law_rows -/
def spRowsL : Sp := fun vs H Q _ => ∃ (lx : Addr) (ms : List Int) (U : Int) (b : Bool), vs = [.ref lx, .int U, .bl b] ∧ H lx = some (.lst (ms.map V.int)) ∧ ms.length = 8 ∧ 0 ≤ U ∧ U ≤ 100 ∧ ∀ (l : Addr) (u : Str) (fs : List FR) (H' : Hp), Same H H' → RowsF H' l (rowsD b u fs 0) → u ∈ five → (∀ d ∈ fs, fillOk d) → sz fs = U → Q (.ref l) H'
theorem scRwl : FnScope ["_law_xs", "_law_units", "_law_onward", "_law_word", "_law_rows_here"] ["_law_xs", "_law_units", "_law_onward"] (defScope sRowsL) := ⟨rfl, rfl, rfl, by decide +kernel, rfl, by decide +kernel, by decide +kernel⟩
theorem ok_rowsl {f fF fJ : Addr} {fd fdF fdJ : FuncData} (F : Fun K "_law_rows" "_law_rows" sRowsL f fd) (T : Txt K w.params mg) (GF : FnOk P w K mg base CX0 1 fF fdF ["_law_xs", "_law_units"] spFilled) (kF : PySem.W.keepIn K (.ref fF) = true) (bF : Binds K fdF ["_law_xs", "_law_units"] []) (mF : mg "_law_filled" = some (.ref fF)) (GJ : FnOk P w K mg base CX0 1 fJ fdJ ["_law_word", "_law_target", "_law_far"] spJump) (kJ : PySem.W.keepIn K (.ref fJ) = true) (bJ : Binds K fdJ ["_law_word", "_law_target", "_law_far"] []) (mJ : mg "_law_jump" = some (.ref fJ)) : FnOk P w K mg base CX0 2 f fd ["_law_xs", "_law_units", "_law_onward"] spRowsL := by
  refine F.ok scRwl (fun vs H Q E h => ?_) (fun cdv A outer s H vs Q E hr h => ?_)
  · obtain ⟨lx, ms, U, b, rfl, _⟩ := h
    rfl
  · obtain ⟨lx, ms, U, b, rfl, hx, hms, hU0, hU1, k⟩ := h
    obtain ⟨x0, _, hx0⟩ := at_intsS ms 0 (by decide) (by omega)
    have hx5 := modB x0 (show (0 : Int) < 5 by decide)
    obtain ⟨u, hu5, hat⟩ := at_wordsS ["jump", "zero", "below", "call", "mark"] (x0 % 5) hx5.1 hx5.2
    have hu : u ∈ five := (by decide +kernel : ∀ u ∈ (["jump", "zero", "below", "call", "mark"] : List Str), u ∈ five) u hu5
    refine wrapX (pssx_cons (psx_of (ps_set (i := 3) scRwl.nd rfl (Or.inl rfl) (pe_ix ix_list (pe_lstS (.cons pe_str (.cons pe_str (.cons pe_str (.cons pe_str (.cons pe_str .nil)))))) (pe_op op_mod (pe_ix ix_list (pv 0) pe_int (fun _ _ => rfl)) pe_int) (fun _ _ => rfl))))
      (pssx_cons (psx_of (ps_set (i := 4) scRwl.nd rfl (Or.inl rfl) (pe_call GF hr (by rfl) mF kF bF .nil pass0 (pa_cons (pv 0) (pa_cons (pv 1) pa_nil)))))
      (pssx_cons (psx_if (pt_val (pv 2)) (pssx_one (psx_of (ps_ret (pe_op op_cat (pe_op op_cat (pe_lst (pa_cons (pe_call GJ hr (by rfl) mJ kJ bJ .nil pass0 (pa_cons (pv 3) (pa_cons (pe_op op_add (pe_callB call_len_seq (by rfl) T.len bt_len (pa_cons (pv 4) pa_nil)) pe_int) (pa_cons pe_int pa_nil)))) pa_nil)) (pv 4)) (pe_lst (pa_cons (pe_tup (pa_cons pe_str (pa_cons pe_int pa_nil))) pa_nil)))))) (pssx_nil pss_nil))
      (pssx_one (psx_of (ps_ret (pe_op op_cat (pv 4) (pe_lst (pa_cons (pe_call GJ hr (by rfl) mJ kJ bJ .nil pass0 (pa_cons (pv 3) (pa_cons pe_int (pa_cons pe_int pa_nil)))) (pa_cons (pe_tup (pa_cons pe_str (pa_cons pe_int pa_nil))) pa_nil)))))))))) ?_
    refine ⟨(by show 5 ≤ sizeLine; decide), fun lw nlw => ?_⟩
    have s1 := same_new (o := .lst [V.str "jump", V.str "zero", V.str "below", V.str "call", V.str "mark"]) nlw
    have h1 : upd H lw (.lst [V.str "jump", V.str "zero", V.str "below", V.str "call", V.str "mark"]) lw = some (.lst ((["jump", "zero", "below", "call", "mark"] : List Str).map V.str)) := upd_same
    generalize upd H lw (.lst [V.str "jump", V.str "zero", V.str "below", V.str "call", V.str "mark"]) = G1 at s1 h1 ⊢
    refine ⟨_, rfl, lx, _, 0, .int x0, rfl, rfl, SqL.of (s1 _ _ hx), hx0, _, _, rfl, rfl, (by show (0 : Int) < 5; decide), lw, _, _, .str u, rfl, rfl, SqL.of h1, hat, ?_⟩
    refine ⟨_, rfl, _, rfl, lx, ms, U, rfl, s1 _ _ hx, hms, hU0, hU1, fun lf fs G2 t2 hRf hF hS => ?_⟩
    have s2 := s1.trans t2
    obtain ⟨qs, q1, q2, q3⟩ := hRf
    have hR : RowsA G2 qs fs := ⟨q2, q3⟩
    have hfl := fill_len hF
    have hk := fun l H' a b' => k l u fs H' a b' hu hF hS
    cases b with
    | true =>
      refine ⟨_, rfl, _, rfl, iteP rfl ?_⟩
      refine ⟨_, rfl, _, rfl, lf, _, rfl, .inl (SqL.of q1), _, _, rfl, rfl, u, _, 0, rfl, hu, fun p G3 t3 hp => ?_⟩
      rw [List.length_map, q2] at hp
      refine ⟨(by show 1 ≤ sizeLine; decide), fun l1 nl1 => ?_⟩
      have s3 := s2.trans (t3.trans (same_new (o := .lst [V.ref p]) nl1))
      replace hR := (hR.same t3).same (same_new (o := .lst [V.ref p]) nl1)
      replace hp := hp.same (same_new (o := .lst [V.ref p]) nl1)
      replace q1 := same_new (o := .lst [V.ref p]) nl1 _ _ (t3 _ _ q1)
      have hl1 : upd G3 l1 (.lst [V.ref p]) l1 = _ := upd_same
      generalize upd G3 l1 (.lst [V.ref p]) = G4 at s3 hR hp q1 hl1 ⊢
      refine ⟨_, rfl, l1, lf, _, _, rfl, rfl, hl1, q1, small_len (by show 1 + _ ≤ 1000000; rw [List.length_map]; omega), fun l2 nl2 => ?_⟩
      rw [show [V.ref p] ++ qs.map V.ref = ([p] ++ qs).map V.ref from rfl]
      have s4 := s3.trans (same_new (o := .lst (([p] ++ qs).map V.ref)) nl2)
      have zl2 : upd G4 l2 (.lst (([p] ++ qs).map V.ref)) l2 = _ := upd_same
      replace hR := hR.same (same_new (o := .lst (([p] ++ qs).map V.ref)) nl2)
      replace hp := hp.same (same_new (o := .lst (([p] ++ qs).map V.ref)) nl2)
      generalize upd G4 l2 (.lst (([p] ++ qs).map V.ref)) = G5 at s4 zl2 hR hp ⊢
      refine ⟨(by show 2 ≤ sizeLine; decide), fun th nth => ?_⟩
      have s5 := s4.trans (same_new (o := .tup [V.str "halt", V.int 3]) nth)
      have zth : upd G5 th (.tup [V.str "halt", V.int 3]) th = _ := upd_same
      replace hR := hR.same (same_new (o := .tup [V.str "halt", V.int 3]) nth)
      replace hp := hp.same (same_new (o := .tup [V.str "halt", V.int 3]) nth)
      replace zl2 := same_new (o := .tup [V.str "halt", V.int 3]) nth _ _ zl2
      generalize upd G5 th (.tup [V.str "halt", V.int 3]) = G6 at s5 zth hR hp zl2 ⊢
      have rh : RowF G6 th hlt := row_one (by decide) zth
      refine ⟨(by show 1 ≤ sizeLine; decide), fun l3 nl3 => ?_⟩
      have s6 := s5.trans (same_new (o := .lst [V.ref th]) nl3)
      have zl3 : upd G6 l3 (.lst [V.ref th]) l3 = _ := upd_same
      replace hR := hR.same (same_new (o := .lst [V.ref th]) nl3)
      replace hp := hp.same (same_new (o := .lst [V.ref th]) nl3)
      replace rh := rh.same (same_new (o := .lst [V.ref th]) nl3)
      replace zl2 := same_new (o := .lst [V.ref th]) nl3 _ _ zl2
      generalize upd G6 l3 (.lst [V.ref th]) = G7 at s6 zl3 hR hp rh zl2 ⊢
      refine ⟨l2, l3, _, _, rfl, rfl, zl2, zl3, small_len (by rw [List.length_map]; show ([p] ++ qs).length + 1 ≤ 1000000; rw [List.length_append]; show 1 + qs.length + 1 ≤ 1000000; omega), fun l4 nl4 => ?_⟩
      have eQ : ([p] ++ qs).map V.ref ++ [V.ref th] = ([p] ++ qs ++ [th]).map V.ref := by rw [List.map_append (l₁ := [p] ++ qs)]; rfl
      rw [eQ]
      have hA : RowsA G7 ([p] ++ qs ++ [th]) (rowsD true u fs 0) := ((RowsA.one hp).app hR).app (.one rh)
      replace hA := hA.same (same_new (o := .lst (([p] ++ qs ++ [th]).map V.ref)) nl4)
      exact hk l4 _ (s6.trans (same_new nl4)) ⟨_, upd_same, hA.1, hA.2⟩
    | false =>
      refine ⟨_, rfl, _, rfl, iteN (by decide) ?_⟩
      refine ⟨_, rfl, _, rfl, u, 0, 0, rfl, hu, fun p G3 t3 hp => ?_⟩
      replace hR := hR.same t3
      replace q1 := t3 _ _ q1
      have s3 := s2.trans t3
      refine ⟨(by show 2 ≤ sizeLine; decide), fun th nth => ?_⟩
      have s4 := s3.trans (same_new (o := .tup [V.str "halt", V.int 3]) nth)
      have zth : upd G3 th (.tup [V.str "halt", V.int 3]) th = _ := upd_same
      replace hR := hR.same (same_new (o := .tup [V.str "halt", V.int 3]) nth)
      replace hp := hp.same (same_new (o := .tup [V.str "halt", V.int 3]) nth)
      replace q1 := same_new (o := .tup [V.str "halt", V.int 3]) nth _ _ q1
      generalize upd G3 th (.tup [V.str "halt", V.int 3]) = G4 at s4 zth hR hp q1 ⊢
      have rh : RowF G4 th hlt := row_one (by decide) zth
      refine ⟨(by show 2 ≤ sizeLine; decide), fun l3 nl3 => ?_⟩
      have s5 := s4.trans (same_new (o := .lst [V.ref p, V.ref th]) nl3)
      have zl3 : upd G4 l3 (.lst [V.ref p, V.ref th]) l3 = _ := upd_same
      replace hR := hR.same (same_new (o := .lst [V.ref p, V.ref th]) nl3)
      replace hp := hp.same (same_new (o := .lst [V.ref p, V.ref th]) nl3)
      replace rh := rh.same (same_new (o := .lst [V.ref p, V.ref th]) nl3)
      replace q1 := same_new (o := .lst [V.ref p, V.ref th]) nl3 _ _ q1
      generalize upd G4 l3 (.lst [V.ref p, V.ref th]) = G5 at s5 zl3 hR hp rh q1 ⊢
      refine ⟨lf, l3, _, _, rfl, rfl, q1, zl3, small_len (by rw [List.length_map]; show qs.length + 2 ≤ 1000000; omega), fun l4 nl4 => ?_⟩
      have eQ : qs.map V.ref ++ [V.ref p, V.ref th] = (qs ++ [p, th]).map V.ref := by rw [List.map_append]; rfl
      rw [eQ]
      have hA : RowsA G5 (qs ++ [p, th]) (rowsD false u fs 0) := hR.app ((RowsA.one hp).app (.one rh))
      replace hA := hA.same (same_new (o := .lst ((qs ++ [p, th]).map V.ref)) nl4)
      exact hk l4 _ (s5.trans (same_new nl4)) ⟨_, upd_same, hA.1, hA.2⟩
/-! ### _law_refused -/
def ovN : Option Nat → V
  | none => .non
  | some r => .int (r : Int)
def spRefused : Sp := fun vs H Q _ => ∃ (lr : Addr) (ds : List FR), vs = [.ref lr] ∧ RowsF H lr ds ∧ AllG ds ∧ ds.length ≤ 100000 ∧ ∀ H', Same H H' → Q (ovN (firstL ds)) H'
theorem scRef : FnScope ["_law_rows_here", "_law_found", "e"] ["_law_rows_here"] (defScope sRefused) := ⟨rfl, rfl, rfl, by decide +kernel, rfl, by decide +kernel, by decide +kernel⟩
section
variable {cNL R fI : Addr}
theorem ok_refused {f fF : Addr} {fd fdF : FuncData} (F : Fun K "_law_refused" "_law_refused" sRefused f fd) (T : Txt K w.params mg) (cx : XIni K cNL R fI) (mNL : mg "NoLayout" = some (.ref cNL)) (exm : PySem.W.exmOne K (.ref cNL) (.ref cNL) = some true)
    (GF : FnOk P w K mg base (CX2 P w) 5 fF fdF ["rows"] (spCheckL cNL)) (kF : PySem.W.keepIn K (.ref fF) = true) (bF : Binds K fdF ["rows"] []) (mF : mg "check_layout" = some (.ref fF)) : FnOk P w K mg base CX0 6 f fd ["_law_rows_here"] spRefused := by
  refine F.ok scRef (fun vs H Q E h => ?_) (fun cdv A outer s H vs Q E hr h => ?_)
  · obtain ⟨lr, ds, rfl, _⟩ := h
    rfl
  · obtain ⟨lr, ds, rfl, hR, hG, hn, k⟩ := h
    refine ⟨_, (pss_cons (ps_set (i := 1) scRef.nd rfl (Or.inl rfl) pe_non)
      (pss_cons (ps_tryF (i := 2) (n := "e") (pa_cons (pv 0) pa_nil) (by rfl) mF kF GF hr bF .nil rfl rfl rfl rfl (by rfl) mNL scRef.nd rfl rfl (fun ea => (pss_one (ps_set (i := 1) scRef.nd rfl (Or.inl rfl) (pe_xat cx (pv 2))))))
      (pss_one (ps_ret (pv 1))))), ?_⟩
    refine ⟨_, rfl, lr, ds, rfl, hR, hG.tg, hn, (fun e H1 s1 => ?_), fun r e H7 d s7 hd => ?_⟩
    · refine ⟨_, rfl, ?_⟩
      have := k H1 s1
      rw [e] at this
      exact this
    · refine ⟨exm, fun ea hea => ?_⟩
      have s8 := same_new (o := excD ea (.ref cNL) (some d)) hea
      have e8 : upd H7 ea (excD ea (.ref cNL) (some d)) ea = _ := upd_same
      have d8 := s8 _ _ hd
      generalize upd H7 ea (excD ea (.ref cNL) (some d)) = H8 at s8 e8 d8 ⊢
      refine ⟨_, rfl, ea, d, r, rfl, e8, d8, _, rfl, ?_⟩
      have := k H8 (s7.trans s8)
      rw [e] at this
      exact this
end
end
end My


set_option Elab.async false
set_option linter.all false
set_option maxRecDepth 100000
set_option maxHeartbeats 4000000
namespace My
open PySem L2
def atD (b : Bool) (fs : List FR) : Nat := if b = true then 0 else fs.length
def tD (b : Bool) (fs : List FR) : Int := if b = true then (fs.length : Int) + 1 else 0
theorem rowsD_len (b : Bool) (u : Str) (fs : List FR) (f : Int) : (rowsD b u fs f).length = fs.length + 2 := by
  unfold rowsD
  cases b <;> simp
theorem rowsD_mem {b : Bool} {u : Str} {fs : List FR} {f : Int} {d : FR} (h : d ∈ rowsD b u fs f) : d ∈ fs ∨ d = hlt ∨ d = jr u (tD b fs) f := by
  unfold rowsD tD at *
  cases b <;> simp at h ⊢ <;> rcases h with h | h | h <;> simp [h]
theorem rowsD_one {b : Bool} {u : Str} {fs : List FR} {f : Int} (hu : u ∈ five) (hf : ∀ d ∈ fs, fillOk d) : One (rowsD b u fs f) (atD b fs) u (tD b fs) f := by
  have nf : ∀ d ∈ fs ++ [hlt], ¬ d.u ∈ five := fun d hd => by
    rcases List.mem_append.mp hd with z | z
    · exact (fill_facts (hf d z)).1
    · rw [List.mem_singleton.mp z]; exact hlt_facts.1
  unfold rowsD atD tD
  cases b with
  | true =>
    refine ⟨rfl, hu, fun r d hd hn => ?_⟩
    cases r with
    | zero => exact absurd rfl hn
    | succ r =>
      have hd : ([jr u ((fs.length : Int) + 1) f] ++ fs ++ [hlt])[r + 1]? = some d := hd
      rw [List.append_assoc, List.singleton_append, List.getElem?_cons_succ] at hd
      exact nf d (List.mem_of_getElem? hd)
  | false =>
    refine ⟨?_, hu, fun r d hd hn => ?_⟩
    · show (fs ++ [jr u 0 f, hlt])[fs.length]? = some (jr u 0 f)
      rw [List.getElem?_append_right (Nat.le_refl _), Nat.sub_self]
      rfl
    · have hd : (fs ++ [jr u 0 f, hlt])[r]? = some d := hd
      have hn : r ≠ fs.length := hn
      by_cases hr : r < fs.length
      · rw [List.getElem?_append_left hr] at hd
        exact nf d (List.mem_append_left _ (List.mem_of_getElem? hd))
      · rw [List.getElem?_append_right (by omega)] at hd
        obtain ⟨k, hk⟩ : ∃ k, r - fs.length = k + 1 := ⟨r - fs.length - 1, by omega⟩
        rw [hk, List.getElem?_cons_succ] at hd
        rw [List.mem_singleton.mp (List.mem_of_getElem? hd)]
        exact hlt_facts.1
theorem rowsD_good {b : Bool} {u : Str} {fs : List FR} {f : Int} (hf : ∀ d ∈ fs, fillOk d) (h01 : f = 0 ∨ f = 1) : AllG (rowsD b u fs f) := fun d hd => by
  rw [rowsD_len]
  rcases rowsD_mem hd with z | z | z
  · obtain ⟨a1, _, a3, a4, _⟩ := fill_facts (hf d z)
    exact ⟨a3, fun t ht => by rw [a4 t ht]; omega, fun y => absurd y a1⟩
  · rw [z]
    obtain ⟨a1, a2, _⟩ := hlt_facts
    exact ⟨by rw [a2]; exact Nat.zero_le _, fun t ht => by rw [a2] at ht; exact (List.not_mem_nil ht).elim, fun y => absurd y a1⟩
  · rw [z]
    refine jr_good ?_ ?_ h01 <;> (unfold tD; cases b <;> simp <;> omega)
theorem rowsD_dst {b : Bool} {u : Str} {fs : List FR} {f : Int} (hu : u ∈ five) : dstT (rowsD b u fs f) (atD b fs) (tD b fs) = if b = true then sz fs else - sz fs - 1 - f := by
  unfold dstT
  rw [beg_sz, beg_sz]
  unfold rowsD atD tD
  cases b with
  | true =>
    simp only [if_true]
    have h1 : ((fs.length : Int) + 1).toNat = fs.length + 1 := by omega
    rw [h1, List.append_assoc, List.singleton_append, List.take_succ_cons, List.take_succ_cons, List.take_zero, List.take_left]
    unfold sz
    rw [List.map_cons, List.sum_cons]
    simp
    omega
  | false =>
    simp only [Bool.false_eq_true, if_false]
    have e2 : (fs ++ [jr u 0 f, hlt]).take (fs.length + 1) = fs ++ [jr u 0 f] := by
      rw [show fs ++ [jr u 0 f, hlt] = (fs ++ [jr u 0 f]) ++ [hlt] by simp]
      exact List.take_left' (by simp)
    rw [e2, sz_app, sz_one, jr_sz hu]
    show sz ([] : List FR) - _ = _
    unfold sz
    simp
    omega
theorem rowsD_set {b : Bool} {u : Str} {fs : List FR} {f : Int} : (rowsD b u fs f).set (atD b fs) (jr u (tD b fs) 1) = rowsD b u fs 1 := by
  unfold rowsD atD tD
  cases b with
  | true => rfl
  | false =>
    simp only [Bool.false_eq_true, if_false]
    rw [List.set_append_right _ _ (Nat.le_refl _), Nat.sub_self]
    rfl
theorem rowsD_pre {b : Bool} {u : Str} {fs : List FR} {f : Int} (hf : ∀ d ∈ fs, fillOk d) : (∀ d ∈ (rowsD b u fs f).take (atD b fs), fillOk d) ∧ beg (rowsD b u fs f) (atD b fs) = if b = true then 0 else sz fs := by
  rw [beg_sz]
  unfold rowsD atD
  cases b with
  | true => exact ⟨fun d hd => by simp at hd, rfl⟩
  | false =>
    simp only [Bool.false_eq_true, if_false]
    rw [List.take_left]
    exact ⟨hf, rfl⟩
def dsD (b : Bool) (U : Int) : Int := if b = true then U else 0 - U - 1
/-! ### two jumps, one within the other -/
def nesD (mu t fz f1 : Int) (m : Nat) : List FR := [⟨"zero", [1, mu + 2, fz], [mu + 2]⟩, ⟨"jump", [t, f1], [t]⟩] ++ List.replicate m ⟨"tell", [2], []⟩ ++ [⟨"halt", [1], []⟩]
def Tl : FR := ⟨"tell", [2], []⟩
def Hl : FR := ⟨"halt", [1], []⟩
def z0 (mu fz : Int) : FR := ⟨"zero", [1, mu + 2, fz], [mu + 2]⟩
def j1 (t f1 : Int) : FR := ⟨"jump", [t, f1], [t]⟩
theorem nes_len (mu t fz f1 : Int) (m : Nat) : (nesD mu t fz f1 m).length = m + 3 := by unfold nesD; simp
theorem nes_0 (mu t fz f1 : Int) (m : Nat) : (nesD mu t fz f1 m)[0]? = some (z0 mu fz) := rfl
theorem nes_1 (mu t fz f1 : Int) (m : Nat) : (nesD mu t fz f1 m)[1]? = some (j1 t f1) := rfl
theorem nes_2 {mu t fz f1 : Int} {m r : Nat} {d : FR} (h : (nesD mu t fz f1 m)[r + 2]? = some d) : d = Tl ∨ d = Hl := by
  have h : ([z0 mu fz, j1 t f1] ++ List.replicate m Tl ++ [Hl])[r + 2]? = some d := h
  rw [List.append_assoc] at h
  have h : (List.replicate m Tl ++ [Hl])[r]? = some d := h
  rcases List.mem_append.mp (List.mem_of_getElem? h) with z | z
  · exact .inl (List.eq_of_mem_replicate z)
  · exact .inr (List.mem_singleton.mp z)
theorem nes_nf {mu t fz f1 : Int} {m r : Nat} {d : FR} (h : (nesD mu t fz f1 m)[r + 2]? = some d) : ¬ d.u ∈ five := by
  rcases nes_2 h with rfl | rfl
  · decide +kernel
  · decide +kernel
theorem nes_beg {t fz f1 : Int} {m : Nat} (j : Nat) (hj : j ≤ m) : beg (nesD m t fz f1 m) (j + 2) = (1 + fz) + (1 + f1) + j := by
  have e : (nesD m t fz f1 m).take (j + 2) = [z0 m fz, j1 t f1] ++ List.replicate j Tl := by
    show ([z0 m fz, j1 t f1] ++ List.replicate m Tl ++ [Hl]).take (j + 2) = _
    rw [List.append_assoc]
    show z0 m fz :: j1 t f1 :: ((List.replicate m Tl ++ [Hl]).take j) = _
    rw [List.take_append_of_le_length (by rw [List.length_replicate]; exact hj), List.take_replicate, Nat.min_eq_left hj]
    rfl
  have hT : ∀ k, sz (List.replicate k Tl) = (k : Int) := fun k => by
    induction k with
    | zero => rfl
    | succ k ih =>
      rw [List.replicate_succ, show Tl :: List.replicate k Tl = [Tl] ++ List.replicate k Tl from rfl, sz_app, sz_one, ih, show szF Tl = 1 by decide +kernel]
      push_cast
      omega
  rw [beg_sz, e, sz_app, hT]
  have h1 : szF (z0 m fz) = 1 + fz := rfl
  have h2 : szF (j1 t f1) = 1 + f1 := rfl
  show ([szF (z0 m fz), szF (j1 t f1)].sum : Int) + j = _
  rw [h1, h2]
  simp
theorem nes_b1 (mu t fz f1 : Int) (m : Nat) : beg (nesD mu t fz f1 m) 1 = 1 + fz := by
  rw [beg_sz]
  show ([szF (z0 mu fz)].sum : Int) = _
  have h1 : szF (z0 mu fz) = 1 + fz := rfl
  rw [h1]
  simp
theorem nes_d0 {t fz f1 : Int} {m : Nat} : dstT (nesD m t fz f1 m) 0 ((m : Int) + 2) = 1 + f1 + m := by
  unfold dstT
  rw [show ((m : Int) + 2).toNat = m + 2 by omega, nes_beg m (Nat.le_refl _), nes_b1]
  omega
theorem nes_d1 {t : Nat} {fz f1 : Int} {m : Nat} (h2 : 2 ≤ t) (ht : t ≤ m + 2) : dstT (nesD m t fz f1 m) 1 (t : Int) = (t : Int) - 2 := by
  unfold dstT
  obtain ⟨k, rfl⟩ : ∃ k, t = k + 2 := ⟨t - 2, by omega⟩
  rw [Int.toNat_natCast, nes_beg k (by omega), show 1 + 1 = 0 + 2 from rfl, nes_beg 0 (by omega)]
  push_cast
  omega
theorem nes_lenz (mu t f1 : Int) (m : Nat) (L : List Nat) : lenz (nesD mu t 0 f1 m) L = nesD mu t (if 0 ∈ L then 1 else 0) (if 1 ∈ L then 1 else f1) m := by
  refine List.ext_getElem? fun r => ?_
  match r with
  | 0 =>
    rw [lenz_at (nes_0 ..), nes_0]
    by_cases h : 0 ∈ L
    · rw [if_pos h, if_pos h]; rfl
    · rw [if_neg h, if_neg h]
  | 1 =>
    rw [lenz_at (nes_1 ..), nes_1]
    by_cases h : 1 ∈ L
    · rw [if_pos h, if_pos h]; rfl
    · rw [if_neg h, if_neg h]
  | r + 2 =>
    have e : ∀ fz fz' f1 f1', (nesD mu t fz f1 m)[r + 2]? = (nesD mu t fz' f1' m)[r + 2]? := fun _ _ _ _ => rfl
    cases h : (nesD mu t 0 f1 m)[r + 2]? with
    | none =>
      have := List.getElem?_eq_none_iff.mp h
      rw [List.getElem?_eq_none (by rw [lenz_len]; exact this)]
      rw [e _ 0 _ f1] 
      exact h.symm
    | some d =>
      rw [lenz_at h]
      have hs : setF d = d := by unfold setF; rw [if_neg (nes_nf h)]
      rw [hs, ite_self, e _ 0 _ f1]
      exact h.symm
theorem nes_good {t m : Nat} {fz f1 : Int} (ht : t < m + 3) (h0 : fz = 0 ∨ fz = 1) (h1 : f1 = 0 ∨ f1 = 1) : AllG (nesD m t fz f1 m) := fun d hd => by
  rw [nes_len]
  obtain ⟨r, hr⟩ := List.getElem?_of_mem hd
  match r with
  | 0 =>
    rw [nes_0] at hr
    cases hr
    exact ⟨(by show 1 ≤ 16; decide), fun x hx => by rw [List.mem_singleton.mp hx]; omega, fun _ => h0⟩
  | 1 =>
    rw [nes_1] at hr
    cases hr
    exact ⟨(by show 1 ≤ 16; decide), fun x hx => by rw [List.mem_singleton.mp hx]; omega, fun _ => h1⟩
  | r + 2 =>
    have hn := nes_nf hr
    rcases nes_2 hr with rfl | rfl
    · exact ⟨Nat.zero_le _, fun x hx => (List.not_mem_nil hx).elim, fun z => absurd z hn⟩
    · exact ⟨Nat.zero_le _, fun x hx => (List.not_mem_nil hx).elim, fun z => absurd z hn⟩
/-- what the growing of the two comes to -/
theorem nes_least {t m : Nat} {f1 inn out : Int} (h2 : 2 ≤ t) (ht : t ≤ m + 2) (hf : f1 = 0 ∨ f1 = 1) (hi : inn = if (63 : Int) < (t : Int) - 2 ∨ f1 = 1 then 1 else 0) (ho : out = if (63 : Int) < (m : Int) + 1 + inn then 1 else 0) {L : List Nat} (hL : ∀ x, x ∈ L ↔ Far (nesD m t 0 f1 m) x) : lenz (nesD m t 0 f1 m) L = nesD m t out inn m := by
  have hG := nes_good (fz := 0) (f1 := f1) (by omega : t < m + 3) (.inl rfl) hf
  have sh0 : shortF (z0 m 0) = true := rfl
  have sh1 : f1 = 0 → shortF (j1 t f1) = true := fun z => by rw [z]; rfl
  have far1 : f1 = 0 → (63 : Int) < (t : Int) - 2 → Far (nesD m t 0 f1 m) 1 := fun z1 z2 => by
    refine .mk [] (fun x hx => (List.not_mem_nil hx).elim) (nes_1 ..) (sh1 z1) ?_
    show borneF (dstT (lenz (nesD m t 0 f1 m) []) 1 (t : Int)) = false
    rw [lenz_nil, nes_d1 h2 ht]
    exact not_borne.mpr (.inr z2)
  have far0 : (63 : Int) < (m : Int) + 1 + inn → Far (nesD m t 0 f1 m) 0 := fun z => by
    by_cases a : f1 = 0 ∧ (63 : Int) < (t : Int) - 2
    · refine .mk [1] (fun x hx => by rw [List.mem_singleton.mp hx]; exact far1 a.1 a.2) (nes_0 ..) sh0 ?_
      show borneF (dstT (lenz (nesD m t 0 f1 m) [1]) 0 ((m : Int) + 2)) = false
      rw [nes_lenz, nes_d0]
      refine not_borne.mpr (.inr ?_)
      rw [if_pos (.inl a.2)] at hi
      rw [if_pos (by simp)]
      omega
    · refine .mk [] (fun x hx => (List.not_mem_nil hx).elim) (nes_0 ..) sh0 ?_
      show borneF (dstT (lenz (nesD m t 0 f1 m) []) 0 ((m : Int) + 2)) = false
      rw [lenz_nil, nes_d0]
      refine not_borne.mpr (.inr ?_)
      by_cases b : f1 = 1
      · rw [if_pos (.inr b)] at hi
        omega
      · rw [if_neg (by omega)] at hi
        omega
  let L0 : List Nat := (if (63 : Int) < (m : Int) + 1 + inn then [0] else []) ++ (if f1 = 0 ∧ (63 : Int) < (t : Int) - 2 then [1] else [])
  have m0 : 0 ∈ L0 ↔ (63 : Int) < (m : Int) + 1 + inn := by
    show 0 ∈ (if _ then [0] else []) ++ (if _ then [1] else []) ↔ _
    split <;> split <;> simp_all
  have m1 : 1 ∈ L0 ↔ f1 = 0 ∧ (63 : Int) < (t : Int) - 2 := by
    show 1 ∈ (if _ then [0] else []) ++ (if _ then [1] else []) ↔ _
    split <;> split <;> simp_all
  have mx : ∀ x ∈ L0, x = 0 ∨ x = 1 := fun x hx => by
    have hx : x ∈ (if (63 : Int) < (m : Int) + 1 + inn then [0] else []) ++ (if f1 = 0 ∧ (63 : Int) < (t : Int) - 2 then [1] else []) := hx
    rcases List.mem_append.mp hx with z | z
    · split at z
      · exact .inl (List.mem_singleton.mp z)
      · exact (List.not_mem_nil z).elim
    · split at z
      · exact .inr (List.mem_singleton.mp z)
      · exact (List.not_mem_nil z).elim
  have eL : lenz (nesD m t 0 f1 m) L0 = nesD m t out inn m := by
    rw [nes_lenz]
    have e0 : (if 0 ∈ L0 then (1 : Int) else 0) = out := by
      rw [ho]
      by_cases z : (63 : Int) < (m : Int) + 1 + inn
      · rw [if_pos z, if_pos (m0.mpr z)]
      · rw [if_neg z, if_neg (fun y => z (m0.mp y))]
    have e1 : (if 1 ∈ L0 then (1 : Int) else f1) = inn := by
      rw [hi]
      by_cases z : f1 = 0 ∧ (63 : Int) < (t : Int) - 2
      · rw [if_pos (m1.mpr z), if_pos (.inl z.2)]
      · rw [if_neg (fun y => z (m1.mp y))]
        by_cases y : f1 = 1
        · rw [if_pos (.inr y), y]
        · have : f1 = 0 := hf.resolve_right y
          rw [if_neg (by omega), this]
    rw [e0, e1]
  have hfar : ∀ x ∈ L0, Far (nesD m t 0 f1 m) x := fun x hx => by
    rcases mx x hx with rfl | rfl
    · exact far0 (m0.mp hx)
    · exact far1 (m1.mp hx).1 (m1.mp hx).2
  have hgood := far_is hG hfar fun r d hd hs hn => by
    rw [eL]
    match r, hd, hn with
    | 0, hd, hn =>
      rw [nes_0] at hd
      cases hd
      show borneF (dstT (nesD m t out inn m) 0 ((m : Int) + 2)) = true
      rw [nes_d0]
      have : ¬ (63 : Int) < (m : Int) + 1 + inn := fun z => hn (m0.mpr z)
      have : 0 ≤ inn := by rw [hi]; split <;> omega
      unfold borneF
      exact decide_eq_true (by omega)
    | 1, hd, hn =>
      rw [nes_1] at hd
      cases hd
      show borneF (dstT (nesD m t out inn m) 1 (t : Int)) = true
      rw [nes_d1 h2 ht]
      have hf0 : f1 = 0 := (short_five hs).2
      have : ¬ (63 : Int) < (t : Int) - 2 := fun z => hn (m1.mpr ⟨hf0, z⟩)
      unfold borneF
      exact decide_eq_true (by omega)
    | r + 2, hd, _ => exact absurd (short_five hs).1 (nes_nf hd)
  rw [← eL]
  exact lenz_congr fun x => (hL x).trans ⟨hgood x, hfar x⟩
end My


set_option Elab.async false
set_option linter.all false
set_option maxRecDepth 100000
set_option maxHeartbeats 4000000
namespace My
open PySem L2
theorem ints_da (K : PySem.W.Frag) (H : Hp) (ms : List Int) : ∀ (i : Nat) x d, (ms.map V.int)[i]? = some x → (ms.map Da.int)[i]? = some d → DaAt K H x d := fun i x d h1 h2 => by
  rw [List.getElem?_map] at h1 h2
  obtain ⟨j, hj, rfl⟩ := Option.map_eq_some_iff.mp h1
  rw [hj] at h2
  cases h2
  exact .int _
/-! ### rows and claims as data of == -/
def frDa (d : FR) : Da := if d.u = "table" then .tup [.str d.u, .int (d.is.headD 0), .tup (d.ts.map Da.int)] else .tup (.str d.u :: d.is.map Da.int)
theorem row_daF (K : PySem.W.Frag) {H : Hp} {q : Addr} {d : FR} (h : RowF H q d) : DaAt K H (.ref q) (frDa d) := by
  unfold frDa
  rcases h.2 with ⟨a, b, p, e, h1, h2⟩ | ⟨a, h1⟩
  · rw [if_pos a, e]
    refine .tup (SqT.of h1) rfl fun i x d' g1 g2 => ?_
    match i, g1, g2 with
    | 0, g1, g2 => cases g1; cases g2; exact .str _
    | 1, g1, g2 => cases g1; cases g2; exact .int _
    | 2, g1, g2 => cases g1; cases g2; exact .tup (SqT.of h2) (by simp) (ints_da K H _)
  · rw [if_neg a]
    refine .tup (SqT.of h1) (by simp) fun i x d' g1 g2 => ?_
    cases i with
    | zero => simp at g1 g2; subst g1; subst g2; exact .str _
    | succ i => exact ints_da K H d.is i x d' (by simpa using g1) (by simpa using g2)
theorem ints_nbT (ms : List Int) : (Da.tup (ms.map Da.int)).Nb 1 := .tup fun d hd => by
  obtain ⟨j, _, rfl⟩ := List.mem_map.mp hd
  exact .int
theorem fr_nb (d : FR) : (frDa d).Nb 2 := by
  unfold frDa
  split
  · refine .tup fun x hx => ?_
    rcases List.mem_cons.mp hx with rfl | hx
    · exact .str
    rcases List.mem_cons.mp hx with rfl | hx
    · exact .int
    rw [List.mem_singleton.mp hx]
    exact ints_nbT _
  · refine .tup fun x hx => ?_
    rcases List.mem_cons.mp hx with rfl | hx
    · exact .str
    obtain ⟨j, _, rfl⟩ := List.mem_map.mp hx
    exact .int
theorem rows_daF (K : PySem.W.Frag) {H : Hp} {l : Addr} {qs : List Addr} {ds : List FR} (hl : H l = some (.lst (qs.map V.ref))) (hn : qs.length = ds.length) (h : ∀ (i : Nat) q d, qs[i]? = some q → ds[i]? = some d → RowF H q d) : DaAt K H (.ref l) (.lst (ds.map frDa)) := by
  refine .lst (SqL.of hl) (by simp [hn]) fun i x e g1 g2 => ?_
  rw [List.getElem?_map] at g1 g2
  obtain ⟨q, hq, rfl⟩ := Option.map_eq_some_iff.mp g1
  obtain ⟨d, hd, rfl⟩ := Option.map_eq_some_iff.mp g2
  exact row_daF K (h i q d hq hd)
theorem rows_nb (ds : List FR) : (Da.lst (ds.map frDa)).Nb 3 := .lst fun x hx => by
  obtain ⟨d, _, rfl⟩ := List.mem_map.mp hx
  exact fr_nb d
theorem RowsF.da (K : PySem.W.Frag) {H : Hp} {l : Addr} {ds : List FR} (h : RowsF H l ds) : DaAt K H (.ref l) (.lst (ds.map frDa)) := by
  obtain ⟨qs, a, b, c⟩ := h
  exact rows_daF K a b c
theorem pass2 {X : Cx} : Passes (CX2 X.prog X.w) X E0 := fun _ _ _ _ _ _ _ ⟨_, _, _, _, _, _, _, _, _, _, _, _, _, _, _, h⟩ => h.elim
theorem cut_drop (xs : List V) (n : Nat) : cutV xs (some ((n : Int) + 1)) none = xs.drop (n + 1) := by
  unfold cutV
  have h1 : HT.sIx xs.length 0 (some ((n : Int) + 1)) = min (n + 1) xs.length := by
    have : HT.sIx xs.length 0 (some ((n + 1 : Nat) : Int)) = min (n + 1) xs.length := HT.sIx_nat ..
    rw [← this]
    rfl
  have h2 : HT.sIx xs.length xs.length none = xs.length := rfl
  rw [h1, h2]
  by_cases h : n + 1 ≤ xs.length
  · rw [Nat.min_eq_left h]
    exact List.take_of_length_le (by rw [List.length_drop]; omega)
  · rw [Nat.min_eq_right (by omega), List.drop_of_length_le (Nat.le_refl _), List.drop_of_length_le (by omega), List.take_nil]
theorem sneg1 (n : Nat) : HT.sIx (n + 1) (n + 1) (some (-1)) = n := by
  unfold HT.sIx
  simp
  omega
theorem cut_last (xs : List V) (x : V) : cutV (xs ++ [x]) none (some (-1)) = xs := by
  unfold cutV
  have h0 : HT.sIx (xs ++ [x]).length 0 none = 0 := rfl
  have h1 : HT.sIx (xs ++ [x]).length (xs ++ [x]).length (some (-1)) = xs.length := by rw [List.length_append]; exact sneg1 _
  rw [h0, h1, Nat.sub_zero, List.drop_zero]
  exact List.take_left
theorem ncutL (a : List V) (h : HT.sIx (a ++ [V.int 0]).length (a ++ [V.int 0]).length (some (-1)) = (a ++ [V.int 0]).length) : False := by
  rw [List.length_append] at h
  have := sneg1 a.length
  have h : HT.sIx (a.length + 1) (a.length + 1) (some (-1)) = a.length + 1 := h
  omega
theorem set_cut {α : Type} {xs : List α} {j : Nat} {y : α} (h : j < xs.length) : xs.set j y = xs.take j ++ [y] ++ xs.drop (j + 1) := by
  rw [List.set_eq_take_append_cons_drop, if_pos h, List.append_assoc]
  rfl
theorem map_ref_inj : ∀ {a b : List Addr}, a.map V.ref = b.map V.ref → a = b
  | [], [], _ => rfl
  | x :: a, y :: b, h => by
    rw [List.map_cons, List.map_cons] at h
    injection h with h1 h2
    injection h1 with h1
    rw [h1, map_ref_inj h2]
section
variable {P : Program} {w : World} {K : PySem.W.Frag} {mg : Str → Option Value} {base : Heap}
def spRightL : Sp := fun vs H Q _ => ∃ (lx : Addr) (ms : List Int) (U : Int) (b : Bool), vs = [.ref lx, .int U, .bl b] ∧ H lx = some (.lst (ms.map V.int)) ∧ ms.length = 8 ∧ 0 ≤ U ∧ U ≤ 100 ∧ ∀ H', Same H H' → Q (.bl true) H'
theorem scRgt : FnScope ["_law_xs", "_law_units", "_law_onward", "_law_rows_here", "_law_at", "_law_distance", "_law_holds", "_law_long", "_law_first"] ["_law_xs", "_law_units", "_law_onward"] (defScope sRightL) := ⟨rfl, rfl, rfl, by decide +kernel, rfl, by decide +kernel, by decide +kernel⟩
theorem ok_right {f fR fE fL fU cNL : Addr} {fd fdR fdE fdL fdU : FuncData} (F : Fun K "_law_right" "_law_right" sRightL f fd) (T : Txt K w.params mg) (GR : FnOk P w K mg base CX0 2 fR fdR ["_law_xs", "_law_units", "_law_onward"] spRowsL) (kR : PySem.W.keepIn K (.ref fR) = true) (bR : Binds K fdR ["_law_xs", "_law_units", "_law_onward"] []) (mR : mg "_law_rows" = some (.ref fR)) (GE : FnOk P w K mg base CX0 6 fE fdE ["_law_rows_here"] spRefused) (kE : PySem.W.keepIn K (.ref fE) = true) (bE : Binds K fdE ["_law_rows_here"] []) (mE : mg "_law_refused" = some (.ref fE)) (GL : FnOk P w K mg base CX0 6 fL fdL ["rows"] spLeast) (kL : PySem.W.keepIn K (.ref fL) = true) (bL : Binds K fdL ["rows"] []) (mL : mg "least_layout" = some (.ref fL)) (GU : FnOk P w K mg base (CX2 P w) 6 fU fdU ["rows"] (spUnits cNL)) (kU : PySem.W.keepIn K (.ref fU) = true) (bU : Binds K fdU ["rows"] []) (mU : mg "units_of" = some (.ref fU)) : FnOk P w K mg base CX0 7 f fd ["_law_xs", "_law_units", "_law_onward"] spRightL := by
  refine F.ok scRgt (fun vs H Q E h => ?_) (fun cdv A outer s H vs Q E hr h => ?_)
  · obtain ⟨lx, ms, U, b, rfl, _⟩ := h
    rfl
  · obtain ⟨lx, ms, U, b, rfl, hx, hms, hU0, hU1, k⟩ := h
    have hrR : Room 2 (A.deeper (PyProof.Rows.envOfC "_law_right" (defScope sRightL) s.heap.objs.size f cdv)) := hr.mono (by decide)
    have hrE : Room 6 (A.deeper (PyProof.Rows.envOfC "_law_right" (defScope sRightL) s.heap.objs.size f cdv)) := hr
    have hu0 : (A.deeper (PyProof.Rows.envOfC "_law_right" (defScope sRightL) s.heap.objs.size f cdv)).units + 6 < cLine := Nat.lt_of_le_of_lt (Nat.add_le_add_left (by decide : 6 ≤ 64) _) hr.units
    refine wrapX (pssx_cons (psx_of (ps_set (i := 3) scRgt.nd rfl (Or.inl rfl) (pe_call GR hrR (by rfl) mR kR bR .nil pass0 (pa_cons (pv 0) (pa_cons (pv 1) (pa_cons (pv 2) pa_nil))))))
      (pssx_cons (psx_of (ps_set (i := 4) scRgt.nd rfl (Or.inl rfl) (pe_ix ix_list (pe_lst (pa_cons (pe_op op_sub (pe_callB call_len_seq (by rfl) T.len bt_len (pa_cons (pv 3) pa_nil)) pe_int) (pa_cons pe_int pa_nil))) (pe_callTy call_int1 (by rfl) T.int bt_int (pa_cons (pv 2) pa_nil)) (fun _ _ => rfl))))
      (pssx_cons (psx_of (ps_set (i := 5) scRgt.nd rfl (Or.inl rfl) (pe_ix ix_list (pe_lst (pa_cons (pe_op op_sub (pe_op op_sub pe_int (pv 1)) pe_int) (pa_cons (pv 1) pa_nil))) (pe_callTy call_int1 (by rfl) T.int bt_int (pa_cons (pv 2) pa_nil)) (fun _ _ => rfl))))
      (pssx_cons (psx_of (ps_set (i := 6) scRgt.nd rfl (Or.inl rfl) (pe_mid (pe_chain op_le op_le (pe_un un_neg pe_int) (pv 5) pe_int))))
      (pssx_cons (psx_if (pt_cmpR op_ne (pe_call GE hrE (by rfl) mE kE bE .nil pass0 (pa_cons (pv 3) pa_nil)) (pe_ix ix_list (pe_lst (pa_cons (pv 4) (pa_cons pe_non pa_nil))) (pe_callTy call_int1 (by rfl) T.int bt_int (pa_cons (pv 6) pa_nil)) (fun _ _ => rfl)) (nomark _)) (pssx_one (psx_of (ps_ret pe_bl))) (pssx_nil pss_nil))
      (pssx_cons (psx_of (ps_set (i := 7) scRgt.nd rfl (Or.inl rfl) (pe_op op_cat (pe_op op_cat (pe_slice sl_list (pv 3) po_none (po_some (pv 4))) (pe_lst (pa_cons (pe_op op_catT (pe_slice sl_tup (pe_ix ix_list (pv 3) (pv 4) (fun _ _ => rfl)) po_none (po_some (pe_un un_neg pe_int))) (pe_tup (pa_cons pe_int pa_nil))) pa_nil))) (pe_slice sl_list (pv 3) (po_some (pe_op op_add (pv 4) pe_int)) po_none))))
      (pssx_cons (psx_if (pw_or (pt_cmpR (op_neA hu0) (pe_call GL hrE (by rfl) mL kL bL .nil pass0 (pa_cons (pv 3) pa_nil)) (pe_ix ix_list (pe_lst (pa_cons (pv 7) (pa_cons (pv 3) pa_nil))) (pe_callTy call_int1 (by rfl) T.int bt_int (pa_cons (pv 6) pa_nil)) (fun _ _ => rfl)) (nomark _)) (pw_or (pt_cmpR (op_neA hu0) (pe_call GL hrE (by rfl) mL kL bL .nil pass0 (pa_cons (pv 7) pa_nil)) (pv 7) (nomark _)) (pw_or1 (pt_cmpR op_notN (pe_call GE hrE (by rfl) mE kE bE .nil pass0 (pa_cons (pv 7) pa_nil)) pe_non (nomark _))))).pt (pssx_one (psx_of (ps_ret pe_bl))) (pssx_nil pss_nil))
      (pssx_cons (psx_of (ps_set (i := 8) scRgt.nd rfl (Or.inl rfl) (pe_ix ix_list (pe_lst (pa_cons pe_int (pa_cons (pv 1) pa_nil))) (pe_callTy call_int1 (by rfl) T.int bt_int (pa_cons (pe_not (pv 2)) pa_nil)) (fun _ _ => rfl))))
      (pssx_cons (psx_if (pt_val (pv 6)) (pssx_one (psx_of (ps_ret (pe_cmpR op_eq (pe_op op_mod (pe_ix ix_list (pe_call GU hrE (by rfl) mU kU bU .nil pass2 (pa_cons (pv 3) pa_nil)) (pv 8) (fun _ _ => rfl)) pe_int) (pe_op op_add (pv 5) pe_int) (nomark _))))) (pssx_nil pss_nil))
      (pssx_one (psx_of (ps_ret (pe_cmpR op_eq (pe_ix ix_list (pe_call GU hrE (by rfl) mU kU bU .nil pass2 (pa_cons (pv 7) pa_nil)) (pe_op op_add (pv 8) pe_int) (fun _ _ => rfl)) (pe_op op_sub (pv 5) (pe_callTy call_int1 (by rfl) T.int bt_int (pa_cons (pe_not (pv 2)) pa_nil))) (nomark _)))))))))))))) ?_
    refine ⟨_, rfl, _, rfl, _, rfl, lx, ms, U, b, rfl, hx, hms, hU0, hU1, fun lr u fs G1 s1 hR hu hF hS => ?_⟩
    have hfl := fill_len hF
    cases b with
    | true =>
      have hd0 : dstT (rowsD true u fs 0) (atD true fs) (tD true fs) = dsD true U := by rw [rowsD_dst hu]; unfold dsD; rw [hS]; rfl
      have hd1 : dstT (rowsD true u fs 1) (atD true fs) (tD true fs) = dsD true U - 0 := by rw [rowsD_dst hu]; unfold dsD; rw [hS]; simp only [if_true]; omega
      have hO := rowsD_one (b := true) (f := 0) hu hF
      have hO1 := rowsD_one (b := true) (f := 1) hu hF
      have hG0 := rowsD_good (b := true) (u := u) (f := 0) hF (.inl rfl)
      have hG1 := rowsD_good (b := true) (u := u) (f := 1) hF (.inr rfl)
      have hl0 := rowsD_len true u fs 0
      have hl1 := rowsD_len true u fs 1
      obtain ⟨qs, q1, q2, q3⟩ := id hR
      have hql : qs.length = fs.length + 2 := by rw [q2, hl0]
      -- where the jump stands
      refine ⟨_, rfl, lr, _, rfl, .inl (SqL.of q1), _, _, rfl, rfl, (by show 2 ≤ sizeLine; decide), fun la nla => ?_⟩
      rw [List.length_map, hql]
      refine ⟨_, rfl, .inr ⟨true, rfl, la, _, 1, .int 0, rfl, rfl, SqL.of upd_same, rfl, ?_⟩⟩
      have s2 := s1.trans (same_new (o := .lst [V.int (((fs.length + 2 : Nat) : Int) - 2), V.int 0]) nla)
      replace hR := hR.same (same_new (o := .lst [V.int (((fs.length + 2 : Nat) : Int) - 2), V.int 0]) nla)
      clear q1 q3
      generalize upd G1 la _ = G2 at s2 hR ⊢
      -- its distance
      refine ⟨_, rfl, _, _, rfl, rfl, _, _, rfl, rfl, _, rfl, (by show 2 ≤ sizeLine; decide), fun lb nlb => ?_⟩
      refine ⟨_, rfl, .inr ⟨true, rfl, lb, _, 1, .int (dsD true U), rfl, rfl, SqL.of upd_same, rfl, ?_⟩⟩
      have s3 := s2.trans (same_new (o := .lst [V.int (0 - U - 1), V.int U]) nlb)
      replace hR := hR.same (same_new (o := .lst [V.int (0 - U - 1), V.int U]) nlb)
      generalize upd G2 lb _ = G3 at s3 hR ⊢
      refine ⟨fun v G => v = .bl (borneF (dsD true U)) ∧ G = G3, ?_, ?_⟩
      · refine ⟨_, rfl, _, rfl, _, _, rfl, rfl, _, rfl, ?_⟩
        unfold borneF
        refine ite2 (fun e4 => ⟨_, _, rfl, rfl, ?_, rfl⟩) (fun e4 => ⟨?_, rfl⟩)
        · exact congrArg V.bl (decide_eq_decide.mpr ⟨fun z => ⟨of_decide_eq_true e4, z⟩, fun z => z.2⟩)
        · exact congrArg V.bl (decide_eq_false (fun z => e4 (decide_eq_true z.1))).symm
      rintro v G ⟨rfl, hGG⟩
      subst hGG
      -- check_layout
      refine ⟨_, rfl, lr, _, rfl, hR, hG0, by omega, fun G4 t4 => ?_⟩
      have s4 := s3.trans t4
      replace hR := hR.same t4
      rw [hO.first, hd0]
      refine ⟨_, rfl, (by show 2 ≤ sizeLine; decide), fun lc nlc => ?_⟩
      have s5 := s4.trans (same_new (o := .lst [V.int 0, V.non]) nlc)
      replace hR := hR.same (same_new (o := .lst [V.int 0, V.non]) nlc)
      have zlc : upd G4 lc (.lst [V.int 0, V.non]) lc = _ := upd_same
      generalize upd G4 lc (.lst [V.int 0, V.non]) = G5 at s5 hR zlc ⊢
      have hpk : atI [V.int 0, V.non] (if borneF (dsD true U) = true then 1 else 0) = some (ovN (if (0 : Int) = 0 ∧ borneF (dsD true U) = false then some (atD true fs) else none)) := by
        cases borneF (dsD true U) <;> rfl
      refine ⟨_, rfl, .inr ⟨_, rfl, lc, _, _, _, rfl, rfl, SqL.of zlc, hpk, ?_⟩⟩
      refine ⟨by cases borneF (dsD true U) <;> rfl, _, rfl, iteN (by simp) ?_⟩
      -- made long
      obtain ⟨qs, q1, q2, q3⟩ := id hR
      have hql : qs.length = fs.length + 2 := by rw [q2, hl0]
      have hat := hO.at_
      have haq : atD true fs < qs.length := by rw [hql]; exact Nat.succ_pos _
      have hqj : qs[atD true fs]? = some (qs[atD true fs]'haq) := List.getElem?_eq_getElem _
      generalize qs[atD true fs]'haq = qj at hqj
      have hrj := q3 _ qj _ hqj hat
      have hAT : (0 : Int) = ((atD true fs : Nat) : Int) := rfl
      refine ⟨_, rfl, _, rfl, _, rfl, lr, _, rfl, SqL.of q1, fun ld nld => ?_⟩
      have hc1 : cutV (qs.map V.ref) none (some 0) = (qs.take (atD true fs)).map V.ref := by
        have := cut_take (qs.map V.ref) (atD true fs)
        rw [← List.map_take] at this
        exact this
      rw [hc1]
      have s6 := s5.trans (same_new (o := .lst ((qs.take (atD true fs)).map V.ref)) nld)
      have zld : upd G5 ld (.lst ((qs.take (atD true fs)).map V.ref)) ld = _ := upd_same
      replace hR := hR.same (same_new (o := .lst ((qs.take (atD true fs)).map V.ref)) nld)
      replace hrj := hrj.same (same_new (o := .lst ((qs.take (atD true fs)).map V.ref)) nld)
      replace q1 := same_new (o := .lst ((qs.take (atD true fs)).map V.ref)) nld _ _ q1
      generalize upd G5 ld (.lst ((qs.take (atD true fs)).map V.ref)) = G6 at s6 zld hR hrj q1 ⊢
      have hqa : atI (qs.map V.ref) ((atD true fs : Nat) : Int) = some (.ref qj) := atI_nat (by rw [List.getElem?_map, hqj]; rfl)
      have ej : ∃ a : List V, G6 qj = some (.tup (a ++ [.int 0])) ∧ a ≠ [] ∧ a.length + 1 ≤ 4 ∧ ∀ (H' : Hp) (q : Addr), H' q = some (.tup (a ++ [.int 1])) → RowF H' q (jr u (tD true fs) 1) := by
        obtain ⟨_, y1, _⟩ := five_row hrj (by rw [jr_u]; exact hu)
        rw [jr_u] at y1
        by_cases z : u ∈ zb
        · refine ⟨[.str u, .int 5, .int (tD true fs)], by rw [y1]; unfold jr; rw [if_pos z]; rfl, List.cons_ne_nil _ _, (by show 3 + 1 ≤ 4; decide), fun H' q h => jr_row hu ?_⟩
          rw [if_pos z]
          exact h
        · refine ⟨[.str u, .int (tD true fs)], by rw [y1]; unfold jr; rw [if_neg z]; rfl, List.cons_ne_nil _ _, (by show 2 + 1 ≤ 4; decide), fun H' q h => jr_row hu ?_⟩
          rw [if_neg z]
          exact h
      obtain ⟨av, ej, ane, al, erow⟩ := ej
      refine ⟨_, rfl, _, rfl, lr, _, _, .ref qj, rfl, rfl, SqL.of q1, hqa, 1, rfl, -1, rfl, qj, _, rfl, SqT.of ej, (fun z => ncutL av z.2), fun ta nta => ?_⟩
      rw [cut_last]
      have s7 := s6.trans (same_new (o := .tup av) nta)
      have zta : upd G6 ta (.tup av) ta = _ := upd_same
      replace hR := hR.same (same_new (o := .tup av) nta)
      replace q1 := same_new (o := .tup av) nta _ _ q1
      replace zld := same_new (o := .tup av) nta _ _ zld
      generalize upd G6 ta (.tup av) = G7 at s7 zta hR q1 zld ⊢
      refine ⟨(by show 1 ≤ sizeLine; decide), fun tb ntb => ?_⟩
      have s8 := s7.trans (same_new (o := .tup [V.int 1]) ntb)
      have ztb : upd G7 tb (.tup [V.int 1]) tb = _ := upd_same
      replace hR := hR.same (same_new (o := .tup [V.int 1]) ntb)
      replace q1 := same_new (o := .tup [V.int 1]) ntb _ _ q1
      replace zld := same_new (o := .tup [V.int 1]) ntb _ _ zld
      replace zta := same_new (o := .tup [V.int 1]) ntb _ _ zta
      generalize upd G7 tb (.tup [V.int 1]) = G8 at s8 ztb hR q1 zld zta ⊢
      refine ⟨ta, tb, av, _, rfl, rfl, SqT.of zta, SqT.of ztb, ane, small_len (by show av.length + 1 ≤ 1000000; omega), fun z => absurd z (List.cons_ne_nil _ _), fun _ tc ntc => ?_⟩
      have s9 := s8.trans (same_new (o := .tup (av ++ [V.int 1])) ntc)
      have ztc : upd G8 tc (.tup (av ++ [V.int 1])) tc = _ := upd_same
      replace hR := hR.same (same_new (o := .tup (av ++ [V.int 1])) ntc)
      replace q1 := same_new (o := .tup (av ++ [V.int 1])) ntc _ _ q1
      replace zld := same_new (o := .tup (av ++ [V.int 1])) ntc _ _ zld
      generalize upd G8 tc (.tup (av ++ [V.int 1])) = G9 at s9 ztc hR q1 zld ⊢
      have hrow := erow _ _ ztc
      refine ⟨(by show 1 ≤ sizeLine; decide), fun le nle => ?_⟩
      have sa := s9.trans (same_new (o := .lst [V.ref tc]) nle)
      have zle : upd G9 le (.lst [V.ref tc]) le = _ := upd_same
      replace hR := hR.same (same_new (o := .lst [V.ref tc]) nle)
      replace hrow := hrow.same (same_new (o := .lst [V.ref tc]) nle)
      replace q1 := same_new (o := .lst [V.ref tc]) nle _ _ q1
      replace zld := same_new (o := .lst [V.ref tc]) nle _ _ zld
      generalize upd G9 le (.lst [V.ref tc]) = Ga at sa zle hR hrow q1 zld ⊢
      refine ⟨ld, le, _, _, rfl, rfl, zld, zle, small_len (by rw [List.length_map, List.length_take]; show _ + 1 ≤ 1000000; omega), fun lf nlf => ?_⟩
      rw [show (qs.take (atD true fs)).map V.ref ++ [V.ref tc] = (qs.take (atD true fs) ++ [tc]).map V.ref by rw [List.map_append]; rfl]
      have sb := sa.trans (same_new (o := .lst ((qs.take (atD true fs) ++ [tc]).map V.ref)) nlf)
      have zlf : upd Ga lf (.lst ((qs.take (atD true fs) ++ [tc]).map V.ref)) lf = _ := upd_same
      replace hR := hR.same (same_new (o := .lst ((qs.take (atD true fs) ++ [tc]).map V.ref)) nlf)
      replace hrow := hrow.same (same_new (o := .lst ((qs.take (atD true fs) ++ [tc]).map V.ref)) nlf)
      replace q1 := same_new (o := .lst ((qs.take (atD true fs) ++ [tc]).map V.ref)) nlf _ _ q1
      generalize upd Ga lf (.lst ((qs.take (atD true fs) ++ [tc]).map V.ref)) = Gb at sb zlf hR hrow q1 ⊢
      refine ⟨_, rfl, _, rfl, _, _, rfl, rfl, _, rfl, lr, _, rfl, SqL.of q1, fun lg nlg => ?_⟩
      have hc2 : cutV (qs.map V.ref) (some (0 + 1)) none = (qs.drop (atD true fs + 1)).map V.ref := by
        have := cut_drop (qs.map V.ref) (atD true fs)
        rw [← List.map_drop] at this
        exact this
      rw [hc2]
      have sc := sb.trans (same_new (o := .lst ((qs.drop (atD true fs + 1)).map V.ref)) nlg)
      have zlg : upd Gb lg (.lst ((qs.drop (atD true fs + 1)).map V.ref)) lg = _ := upd_same
      replace hR := hR.same (same_new (o := .lst ((qs.drop (atD true fs + 1)).map V.ref)) nlg)
      replace hrow := hrow.same (same_new (o := .lst ((qs.drop (atD true fs + 1)).map V.ref)) nlg)
      replace q1 := same_new (o := .lst ((qs.drop (atD true fs + 1)).map V.ref)) nlg _ _ q1
      replace zlf := same_new (o := .lst ((qs.drop (atD true fs + 1)).map V.ref)) nlg _ _ zlf
      generalize upd Gb lg (.lst ((qs.drop (atD true fs + 1)).map V.ref)) = Gc at sc zlg hR hrow q1 zlf ⊢
      refine ⟨lf, lg, _, _, rfl, rfl, zlf, zlg, small_len (by rw [List.length_map, List.length_map, List.length_append, List.length_take, List.length_drop]; show _ + 1 + _ ≤ 1000000; omega), fun ll nll => ?_⟩
      rw [← List.map_append, ← set_cut haq]
      have hLL : RowsF (upd Gc ll (.lst ((qs.set (atD true fs) tc).map V.ref))) ll (rowsD true u fs 1) := by
        obtain ⟨qs', e1, e2, e3⟩ := hR
        rw [q1] at e1
        have e1 : qs.map V.ref = qs'.map V.ref := by injection e1 with e1; injection e1
        have := map_ref_inj e1
        subst this
        have hA : RowsA Gc (qs.set (atD true fs) tc) (rowsD true u fs 1) := by
          rw [← rowsD_set (f := 0)]
          exact RowsA.set ⟨e2, e3⟩ hrow _
        replace hA := hA.same (same_new (o := .lst ((qs.set (atD true fs) tc).map V.ref)) nll)
        exact ⟨_, upd_same, hA.1, hA.2⟩
      have sd := sc.trans (same_new (o := .lst ((qs.set (atD true fs) tc).map V.ref)) nll)
      replace hR := hR.same (same_new (o := .lst ((qs.set (atD true fs) tc).map V.ref)) nll)
      generalize upd Gc ll (.lst ((qs.set (atD true fs) tc).map V.ref)) = Gd at hLL sd hR ⊢
      -- the least layouts
      refine ⟨_, rfl, lr, _, rfl, hR, hG0, by omega, fun lx1 L1 Ge te _ hx1 hL1 => ?_⟩
      rw [hO.far hG0 hL1, hd0] at hx1
      have se := sd.trans te
      replace hR := hR.same te
      replace hLL := hLL.same te
      refine ⟨_, rfl, _, rfl, (by show 2 ≤ sizeLine; decide), fun lh nlh => ?_⟩
      have sf := se.trans (same_new (o := .lst [V.ref ll, V.ref lr]) nlh)
      replace hR := hR.same (same_new (o := .lst [V.ref ll, V.ref lr]) nlh)
      replace hLL := hLL.same (same_new (o := .lst [V.ref ll, V.ref lr]) nlh)
      replace hx1 := hx1.same (same_new (o := .lst [V.ref ll, V.ref lr]) nlh)
      have zlh : upd Ge lh (.lst [V.ref ll, V.ref lr]) lh = _ := upd_same
      generalize upd Ge lh (.lst [V.ref ll, V.ref lr]) = Gf at sf hR hLL hx1 zlh ⊢
      have hpk2 : ∃ lz, atI [V.ref ll, V.ref lr] (if borneF (dsD true U) = true then 1 else 0) = some (.ref lz) ∧ RowsF Gf lz (if (0 : Int) = 0 ∧ borneF (dsD true U) = false then (rowsD true u fs 0).set (atD true fs) (jr u (tD true fs) 1) else rowsD true u fs 0) := by
        cases borneF (dsD true U) with
        | true => exact ⟨lr, rfl, hR⟩
        | false => exact ⟨ll, rfl, by rw [if_pos ⟨rfl, rfl⟩, rowsD_set]; exact hLL⟩
      obtain ⟨lz, hz1, hz2⟩ := hpk2
      refine ⟨_, rfl, .inr ⟨_, rfl, lh, _, _, .ref lz, rfl, rfl, SqL.of zlh, hz1, ?_⟩⟩
      refine ⟨3, lx1, lz, _, _, rfl, rfl, hx1.da K, hz2.da K, rows_nb _, rows_nb _, by decide, _, rfl, iteN (by simp) ?_⟩
      refine ⟨_, rfl, ll, _, rfl, hLL, hG1, by omega, fun lx2 L2 Gg tg _ hx2 hL2 => ?_⟩
      rw [hO1.far hG1 hL2, if_neg (fun z => absurd z.1 (by decide))] at hx2
      have sg := sf.trans tg
      replace hR := hR.same tg
      replace hLL := hLL.same tg
      refine ⟨_, rfl, 3, lx2, ll, _, _, rfl, rfl, hx2.da K, hLL.da K, rows_nb _, rows_nb _, by decide, _, rfl, iteN (by simp) ?_⟩
      refine ⟨_, rfl, ll, _, rfl, hLL, hG1, by omega, fun Gh th => ?_⟩
      rw [hO1.first, if_neg (fun z => absurd z.1 (by decide))]
      refine ⟨rfl, _, rfl, iteN (by decide) ?_⟩
      have sh := sg.trans th
      replace hR := hR.same th
      replace hLL := hLL.same th
      -- the units
      refine ⟨_, rfl, (by show 2 ≤ sizeLine; decide), fun li nli => ?_⟩
      have si := sh.trans (same_new (o := .lst [V.int 0, V.int U]) nli)
      replace hR := hR.same (same_new (o := .lst [V.int 0, V.int U]) nli)
      replace hLL := hLL.same (same_new (o := .lst [V.int 0, V.int U]) nli)
      have zli : upd Gh li (.lst [V.int 0, V.int U]) li = _ := upd_same
      generalize upd Gh li (.lst [V.int 0, V.int U]) = Gi at si hR hLL zli ⊢
      refine ⟨_, rfl, true, rfl, .inr ⟨_, rfl, li, _, _, .int 0, rfl, rfl, SqL.of zli, rfl, ?_⟩⟩
      obtain ⟨UN, hUN⟩ := Int.eq_ofNat_of_zero_le hU0
      obtain ⟨hp0, hb0⟩ := rowsD_pre (b := true) (u := u) (f := 0) hF
      obtain ⟨hp1, hb1⟩ := rowsD_pre (b := true) (u := u) (f := 1) hF
      refine ⟨_, rfl, _, rfl, ?_⟩
      cases hbo : borneF (dsD true U) with
      | true =>
        refine iteP rfl ?_
        refine ⟨_, rfl, lr, _, rfl, hR, hG0.tg, (fun d hd => (hG0 d hd).2.2), by omega, (fun _ lu Gj tj _ hlu => ?_), fun r e => by rw [hO.first, hd0, if_neg (fun z => by rw [hbo] at z; cases z.2)] at e; cases e⟩
        obtain ⟨x, hx0, hxm⟩ := jr_first (ds := rowsD true u fs 0) (a := atD true fs) (t := tD true fs) hu (by rw [hd0]; exact hbo)
        have hix := hO.units hp0 (U := 0) (by rw [hb0]; rfl) 0 hx0
        rw [hd0] at hxm
        refine ⟨_, rfl, lu, _, _, .int x, rfl, rfl, SqL.of hlu, atI_nat (j := 0) (by rw [List.getElem?_map, hix]; rfl), _, _, rfl, rfl, (by show (0 : Int) < 128; decide), _, rfl, _, _, rfl, rfl, rfl, ?_⟩
        have e : decide (V.int (x % 128) = V.int (dsD true U + 64)) = true := by rw [hxm]; exact decide_eq_true rfl
        show Q (.bl (decide (V.int (x % 128) = V.int (dsD true U + 64)))) Gj
        rw [e]
        exact k _ (si.trans tj)
      | false =>
        refine iteN (by decide) ?_
        refine ⟨_, rfl, ll, _, rfl, hLL, hG1.tg, (fun d hd => (hG1 d hd).2.2), by omega, (fun _ lu Gj tj _ hlu => ?_), fun r e => by rw [hO1.first, if_neg (fun z => absurd z.1 (by decide))] at e; cases e⟩
        have hx0 := jr_second (ds := rowsD true u fs 1) (a := atD true fs) (t := tD true fs) hu
        have hix := hO1.units hp1 (U := 0) (by rw [hb1]; rfl) 1 hx0
        rw [hd1] at hix
        refine ⟨_, rfl, _, _, rfl, rfl, lu, _, _, .int (dsD true U - 0), rfl, rfl, SqL.of hlu, atI_nat (j := 1) (by rw [List.getElem?_map, hix]; rfl), _, rfl, _, rfl, true, rfl, .inr ⟨_, rfl, _, _, rfl, rfl, rfl, ?_⟩⟩
        show Q (.bl (decide (V.int (dsD true U - 0) = V.int (dsD true U - 0)))) Gj
        rw [decide_eq_true rfl]
        exact k _ (si.trans tj)
    | false =>
      have hd0 : dstT (rowsD false u fs 0) (atD false fs) (tD false fs) = dsD false U := by rw [rowsD_dst hu]; unfold dsD; rw [hS]; simp only [Bool.false_eq_true, if_false]; omega
      have hd1 : dstT (rowsD false u fs 1) (atD false fs) (tD false fs) = dsD false U - 1 := by rw [rowsD_dst hu]; unfold dsD; rw [hS]; simp only [Bool.false_eq_true, if_false]; omega
      have hO := rowsD_one (b := false) (f := 0) hu hF
      have hO1 := rowsD_one (b := false) (f := 1) hu hF
      have hG0 := rowsD_good (b := false) (u := u) (f := 0) hF (.inl rfl)
      have hG1 := rowsD_good (b := false) (u := u) (f := 1) hF (.inr rfl)
      have hl0 := rowsD_len false u fs 0
      have hl1 := rowsD_len false u fs 1
      obtain ⟨qs, q1, q2, q3⟩ := id hR
      have hql : qs.length = fs.length + 2 := by rw [q2, hl0]
      -- where the jump stands
      refine ⟨_, rfl, lr, _, rfl, .inl (SqL.of q1), _, _, rfl, rfl, (by show 2 ≤ sizeLine; decide), fun la nla => ?_⟩
      rw [List.length_map, hql]
      refine ⟨_, rfl, .inr ⟨false, rfl, la, _, 0, .int ((fs.length : Nat) : Int), rfl, rfl, SqL.of upd_same, by show some (V.int (((fs.length + 2 : Nat) : Int) - 2)) = some (V.int ((fs.length : Nat) : Int)); congr 2; push_cast; omega, ?_⟩⟩
      have s2 := s1.trans (same_new (o := .lst [V.int (((fs.length + 2 : Nat) : Int) - 2), V.int 0]) nla)
      replace hR := hR.same (same_new (o := .lst [V.int (((fs.length + 2 : Nat) : Int) - 2), V.int 0]) nla)
      clear q1 q3
      generalize upd G1 la _ = G2 at s2 hR ⊢
      -- its distance
      refine ⟨_, rfl, _, _, rfl, rfl, _, _, rfl, rfl, _, rfl, (by show 2 ≤ sizeLine; decide), fun lb nlb => ?_⟩
      refine ⟨_, rfl, .inr ⟨false, rfl, lb, _, 0, .int (dsD false U), rfl, rfl, SqL.of upd_same, rfl, ?_⟩⟩
      have s3 := s2.trans (same_new (o := .lst [V.int (0 - U - 1), V.int U]) nlb)
      replace hR := hR.same (same_new (o := .lst [V.int (0 - U - 1), V.int U]) nlb)
      generalize upd G2 lb _ = G3 at s3 hR ⊢
      refine ⟨fun v G => v = .bl (borneF (dsD false U)) ∧ G = G3, ?_, ?_⟩
      · refine ⟨_, rfl, _, rfl, _, _, rfl, rfl, _, rfl, ?_⟩
        unfold borneF
        refine ite2 (fun e4 => ⟨_, _, rfl, rfl, ?_, rfl⟩) (fun e4 => ⟨?_, rfl⟩)
        · exact congrArg V.bl (decide_eq_decide.mpr ⟨fun z => ⟨of_decide_eq_true e4, z⟩, fun z => z.2⟩)
        · exact congrArg V.bl (decide_eq_false (fun z => e4 (decide_eq_true z.1))).symm
      rintro v G ⟨rfl, hGG⟩
      subst hGG
      -- check_layout
      refine ⟨_, rfl, lr, _, rfl, hR, hG0, by omega, fun G4 t4 => ?_⟩
      have s4 := s3.trans t4
      replace hR := hR.same t4
      rw [hO.first, hd0]
      refine ⟨_, rfl, (by show 2 ≤ sizeLine; decide), fun lc nlc => ?_⟩
      have s5 := s4.trans (same_new (o := .lst [V.int ((fs.length : Nat) : Int), V.non]) nlc)
      replace hR := hR.same (same_new (o := .lst [V.int ((fs.length : Nat) : Int), V.non]) nlc)
      have zlc : upd G4 lc (.lst [V.int ((fs.length : Nat) : Int), V.non]) lc = _ := upd_same
      generalize upd G4 lc (.lst [V.int ((fs.length : Nat) : Int), V.non]) = G5 at s5 hR zlc ⊢
      have hpk : atI [V.int ((fs.length : Nat) : Int), V.non] (if borneF (dsD false U) = true then 1 else 0) = some (ovN (if (0 : Int) = 0 ∧ borneF (dsD false U) = false then some (atD false fs) else none)) := by
        cases borneF (dsD false U) <;> rfl
      refine ⟨_, rfl, .inr ⟨_, rfl, lc, _, _, _, rfl, rfl, SqL.of zlc, hpk, ?_⟩⟩
      refine ⟨by cases borneF (dsD false U) <;> rfl, _, rfl, iteN (by simp) ?_⟩
      -- made long
      obtain ⟨qs, q1, q2, q3⟩ := id hR
      have hql : qs.length = fs.length + 2 := by rw [q2, hl0]
      have hat := hO.at_
      have haq : atD false fs < qs.length := by rw [hql]; show fs.length < fs.length + 2; omega
      have hqj : qs[atD false fs]? = some (qs[atD false fs]'haq) := List.getElem?_eq_getElem _
      generalize qs[atD false fs]'haq = qj at hqj
      have hrj := q3 _ qj _ hqj hat
      have hAT : (((fs.length : Nat) : Int) : Int) = ((atD false fs : Nat) : Int) := rfl
      refine ⟨_, rfl, _, rfl, _, rfl, lr, _, rfl, SqL.of q1, fun ld nld => ?_⟩
      have hc1 : cutV (qs.map V.ref) none (some ((fs.length : Nat) : Int)) = (qs.take (atD false fs)).map V.ref := by
        have := cut_take (qs.map V.ref) (atD false fs)
        rw [← List.map_take] at this
        exact this
      rw [hc1]
      have s6 := s5.trans (same_new (o := .lst ((qs.take (atD false fs)).map V.ref)) nld)
      have zld : upd G5 ld (.lst ((qs.take (atD false fs)).map V.ref)) ld = _ := upd_same
      replace hR := hR.same (same_new (o := .lst ((qs.take (atD false fs)).map V.ref)) nld)
      replace hrj := hrj.same (same_new (o := .lst ((qs.take (atD false fs)).map V.ref)) nld)
      replace q1 := same_new (o := .lst ((qs.take (atD false fs)).map V.ref)) nld _ _ q1
      generalize upd G5 ld (.lst ((qs.take (atD false fs)).map V.ref)) = G6 at s6 zld hR hrj q1 ⊢
      have hqa : atI (qs.map V.ref) ((atD false fs : Nat) : Int) = some (.ref qj) := atI_nat (by rw [List.getElem?_map, hqj]; rfl)
      have ej : ∃ a : List V, G6 qj = some (.tup (a ++ [.int 0])) ∧ a ≠ [] ∧ a.length + 1 ≤ 4 ∧ ∀ (H' : Hp) (q : Addr), H' q = some (.tup (a ++ [.int 1])) → RowF H' q (jr u (tD false fs) 1) := by
        obtain ⟨_, y1, _⟩ := five_row hrj (by rw [jr_u]; exact hu)
        rw [jr_u] at y1
        by_cases z : u ∈ zb
        · refine ⟨[.str u, .int 5, .int (tD false fs)], by rw [y1]; unfold jr; rw [if_pos z]; rfl, List.cons_ne_nil _ _, (by show 3 + 1 ≤ 4; decide), fun H' q h => jr_row hu ?_⟩
          rw [if_pos z]
          exact h
        · refine ⟨[.str u, .int (tD false fs)], by rw [y1]; unfold jr; rw [if_neg z]; rfl, List.cons_ne_nil _ _, (by show 2 + 1 ≤ 4; decide), fun H' q h => jr_row hu ?_⟩
          rw [if_neg z]
          exact h
      obtain ⟨av, ej, ane, al, erow⟩ := ej
      refine ⟨_, rfl, _, rfl, lr, _, _, .ref qj, rfl, rfl, SqL.of q1, hqa, 1, rfl, -1, rfl, qj, _, rfl, SqT.of ej, (fun z => ncutL av z.2), fun ta nta => ?_⟩
      rw [cut_last]
      have s7 := s6.trans (same_new (o := .tup av) nta)
      have zta : upd G6 ta (.tup av) ta = _ := upd_same
      replace hR := hR.same (same_new (o := .tup av) nta)
      replace q1 := same_new (o := .tup av) nta _ _ q1
      replace zld := same_new (o := .tup av) nta _ _ zld
      generalize upd G6 ta (.tup av) = G7 at s7 zta hR q1 zld ⊢
      refine ⟨(by show 1 ≤ sizeLine; decide), fun tb ntb => ?_⟩
      have s8 := s7.trans (same_new (o := .tup [V.int 1]) ntb)
      have ztb : upd G7 tb (.tup [V.int 1]) tb = _ := upd_same
      replace hR := hR.same (same_new (o := .tup [V.int 1]) ntb)
      replace q1 := same_new (o := .tup [V.int 1]) ntb _ _ q1
      replace zld := same_new (o := .tup [V.int 1]) ntb _ _ zld
      replace zta := same_new (o := .tup [V.int 1]) ntb _ _ zta
      generalize upd G7 tb (.tup [V.int 1]) = G8 at s8 ztb hR q1 zld zta ⊢
      refine ⟨ta, tb, av, _, rfl, rfl, SqT.of zta, SqT.of ztb, ane, small_len (by show av.length + 1 ≤ 1000000; omega), fun z => absurd z (List.cons_ne_nil _ _), fun _ tc ntc => ?_⟩
      have s9 := s8.trans (same_new (o := .tup (av ++ [V.int 1])) ntc)
      have ztc : upd G8 tc (.tup (av ++ [V.int 1])) tc = _ := upd_same
      replace hR := hR.same (same_new (o := .tup (av ++ [V.int 1])) ntc)
      replace q1 := same_new (o := .tup (av ++ [V.int 1])) ntc _ _ q1
      replace zld := same_new (o := .tup (av ++ [V.int 1])) ntc _ _ zld
      generalize upd G8 tc (.tup (av ++ [V.int 1])) = G9 at s9 ztc hR q1 zld ⊢
      have hrow := erow _ _ ztc
      refine ⟨(by show 1 ≤ sizeLine; decide), fun le nle => ?_⟩
      have sa := s9.trans (same_new (o := .lst [V.ref tc]) nle)
      have zle : upd G9 le (.lst [V.ref tc]) le = _ := upd_same
      replace hR := hR.same (same_new (o := .lst [V.ref tc]) nle)
      replace hrow := hrow.same (same_new (o := .lst [V.ref tc]) nle)
      replace q1 := same_new (o := .lst [V.ref tc]) nle _ _ q1
      replace zld := same_new (o := .lst [V.ref tc]) nle _ _ zld
      generalize upd G9 le (.lst [V.ref tc]) = Ga at sa zle hR hrow q1 zld ⊢
      refine ⟨ld, le, _, _, rfl, rfl, zld, zle, small_len (by rw [List.length_map, List.length_take]; show _ + 1 ≤ 1000000; omega), fun lf nlf => ?_⟩
      rw [show (qs.take (atD false fs)).map V.ref ++ [V.ref tc] = (qs.take (atD false fs) ++ [tc]).map V.ref by rw [List.map_append]; rfl]
      have sb := sa.trans (same_new (o := .lst ((qs.take (atD false fs) ++ [tc]).map V.ref)) nlf)
      have zlf : upd Ga lf (.lst ((qs.take (atD false fs) ++ [tc]).map V.ref)) lf = _ := upd_same
      replace hR := hR.same (same_new (o := .lst ((qs.take (atD false fs) ++ [tc]).map V.ref)) nlf)
      replace hrow := hrow.same (same_new (o := .lst ((qs.take (atD false fs) ++ [tc]).map V.ref)) nlf)
      replace q1 := same_new (o := .lst ((qs.take (atD false fs) ++ [tc]).map V.ref)) nlf _ _ q1
      generalize upd Ga lf (.lst ((qs.take (atD false fs) ++ [tc]).map V.ref)) = Gb at sb zlf hR hrow q1 ⊢
      refine ⟨_, rfl, _, rfl, _, _, rfl, rfl, _, rfl, lr, _, rfl, SqL.of q1, fun lg nlg => ?_⟩
      have hc2 : cutV (qs.map V.ref) (some (((fs.length : Nat) : Int) + 1)) none = (qs.drop (atD false fs + 1)).map V.ref := by
        have := cut_drop (qs.map V.ref) (atD false fs)
        rw [← List.map_drop] at this
        exact this
      rw [hc2]
      have sc := sb.trans (same_new (o := .lst ((qs.drop (atD false fs + 1)).map V.ref)) nlg)
      have zlg : upd Gb lg (.lst ((qs.drop (atD false fs + 1)).map V.ref)) lg = _ := upd_same
      replace hR := hR.same (same_new (o := .lst ((qs.drop (atD false fs + 1)).map V.ref)) nlg)
      replace hrow := hrow.same (same_new (o := .lst ((qs.drop (atD false fs + 1)).map V.ref)) nlg)
      replace q1 := same_new (o := .lst ((qs.drop (atD false fs + 1)).map V.ref)) nlg _ _ q1
      replace zlf := same_new (o := .lst ((qs.drop (atD false fs + 1)).map V.ref)) nlg _ _ zlf
      generalize upd Gb lg (.lst ((qs.drop (atD false fs + 1)).map V.ref)) = Gc at sc zlg hR hrow q1 zlf ⊢
      refine ⟨lf, lg, _, _, rfl, rfl, zlf, zlg, small_len (by rw [List.length_map, List.length_map, List.length_append, List.length_take, List.length_drop]; show _ + 1 + _ ≤ 1000000; omega), fun ll nll => ?_⟩
      rw [← List.map_append, ← set_cut haq]
      have hLL : RowsF (upd Gc ll (.lst ((qs.set (atD false fs) tc).map V.ref))) ll (rowsD false u fs 1) := by
        obtain ⟨qs', e1, e2, e3⟩ := hR
        rw [q1] at e1
        have e1 : qs.map V.ref = qs'.map V.ref := by injection e1 with e1; injection e1
        have := map_ref_inj e1
        subst this
        have hA : RowsA Gc (qs.set (atD false fs) tc) (rowsD false u fs 1) := by
          rw [← rowsD_set (f := 0)]
          exact RowsA.set ⟨e2, e3⟩ hrow _
        replace hA := hA.same (same_new (o := .lst ((qs.set (atD false fs) tc).map V.ref)) nll)
        exact ⟨_, upd_same, hA.1, hA.2⟩
      have sd := sc.trans (same_new (o := .lst ((qs.set (atD false fs) tc).map V.ref)) nll)
      replace hR := hR.same (same_new (o := .lst ((qs.set (atD false fs) tc).map V.ref)) nll)
      generalize upd Gc ll (.lst ((qs.set (atD false fs) tc).map V.ref)) = Gd at hLL sd hR ⊢
      -- the least layouts
      refine ⟨_, rfl, lr, _, rfl, hR, hG0, by omega, fun lx1 L1 Ge te _ hx1 hL1 => ?_⟩
      rw [hO.far hG0 hL1, hd0] at hx1
      have se := sd.trans te
      replace hR := hR.same te
      replace hLL := hLL.same te
      refine ⟨_, rfl, _, rfl, (by show 2 ≤ sizeLine; decide), fun lh nlh => ?_⟩
      have sf := se.trans (same_new (o := .lst [V.ref ll, V.ref lr]) nlh)
      replace hR := hR.same (same_new (o := .lst [V.ref ll, V.ref lr]) nlh)
      replace hLL := hLL.same (same_new (o := .lst [V.ref ll, V.ref lr]) nlh)
      replace hx1 := hx1.same (same_new (o := .lst [V.ref ll, V.ref lr]) nlh)
      have zlh : upd Ge lh (.lst [V.ref ll, V.ref lr]) lh = _ := upd_same
      generalize upd Ge lh (.lst [V.ref ll, V.ref lr]) = Gf at sf hR hLL hx1 zlh ⊢
      have hpk2 : ∃ lz, atI [V.ref ll, V.ref lr] (if borneF (dsD false U) = true then 1 else 0) = some (.ref lz) ∧ RowsF Gf lz (if (0 : Int) = 0 ∧ borneF (dsD false U) = false then (rowsD false u fs 0).set (atD false fs) (jr u (tD false fs) 1) else rowsD false u fs 0) := by
        cases borneF (dsD false U) with
        | true => exact ⟨lr, rfl, hR⟩
        | false => exact ⟨ll, rfl, by rw [if_pos ⟨rfl, rfl⟩, rowsD_set]; exact hLL⟩
      obtain ⟨lz, hz1, hz2⟩ := hpk2
      refine ⟨_, rfl, .inr ⟨_, rfl, lh, _, _, .ref lz, rfl, rfl, SqL.of zlh, hz1, ?_⟩⟩
      refine ⟨3, lx1, lz, _, _, rfl, rfl, hx1.da K, hz2.da K, rows_nb _, rows_nb _, by decide, _, rfl, iteN (by simp) ?_⟩
      refine ⟨_, rfl, ll, _, rfl, hLL, hG1, by omega, fun lx2 L2 Gg tg _ hx2 hL2 => ?_⟩
      rw [hO1.far hG1 hL2, if_neg (fun z => absurd z.1 (by decide))] at hx2
      have sg := sf.trans tg
      replace hR := hR.same tg
      replace hLL := hLL.same tg
      refine ⟨_, rfl, 3, lx2, ll, _, _, rfl, rfl, hx2.da K, hLL.da K, rows_nb _, rows_nb _, by decide, _, rfl, iteN (by simp) ?_⟩
      refine ⟨_, rfl, ll, _, rfl, hLL, hG1, by omega, fun Gh th => ?_⟩
      rw [hO1.first, if_neg (fun z => absurd z.1 (by decide))]
      refine ⟨rfl, _, rfl, iteN (by decide) ?_⟩
      have sh := sg.trans th
      replace hR := hR.same th
      replace hLL := hLL.same th
      -- the units
      refine ⟨_, rfl, (by show 2 ≤ sizeLine; decide), fun li nli => ?_⟩
      have si := sh.trans (same_new (o := .lst [V.int 0, V.int U]) nli)
      replace hR := hR.same (same_new (o := .lst [V.int 0, V.int U]) nli)
      replace hLL := hLL.same (same_new (o := .lst [V.int 0, V.int U]) nli)
      have zli : upd Gh li (.lst [V.int 0, V.int U]) li = _ := upd_same
      generalize upd Gh li (.lst [V.int 0, V.int U]) = Gi at si hR hLL zli ⊢
      refine ⟨_, rfl, false, rfl, .inr ⟨_, rfl, li, _, _, .int U, rfl, rfl, SqL.of zli, rfl, ?_⟩⟩
      obtain ⟨UN, hUN⟩ := Int.eq_ofNat_of_zero_le hU0
      obtain ⟨hp0, hb0⟩ := rowsD_pre (b := false) (u := u) (f := 0) hF
      obtain ⟨hp1, hb1⟩ := rowsD_pre (b := false) (u := u) (f := 1) hF
      refine ⟨_, rfl, _, rfl, ?_⟩
      cases hbo : borneF (dsD false U) with
      | true =>
        refine iteP rfl ?_
        refine ⟨_, rfl, lr, _, rfl, hR, hG0.tg, (fun d hd => (hG0 d hd).2.2), by omega, (fun _ lu Gj tj _ hlu => ?_), fun r e => by rw [hO.first, hd0, if_neg (fun z => by rw [hbo] at z; cases z.2)] at e; cases e⟩
        obtain ⟨x, hx0, hxm⟩ := jr_first (ds := rowsD false u fs 0) (a := atD false fs) (t := tD false fs) hu (by rw [hd0]; exact hbo)
        have hix := hO.units hp0 (U := UN) (by rw [hb0]; simp only [Bool.false_eq_true, if_false]; rw [hS]; exact hUN) 0 hx0
        rw [hd0] at hxm
        refine ⟨_, rfl, lu, _, _, .int x, rfl, rfl, SqL.of hlu, by rw [hUN]; exact atI_nat (j := UN) (by rw [List.getElem?_map, show UN = UN + 0 from rfl, hix]; rfl), _, _, rfl, rfl, (by show (0 : Int) < 128; decide), _, rfl, _, _, rfl, rfl, rfl, ?_⟩
        have e : decide (V.int (x % 128) = V.int (dsD false U + 64)) = true := by rw [hxm]; exact decide_eq_true rfl
        show Q (.bl (decide (V.int (x % 128) = V.int (dsD false U + 64)))) Gj
        rw [e]
        exact k _ (si.trans tj)
      | false =>
        refine iteN (by decide) ?_
        refine ⟨_, rfl, ll, _, rfl, hLL, hG1.tg, (fun d hd => (hG1 d hd).2.2), by omega, (fun _ lu Gj tj _ hlu => ?_), fun r e => by rw [hO1.first, if_neg (fun z => absurd z.1 (by decide))] at e; cases e⟩
        have hx0 := jr_second (ds := rowsD false u fs 1) (a := atD false fs) (t := tD false fs) hu
        have hix := hO1.units hp1 (U := UN) (by rw [hb1]; simp only [Bool.false_eq_true, if_false]; rw [hS]; exact hUN) 1 hx0
        rw [hd1] at hix
        refine ⟨_, rfl, _, _, rfl, rfl, lu, _, _, .int (dsD false U - 1), rfl, rfl, SqL.of hlu, (show atI _ (U + 1) = _ by rw [show (U : Int) + 1 = ((UN + 1 : Nat) : Int) by omega]; exact atI_nat (j := UN + 1) (by rw [List.getElem?_map, hix]; rfl)), _, rfl, _, rfl, false, rfl, .inr ⟨_, rfl, _, _, rfl, rfl, rfl, ?_⟩⟩
        show Q (.bl (decide (V.int (dsD false U - 1) = V.int (dsD false U - 1)))) Gj
        rw [decide_eq_true rfl]
        exact k _ (si.trans tj)
end
end My


set_option Elab.async false
set_option linter.all false
set_option maxRecDepth 100000
set_option maxHeartbeats 4000000
namespace My
open PySem L2
theorem cut2 (x y : V) (xs : List V) : cutV (x :: y :: xs) (some 2) none = xs := by
  unfold cutV
  have h1 : HT.sIx (x :: y :: xs).length 0 (some 2) = 2 := by
    have : HT.sIx (x :: y :: xs).length 0 (some ((2 : Nat) : Int)) = min 2 (x :: y :: xs).length := HT.sIx_nat ..
    rw [show (2 : Int) = ((2 : Nat) : Int) from rfl, this, List.length_cons, List.length_cons]
    omega
  have h2 : HT.sIx (x :: y :: xs).length (x :: y :: xs).length none = (x :: y :: xs).length := rfl
  rw [h1, h2]
  show (xs).take _ = xs
  exact List.take_of_length_le (by simp)
theorem pei_of {X : Cx} {e : Expr} {t : TE} (h : PE X e t) : PEi X e t := by
  unfold PEi
  exact h
theorem pei_op {X : Cx} {a b : Expr} {op : Operator} {ta tb : TE} {pos : Pos} {r : R2} (hr : OpR X (binaryOp op) r) (ha : PEi X a ta) (hb : PEi X b tb) : PEi X (.BinOp a op b pos) (tOp r ta tb) := by
  unfold PEi at ha hb ⊢
  exact pe_op hr ha hb
theorem pk_t4 {X : Cx} {u : Str} {i k l : Int} {j1 p1 j2 p2 j3 p3 j4 p4 x1 pos} : PE X (.Tuple [.Constant (.str u) j1 p1, .Constant (.int i) j2 p2, .Constant (.int k) j3 p3, .Constant (.int l) j4 p4] x1 pos) (tTup (tCons (tC (.str u)) (tCons (tC (.int i)) (tCons (tC (.int k)) (tCons (tC (.int l)) tNil))))) := pe_tup (pa_cons pe_str (pa_cons pe_int (pa_cons pe_int (pa_cons pe_int pa_nil))))
theorem RowsA.rep {G : Hp} {q : Addr} {d : FR} (h : RowF G q d) (n : Nat) : RowsA G (List.replicate n q) (List.replicate n d) := by
  refine ⟨by rw [List.length_replicate, List.length_replicate], fun i q' d' g1 g2 => ?_⟩
  rw [List.eq_of_mem_replicate (List.mem_of_getElem? g1), List.eq_of_mem_replicate (List.mem_of_getElem? g2)]
  exact h
section
variable {P : Program} {w : World} {K : PySem.W.Frag} {mg : Str → Option Value} {base : Heap}
def spNest : Sp := fun vs H Q _ => ∃ (lx : Addr) (ms : List Int), vs = [.ref lx] ∧ H lx = some (.lst (ms.map V.int)) ∧ ms.length = 8 ∧ ∀ H', Same H H' → Q (.bl true) H'
theorem scNes : FnScope ["_law_xs", "_law_much", "_law_rows_here", "_law_target", "_law_inner", "_law_outer", "_law_rows_due"] ["_law_xs"] (defScope sNested) := ⟨rfl, rfl, rfl, by decide +kernel, rfl, by decide +kernel, by decide +kernel⟩
theorem ok_nested {f fL : Addr} {fd fdL : FuncData} (F : Fun K "_law_nested" "_law_nested" sNested f fd) (T : Txt K w.params mg) (GL : FnOk P w K mg base CX0 6 fL fdL ["rows"] spLeast) (kL : PySem.W.keepIn K (.ref fL) = true) (bL : Binds K fdL ["rows"] []) (mL : mg "least_layout" = some (.ref fL)) : FnOk P w K mg base CX0 7 f fd ["_law_xs"] spNest := by
  refine F.ok scNes (fun vs H Q E h => ?_) (fun cdv A outer s H vs Q E hr h => ?_)
  · obtain ⟨lx, ms, rfl, _⟩ := h
    rfl
  · obtain ⟨lx, ms, rfl, hx, hms, k⟩ := h
    have hu0 : (A.deeper (PyProof.Rows.envOfC "_law_nested" (defScope sNested) s.heap.objs.size f cdv)).units + 6 < cLine := Nat.lt_of_le_of_lt (Nat.add_le_add_left (by decide : 6 ≤ 64) _) hr.units
    obtain ⟨x5, _, hx5⟩ := at_intsS ms 5 (by decide) (by omega)
    obtain ⟨x6, _, hx6⟩ := at_intsS ms 6 (by decide) (by omega)
    obtain ⟨x7, _, hx7⟩ := at_intsS ms 7 (by decide) (by omega)
    have h5 := modB x5 (show (0 : Int) < 8 by decide)
    have h6 := modB x6 (show (0 : Int) < (60 + x5 % 8) + 1 by omega)
    have h7 := modB x7 (show (0 : Int) < 2 by decide)
    obtain ⟨m, hm⟩ := Int.eq_ofNat_of_zero_le (show 0 ≤ (60 + x5 % 8) by omega)
    obtain ⟨t, ht⟩ := Int.eq_ofNat_of_zero_le (show 0 ≤ (2 + x6 % (60 + x5 % 8 + 1)) by omega)
    refine wrapX (pssx_cons (psx_of (ps_set (i := 1) scNes.nd rfl (Or.inl rfl) (pe_op op_add pe_int (pe_op op_mod (pe_ix ix_list (pv 0) pe_int (fun _ _ => rfl)) pe_int))))
      (pssx_cons (psx_of_i (psi_set (i := 2) scNes.nd rfl (Or.inl rfl) (pei_op op_cat (pei_op op_cat (pei_lst (.cons pk_t4 (.cons pk_t3 .nil))) (pei_op op_rep (pei_lst (.cons pk_t2 .nil)) (pei_of (pv 1)))) (pei_lst (.cons pk_t2 .nil)))))
      (pssx_cons (psx_of (ps_asg (pe_tup (pa_cons pe_str (pa_cons pe_int (pa_cons (pe_op op_add (pv 1) pe_int) (pa_cons pe_int pa_nil))))) (pg_sub (pv 2) pe_int set_list)))
      (pssx_cons (psx_of (ps_set (i := 3) scNes.nd rfl (Or.inl rfl) (pe_op op_add pe_int (pe_op op_mod (pe_ix ix_list (pv 0) pe_int (fun _ _ => rfl)) (pe_op op_add (pv 1) pe_int)))))
      (pssx_cons (psx_of (ps_asg (pe_tup (pa_cons pe_str (pa_cons (pv 3) (pa_cons (pe_op op_mod (pe_ix ix_list (pv 0) pe_int (fun _ _ => rfl)) pe_int) pa_nil)))) (pg_sub (pv 2) pe_int set_list)))
      (pssx_cons (psx_of (ps_set (i := 4) scNes.nd rfl (Or.inl rfl) (pe_callTy call_int1 (by rfl) T.int bt_int (pa_cons (pe_mid (pe_or (pe_cmpR op_gt (pe_op op_sub (pv 3) pe_int) pe_int (nomark _)) (pe_one (pe_cmpR op_eq (pe_op op_mod (pe_ix ix_list (pv 0) pe_int (fun _ _ => rfl)) pe_int) pe_int (nomark _))))) pa_nil))))
      (pssx_cons (psx_of (ps_set (i := 5) scNes.nd rfl (Or.inl rfl) (pe_callTy call_int1 (by rfl) T.int bt_int (pa_cons (pe_cmpR op_gt (pe_op op_add (pe_op op_add (pv 1) pe_int) (pv 4)) pe_int (nomark _)) pa_nil))))
      (pssx_cons (psx_of (ps_set (i := 6) scNes.nd rfl (Or.inl rfl) (pe_op op_cat (pe_lst (pa_cons (pe_tup (pa_cons pe_str (pa_cons pe_int (pa_cons (pe_op op_add (pv 1) pe_int) (pa_cons (pv 5) pa_nil))))) (pa_cons (pe_tup (pa_cons pe_str (pa_cons (pv 3) (pa_cons (pv 4) pa_nil)))) pa_nil))) (pe_slice sl_list (pv 2) (po_some pe_int) po_none))))
      (pssx_one (psx_of (ps_ret (pe_cmpR (op_eqA hu0) (pe_call GL hr (by rfl) mL kL bL .nil pass0 (pa_cons (pv 2) pa_nil)) (pv 6) (nomark _))))))))))))) ?_
    refine ⟨_, rfl, lx, _, 5, .int x5, rfl, rfl, SqL.of hx, hx5, _, _, rfl, rfl, (by show (0 : Int) < 8; decide), _, _, rfl, rfl, ?_⟩
    -- the rows to begin with
    refine ⟨(by show 4 ≤ sizeLine; decide), fun a1 na1 => ?_⟩
    have s1 := same_new (o := .tup [V.str "zero", V.int 1, V.int 0, V.int 0]) na1
    generalize upd H a1 _ = G1 at s1 ⊢
    refine ⟨(by show 3 ≤ sizeLine; decide), fun a2 na2 => ?_⟩
    have s2 := s1.trans (same_new (o := .tup [V.str "jump", V.int 0, V.int 0]) na2)
    generalize upd G1 a2 _ = G2 at s2 ⊢
    refine ⟨(by show 2 ≤ sizeLine; decide), fun l1 nl1 => ?_⟩
    have s3 := s2.trans (same_new (o := .lst [V.ref a1, V.ref a2]) nl1)
    have z1 : upd G2 l1 (.lst [V.ref a1, V.ref a2]) l1 = _ := upd_same
    generalize upd G2 l1 (.lst [V.ref a1, V.ref a2]) = G3 at s3 z1 ⊢
    refine ⟨(by show 2 ≤ sizeLine; decide), fun tt ntt => ?_⟩
    have s4 := s3.trans (same_new (o := .tup [V.str "tell", V.int 2]) ntt)
    have ztt : upd G3 tt (.tup [V.str "tell", V.int 2]) tt = _ := upd_same
    replace z1 := same_new (o := .tup [V.str "tell", V.int 2]) ntt _ _ z1
    generalize upd G3 tt (.tup [V.str "tell", V.int 2]) = G4 at s4 ztt z1 ⊢
    have rt : RowF G4 tt Tl := row_one (by decide) ztt
    refine ⟨(by show 1 ≤ sizeLine; decide), fun l2 nl2 => ?_⟩
    have s5 := s4.trans (same_new (o := .lst [V.ref tt]) nl2)
    have zl2 : upd G4 l2 (.lst [V.ref tt]) l2 = _ := upd_same
    replace rt := rt.same (same_new (o := .lst [V.ref tt]) nl2)
    replace z1 := same_new (o := .lst [V.ref tt]) nl2 _ _ z1
    generalize upd G4 l2 (.lst [V.ref tt]) = G5 at s5 zl2 rt z1 ⊢
    refine ⟨_, rfl, l2, _, _, rfl, rfl, zl2, (by show -(2 ^ 63) ≤ (60 + x5 % 8); omega), (by show (60 + x5 % 8) < 2 ^ 63; omega), (by show 1 * (60 + x5 % 8).toNat ≤ sizeLine; rw [Nat.one_mul]; exact small_len (by omega)), fun l3 nl3 => ?_⟩
    rw [rep_ref, show (60 + x5 % 8).toNat = m by omega]
    have s6 := s5.trans (same_new (o := .lst ((List.replicate m tt).map V.ref)) nl3)
    have zl3 : upd G5 l3 (.lst ((List.replicate m tt).map V.ref)) l3 = _ := upd_same
    replace rt := rt.same (same_new (o := .lst ((List.replicate m tt).map V.ref)) nl3)
    replace z1 := same_new (o := .lst ((List.replicate m tt).map V.ref)) nl3 _ _ z1
    generalize upd G5 l3 (.lst ((List.replicate m tt).map V.ref)) = G6 at s6 zl3 rt z1 ⊢
    refine ⟨l1, l3, _, _, rfl, rfl, z1, zl3, small_len (by rw [List.length_map, List.length_replicate]; show 2 + m ≤ 1000000; omega), fun l4 nl4 => ?_⟩
    have s7 := s6.trans (same_new (o := .lst ([V.ref a1, V.ref a2] ++ (List.replicate m tt).map V.ref)) nl4)
    replace rt := rt.same (same_new (o := .lst ([V.ref a1, V.ref a2] ++ (List.replicate m tt).map V.ref)) nl4)
    have z4 : upd G6 l4 (.lst ([V.ref a1, V.ref a2] ++ (List.replicate m tt).map V.ref)) l4 = _ := upd_same
    generalize upd G6 l4 (.lst ([V.ref a1, V.ref a2] ++ (List.replicate m tt).map V.ref)) = G7 at s7 rt z4 ⊢
    refine ⟨(by show 2 ≤ sizeLine; decide), fun th nth => ?_⟩
    have s8 := s7.trans (same_new (o := .tup [V.str "halt", V.int 1]) nth)
    have zth : upd G7 th (.tup [V.str "halt", V.int 1]) th = _ := upd_same
    replace rt := rt.same (same_new (o := .tup [V.str "halt", V.int 1]) nth)
    replace z4 := same_new (o := .tup [V.str "halt", V.int 1]) nth _ _ z4
    generalize upd G7 th (.tup [V.str "halt", V.int 1]) = G8 at s8 zth rt z4 ⊢
    have rh : RowF G8 th Hl := row_one (by decide) zth
    refine ⟨(by show 1 ≤ sizeLine; decide), fun l5 nl5 => ?_⟩
    have s9 := s8.trans (same_new (o := .lst [V.ref th]) nl5)
    have zl5 : upd G8 l5 (.lst [V.ref th]) l5 = _ := upd_same
    replace rt := rt.same (same_new (o := .lst [V.ref th]) nl5)
    replace rh := rh.same (same_new (o := .lst [V.ref th]) nl5)
    replace z4 := same_new (o := .lst [V.ref th]) nl5 _ _ z4
    generalize upd G8 l5 (.lst [V.ref th]) = G9 at s9 zl5 rt rh z4 ⊢
    refine ⟨l4, l5, _, _, rfl, rfl, z4, zl5, small_len (by rw [List.length_append, List.length_map, List.length_replicate]; show 2 + m + 1 ≤ 1000000; omega), fun l6 nl6 => ?_⟩
    have n6 : H l6 = none := s9.free nl6
    have sa := s9.trans (same_new (o := .lst ([V.ref a1, V.ref a2] ++ (List.replicate m tt).map V.ref ++ [V.ref th])) nl6)
    replace rt := rt.same (same_new (o := .lst ([V.ref a1, V.ref a2] ++ (List.replicate m tt).map V.ref ++ [V.ref th])) nl6)
    replace rh := rh.same (same_new (o := .lst ([V.ref a1, V.ref a2] ++ (List.replicate m tt).map V.ref ++ [V.ref th])) nl6)
    have z6 : upd G9 l6 (.lst ([V.ref a1, V.ref a2] ++ (List.replicate m tt).map V.ref ++ [V.ref th])) l6 = some (.lst (V.ref a1 :: V.ref a2 :: ((List.replicate m tt) ++ [th]).map V.ref)) := by
      rw [upd_same, List.map_append]
      rfl
    generalize upd G9 l6 (.lst ([V.ref a1, V.ref a2] ++ (List.replicate m tt).map V.ref ++ [V.ref th])) = Ga at sa rt rh z6 ⊢
    -- the two jumps
    refine ⟨_, rfl, _, _, rfl, rfl, (by show 4 ≤ sizeLine; decide), fun b1 nb1 => ?_⟩
    have sb := sa.trans (same_new (o := .tup [V.str "zero", V.int 1, V.int ((60 + x5 % 8) + 2), V.int 0]) nb1)
    have zb1 : upd Ga b1 (.tup [V.str "zero", V.int 1, V.int ((60 + x5 % 8) + 2), V.int 0]) b1 = _ := upd_same
    replace rt := rt.same (same_new (o := .tup [V.str "zero", V.int 1, V.int ((60 + x5 % 8) + 2), V.int 0]) nb1)
    replace rh := rh.same (same_new (o := .tup [V.str "zero", V.int 1, V.int ((60 + x5 % 8) + 2), V.int 0]) nb1)
    replace z6 := same_new (o := .tup [V.str "zero", V.int 1, V.int ((60 + x5 % 8) + 2), V.int 0]) nb1 _ _ z6
    generalize upd Ga b1 (.tup [V.str "zero", V.int 1, V.int ((60 + x5 % 8) + 2), V.int 0]) = Gb at sb zb1 rt rh z6 ⊢
    have rz : RowF Gb b1 (z0 m 0) := by
      have := row_zb (by decide) zb1
      rw [hm] at this
      exact this
    have ix0 : ixN (V.ref a1 :: V.ref a2 :: ((List.replicate m tt) ++ [th]).map V.ref).length 0 = some 0 := by
      unfold ixN
      rw [if_pos (by omega), if_pos (by rw [List.length_cons]; omega)]
      rfl
    refine ⟨_, rfl, l6, _, 0, 0, rfl, rfl, z6, ix0, ?_⟩
    rw [show (V.ref a1 :: V.ref a2 :: ((List.replicate m tt) ++ [th]).map V.ref).set 0 (V.ref b1) = V.ref b1 :: V.ref a2 :: ((List.replicate m tt) ++ [th]).map V.ref from rfl]
    have sc : Same H (upd Gb l6 (.lst (V.ref b1 :: V.ref a2 :: ((List.replicate m tt) ++ [th]).map V.ref))) := same_put sb n6
    replace rt := rt.put (o := .lst (V.ref b1 :: V.ref a2 :: ((List.replicate m tt) ++ [th]).map V.ref)) z6
    replace rh := rh.put (o := .lst (V.ref b1 :: V.ref a2 :: ((List.replicate m tt) ++ [th]).map V.ref)) z6
    replace rz := rz.put (o := .lst (V.ref b1 :: V.ref a2 :: ((List.replicate m tt) ++ [th]).map V.ref)) z6
    replace z6 : upd Gb l6 (.lst (V.ref b1 :: V.ref a2 :: ((List.replicate m tt) ++ [th]).map V.ref)) l6 = _ := upd_same
    generalize upd Gb l6 (.lst (V.ref b1 :: V.ref a2 :: ((List.replicate m tt) ++ [th]).map V.ref)) = Gc at sc rt rh rz z6 ⊢
    refine ⟨_, rfl, lx, _, 6, .int x6, rfl, rfl, SqL.of (sc _ _ hx), hx6, _, rfl, _, _, rfl, rfl, _, _, rfl, rfl, (by show (0 : Int) < (60 + x5 % 8) + 1; omega), _, _, rfl, rfl, ?_⟩
    refine ⟨_, rfl, _, rfl, lx, _, 7, .int x7, rfl, rfl, SqL.of (sc _ _ hx), hx7, _, _, rfl, rfl, (by show (0 : Int) < 2; decide), (by show 3 ≤ sizeLine; decide), fun b2 nb2 => ?_⟩
    have sd := sc.trans (same_new (o := .tup [V.str "jump", V.int (2 + x6 % (60 + x5 % 8 + 1)), V.int (x7 % 2)]) nb2)
    have zb2 : upd Gc b2 (.tup [V.str "jump", V.int (2 + x6 % (60 + x5 % 8 + 1)), V.int (x7 % 2)]) b2 = _ := upd_same
    replace rt := rt.same (same_new (o := .tup [V.str "jump", V.int (2 + x6 % (60 + x5 % 8 + 1)), V.int (x7 % 2)]) nb2)
    replace rh := rh.same (same_new (o := .tup [V.str "jump", V.int (2 + x6 % (60 + x5 % 8 + 1)), V.int (x7 % 2)]) nb2)
    replace rz := rz.same (same_new (o := .tup [V.str "jump", V.int (2 + x6 % (60 + x5 % 8 + 1)), V.int (x7 % 2)]) nb2)
    replace z6 := same_new (o := .tup [V.str "jump", V.int (2 + x6 % (60 + x5 % 8 + 1)), V.int (x7 % 2)]) nb2 _ _ z6
    generalize upd Gc b2 (.tup [V.str "jump", V.int (2 + x6 % (60 + x5 % 8 + 1)), V.int (x7 % 2)]) = Gd at sd zb2 rt rh rz z6 ⊢
    have rj : RowF Gd b2 (j1 t (x7 % 2)) := by
      have := row_jcm (by decide) zb2
      rw [ht] at this
      exact this
    have ix1 : ixN (V.ref b1 :: V.ref a2 :: ((List.replicate m tt) ++ [th]).map V.ref).length 1 = some 1 := by
      unfold ixN
      rw [if_pos (by omega), if_pos (by rw [List.length_cons, List.length_cons]; omega)]
      rfl
    refine ⟨_, rfl, l6, _, 1, 1, rfl, rfl, z6, ix1, ?_⟩
    rw [show (V.ref b1 :: V.ref a2 :: ((List.replicate m tt) ++ [th]).map V.ref).set 1 (V.ref b2) = V.ref b1 :: V.ref b2 :: ((List.replicate m tt) ++ [th]).map V.ref from rfl]
    have se : Same H (upd Gd l6 (.lst (V.ref b1 :: V.ref b2 :: ((List.replicate m tt) ++ [th]).map V.ref))) := same_put sd n6
    replace rt := rt.put (o := .lst (V.ref b1 :: V.ref b2 :: ((List.replicate m tt) ++ [th]).map V.ref)) z6
    replace rh := rh.put (o := .lst (V.ref b1 :: V.ref b2 :: ((List.replicate m tt) ++ [th]).map V.ref)) z6
    replace rz := rz.put (o := .lst (V.ref b1 :: V.ref b2 :: ((List.replicate m tt) ++ [th]).map V.ref)) z6
    replace rj := rj.put (o := .lst (V.ref b1 :: V.ref b2 :: ((List.replicate m tt) ++ [th]).map V.ref)) z6
    replace z6 : upd Gd l6 (.lst (V.ref b1 :: V.ref b2 :: ((List.replicate m tt) ++ [th]).map V.ref)) l6 = _ := upd_same
    generalize upd Gd l6 (.lst (V.ref b1 :: V.ref b2 :: ((List.replicate m tt) ++ [th]).map V.ref)) = Ge at se rt rh rz rj z6 ⊢
    -- which of them grow
    refine ⟨fun v G => v = .bl (decide ((63 : Int) < (2 + x6 % (60 + x5 % 8 + 1)) - 2 ∨ x7 % 2 = 1)) ∧ G = Ge, ?_, ?_⟩
    · refine ⟨_, rfl, _, _, rfl, rfl, _, _, rfl, rfl, _, rfl, ?_⟩
      refine ite2 (fun e => ⟨?_, rfl⟩) (fun e => ?_)
      · exact congrArg V.bl (decide_eq_true (.inl (of_decide_eq_true e))).symm
      · refine ⟨_, rfl, lx, _, 7, .int x7, rfl, rfl, SqL.of (se _ _ hx), hx7, _, _, rfl, rfl, (by show (0 : Int) < 2; decide), rfl, ?_, rfl⟩
        refine congrArg V.bl (decide_eq_decide.mpr ⟨fun z => .inr (V.int.inj z), fun z => ?_⟩)
        rcases z with z | z
        · exact absurd (decide_eq_true z) e
        · show V.int (x7 % 2) = V.int 1
          rw [z]
    rintro v G ⟨rfl, hGG⟩
    subst hGG
    refine .inr ⟨_, rfl, ?_⟩
    refine ⟨_, rfl, _, _, rfl, rfl, _, rfl, _, _, rfl, rfl, _, _, rfl, rfl, .inr ⟨_, rfl, ?_⟩⟩
    have hI : ∃ inn : Int, (if decide ((63 : Int) < (2 + x6 % (60 + x5 % 8 + 1)) - 2 ∨ x7 % 2 = 1) = true then (1 : Int) else 0) = inn ∧ inn = if (63 : Int) < (t : Int) - 2 ∨ x7 % 2 = 1 then 1 else 0 := ⟨_, rfl, by rw [ht]; simp only [decide_eq_true_eq]⟩
    obtain ⟨inn, hI1, hI2⟩ := hI
    rw [hI1]
    have hOu : ∃ out : Int, (if decide ((63 : Int) < (60 + x5 % 8) + 1 + inn) = true then (1 : Int) else 0) = out ∧ out = if (63 : Int) < (m : Int) + 1 + inn then 1 else 0 := ⟨_, rfl, by rw [hm]; simp only [decide_eq_true_eq]⟩
    obtain ⟨out, hO1, hO2⟩ := hOu
    rw [hO1]
    -- what is due
    refine ⟨_, rfl, _, _, rfl, rfl, _, rfl, (by show 4 ≤ sizeLine; decide), fun c1 nc1 => ?_⟩
    have sf := se.trans (same_new (o := .tup [V.str "zero", V.int 1, V.int ((60 + x5 % 8) + 2), V.int out]) nc1)
    have zc1 : upd G c1 (.tup [V.str "zero", V.int 1, V.int ((60 + x5 % 8) + 2), V.int out]) c1 = _ := upd_same
    replace rt := rt.same (same_new (o := .tup [V.str "zero", V.int 1, V.int ((60 + x5 % 8) + 2), V.int out]) nc1)
    replace rh := rh.same (same_new (o := .tup [V.str "zero", V.int 1, V.int ((60 + x5 % 8) + 2), V.int out]) nc1)
    replace rz := rz.same (same_new (o := .tup [V.str "zero", V.int 1, V.int ((60 + x5 % 8) + 2), V.int out]) nc1)
    replace rj := rj.same (same_new (o := .tup [V.str "zero", V.int 1, V.int ((60 + x5 % 8) + 2), V.int out]) nc1)
    replace z6 := same_new (o := .tup [V.str "zero", V.int 1, V.int ((60 + x5 % 8) + 2), V.int out]) nc1 _ _ z6
    generalize upd G c1 (.tup [V.str "zero", V.int 1, V.int ((60 + x5 % 8) + 2), V.int out]) = Gf at sf zc1 rt rh rz rj z6 ⊢
    have rz' : RowF Gf c1 (z0 m out) := by
      have := row_zb (by decide) zc1
      rw [hm] at this
      exact this
    refine ⟨_, rfl, _, rfl, (by show 3 ≤ sizeLine; decide), fun c2 nc2 => ?_⟩
    have sg := sf.trans (same_new (o := .tup [V.str "jump", V.int (2 + x6 % (60 + x5 % 8 + 1)), V.int inn]) nc2)
    have zc2 : upd Gf c2 (.tup [V.str "jump", V.int (2 + x6 % (60 + x5 % 8 + 1)), V.int inn]) c2 = _ := upd_same
    replace rt := rt.same (same_new (o := .tup [V.str "jump", V.int (2 + x6 % (60 + x5 % 8 + 1)), V.int inn]) nc2)
    replace rh := rh.same (same_new (o := .tup [V.str "jump", V.int (2 + x6 % (60 + x5 % 8 + 1)), V.int inn]) nc2)
    replace rz := rz.same (same_new (o := .tup [V.str "jump", V.int (2 + x6 % (60 + x5 % 8 + 1)), V.int inn]) nc2)
    replace rj := rj.same (same_new (o := .tup [V.str "jump", V.int (2 + x6 % (60 + x5 % 8 + 1)), V.int inn]) nc2)
    replace rz' := rz'.same (same_new (o := .tup [V.str "jump", V.int (2 + x6 % (60 + x5 % 8 + 1)), V.int inn]) nc2)
    replace z6 := same_new (o := .tup [V.str "jump", V.int (2 + x6 % (60 + x5 % 8 + 1)), V.int inn]) nc2 _ _ z6
    generalize upd Gf c2 (.tup [V.str "jump", V.int (2 + x6 % (60 + x5 % 8 + 1)), V.int inn]) = Gg at sg zc2 rt rh rz rj rz' z6 ⊢
    have rj' : RowF Gg c2 (j1 t inn) := by
      have := row_jcm (by decide) zc2
      rw [ht] at this
      exact this
    refine ⟨(by show 2 ≤ sizeLine; decide), fun l7 nl7 => ?_⟩
    have sh := sg.trans (same_new (o := .lst [V.ref c1, V.ref c2]) nl7)
    have zl7 : upd Gg l7 (.lst [V.ref c1, V.ref c2]) l7 = _ := upd_same
    replace rt := rt.same (same_new (o := .lst [V.ref c1, V.ref c2]) nl7)
    replace rh := rh.same (same_new (o := .lst [V.ref c1, V.ref c2]) nl7)
    replace rz := rz.same (same_new (o := .lst [V.ref c1, V.ref c2]) nl7)
    replace rj := rj.same (same_new (o := .lst [V.ref c1, V.ref c2]) nl7)
    replace rz' := rz'.same (same_new (o := .lst [V.ref c1, V.ref c2]) nl7)
    replace rj' := rj'.same (same_new (o := .lst [V.ref c1, V.ref c2]) nl7)
    replace z6 := same_new (o := .lst [V.ref c1, V.ref c2]) nl7 _ _ z6
    generalize upd Gg l7 (.lst [V.ref c1, V.ref c2]) = Gh at sh zl7 rt rh rz rj rz' rj' z6 ⊢
    refine ⟨_, rfl, 2, rfl, l6, _, rfl, SqL.of z6, fun l8 nl8 => ?_⟩
    rw [cut2]
    have si := sh.trans (same_new (o := .lst (((List.replicate m tt) ++ [th]).map V.ref)) nl8)
    have zl8 : upd Gh l8 (.lst (((List.replicate m tt) ++ [th]).map V.ref)) l8 = _ := upd_same
    replace rt := rt.same (same_new (o := .lst (((List.replicate m tt) ++ [th]).map V.ref)) nl8)
    replace rh := rh.same (same_new (o := .lst (((List.replicate m tt) ++ [th]).map V.ref)) nl8)
    replace rz := rz.same (same_new (o := .lst (((List.replicate m tt) ++ [th]).map V.ref)) nl8)
    replace rj := rj.same (same_new (o := .lst (((List.replicate m tt) ++ [th]).map V.ref)) nl8)
    replace rz' := rz'.same (same_new (o := .lst (((List.replicate m tt) ++ [th]).map V.ref)) nl8)
    replace rj' := rj'.same (same_new (o := .lst (((List.replicate m tt) ++ [th]).map V.ref)) nl8)
    replace z6 := same_new (o := .lst (((List.replicate m tt) ++ [th]).map V.ref)) nl8 _ _ z6
    replace zl7 := same_new (o := .lst (((List.replicate m tt) ++ [th]).map V.ref)) nl8 _ _ zl7
    generalize upd Gh l8 (.lst (((List.replicate m tt) ++ [th]).map V.ref)) = Gi at si zl8 rt rh rz rj rz' rj' z6 zl7 ⊢
    refine ⟨l7, l8, _, _, rfl, rfl, zl7, zl8, small_len (by rw [List.length_map, List.length_append, List.length_replicate]; show 2 + (m + 1) ≤ 1000000; omega), fun l9 nl9 => ?_⟩
    have sj := si.trans (same_new (o := .lst ([V.ref c1, V.ref c2] ++ ((List.replicate m tt) ++ [th]).map V.ref)) nl9)
    have hdue : RowsF (upd Gi l9 (.lst ([V.ref c1, V.ref c2] ++ ((List.replicate m tt) ++ [th]).map V.ref))) l9 (nesD m t out inn m) := by
      have hA : RowsA Gi ([c1] ++ [c2] ++ List.replicate m tt ++ [th]) (nesD m t out inn m) := ((((RowsA.one rz').app (.one rj')).app (.rep rt m)).app (.one rh))
      replace hA := hA.same (same_new (o := .lst ([V.ref c1, V.ref c2] ++ ((List.replicate m tt) ++ [th]).map V.ref)) nl9)
      exact ⟨_, by rw [upd_same]; simp, hA.1, hA.2⟩
    have hrows : RowsF (upd Gi l9 (.lst ([V.ref c1, V.ref c2] ++ ((List.replicate m tt) ++ [th]).map V.ref))) l6 (nesD m t 0 (x7 % 2) m) := by
      have hA : RowsA Gi ([b1] ++ [b2] ++ List.replicate m tt ++ [th]) (nesD m t 0 (x7 % 2) m) := ((((RowsA.one rz).app (.one rj)).app (.rep rt m)).app (.one rh))
      replace hA := hA.same (same_new (o := .lst ([V.ref c1, V.ref c2] ++ ((List.replicate m tt) ++ [th]).map V.ref)) nl9)
      exact ⟨_, by rw [same_new nl9 _ _ z6]; simp, hA.1, hA.2⟩
    generalize upd Gi l9 (.lst ([V.ref c1, V.ref c2] ++ ((List.replicate m tt) ++ [th]).map V.ref)) = Gj at sj hdue hrows ⊢
    have hf01 : x7 % 2 = 0 ∨ x7 % 2 = 1 := by omega
    refine ⟨_, rfl, l6, _, rfl, hrows, nes_good (by omega) (.inl rfl) hf01, by rw [nes_len]; omega, fun lz L Gz tz _ hz hL => ?_⟩
    rw [nes_least (by omega) (by omega) hf01 hI2 hO2 hL] at hz
    refine ⟨_, rfl, 3, lz, l9, _, _, rfl, rfl, hz.da K, (hdue.same tz).da K, rows_nb _, rows_nb _, by decide, ?_⟩
    rw [decide_eq_true rfl]
    exact k _ (sj.trans tz)
/-! ### the law -/
def spLaw : Sp := fun vs H Q _ => ∃ (a : Addr) (ns : List Int), vs = [.ref a] ∧ SqL K H a (ns.map V.int) ∧ ns.length ≤ 63 ∧ ∀ H', Q (.bl true) H'
theorem scLaw : FnScope ["_law_script", "_law_cell", "_law_xs", "_law_units"] ["_law_script"] (defScope sLaw) := ⟨rfl, rfl, rfl, by decide +kernel, rfl, by decide +kernel, by decide +kernel⟩
theorem ok_law {f fS fR fN : Addr} {fd fdS fdR fdN : FuncData} (F : Fun K "law" "law" sLaw f fd) (T : Txt K w.params mg) (GS : FnOk P w K mg base CX0 1 fS fdS ["_law_cell", "_law_many"] spStream) (kS : PySem.W.keepIn K (.ref fS) = true) (bS : Binds K fdS ["_law_cell", "_law_many"] []) (mS : mg "_law_stream" = some (.ref fS)) (GR : FnOk P w K mg base CX0 7 fR fdR ["_law_xs", "_law_units", "_law_onward"] spRightL) (kR : PySem.W.keepIn K (.ref fR) = true) (bR : Binds K fdR ["_law_xs", "_law_units", "_law_onward"] []) (mR : mg "_law_right" = some (.ref fR)) (GN : FnOk P w K mg base CX0 7 fN fdN ["_law_xs"] spNest) (kN : PySem.W.keepIn K (.ref fN) = true) (bN : Binds K fdN ["_law_xs"] []) (mN : mg "_law_nested" = some (.ref fN)) : FnOk P w K mg base CX0 8 f fd ["_law_script"] (spLaw (K := K)) := by
  refine F.ok scLaw (fun vs H Q E h => ?_) (fun cdv A outer s H vs Q E hr h => ?_)
  · obtain ⟨a, ns, rfl, _⟩ := h
    rfl
  · obtain ⟨a, ns, rfl, hS, hn, k⟩ := h
    have hrS : Room 1 (A.deeper (PyProof.Rows.envOfC "law" (defScope sLaw) s.heap.objs.size f cdv)) := hr.mono (by decide)
    refine wrapX (pssx_cons (psx_of (ps_for PassesOwn.never rfl (pi_list (pe_op op_cat (pe_slice sl_list (pv 0) po_none (po_some pe_int)) (pe_lst (pa_cons pe_int pa_nil)))) (pg_name (i := 1) scLaw.nd rfl (Or.inl rfl)) (pss_cons (ps_set (i := 2) scLaw.nd rfl (Or.inl rfl) (pe_call GS hrS (by rfl) mS kS bS .nil pass0 (pa_cons (pv 1) (pa_cons pe_int pa_nil))))
      (pss_cons (ps_set (i := 3) scLaw.nd rfl (Or.inl rfl) (pe_ix ix_list (pe_lst (pa_cons (pe_op op_add pe_int (pe_op op_mod (pe_ix ix_list (pv 2) pe_int (fun _ _ => rfl)) pe_int)) (pa_cons (pe_op op_add pe_int (pe_op op_mod (pe_ix ix_list (pv 2) pe_int (fun _ _ => rfl)) pe_int)) pa_nil))) (pe_op op_mod (pe_ix ix_list (pv 2) pe_int (fun _ _ => rfl)) pe_int) (fun _ _ => rfl)))
      (pss_one (ps_if (pw_or (pt_not (pt_val (pe_call GR hr (by rfl) mR kR bR .nil pass0 (pa_cons (pv 2) (pa_cons (pv 3) (pa_cons pe_bl pa_nil)))))) (pw_or (pt_not (pt_val (pe_call GR hr (by rfl) mR kR bR .nil pass0 (pa_cons (pv 2) (pa_cons (pv 3) (pa_cons pe_bl pa_nil)))))) (pw_or1 (pt_not (pt_val (pe_call GN hr (by rfl) mN kN bN .nil pass0 (pa_cons (pv 2) pa_nil))))))).pt (pss_one (ps_ret pe_bl)) pss_nil))))))
      (pssx_one (psx_of (ps_ret pe_bl)))) ?_
    refine ⟨_, rfl, 20, rfl, a, _, rfl, hS, fun l1 nl1 => ?_⟩
    have ec : cutV (ns.map V.int) none (some 20) = (ns.take 20).map V.int := by rw [show (20 : Int) = ((20 : Nat) : Int) from rfl, cut_take, List.map_take]
    rw [ec]
    have s1 := same_new (o := .lst ((ns.take 20).map V.int)) nl1
    have h1 : upd H l1 (.lst ((ns.take 20).map V.int)) l1 = _ := upd_same
    generalize upd H l1 (.lst ((ns.take 20).map V.int)) = G1 at s1 h1 ⊢
    refine ⟨(by show 1 ≤ sizeLine; decide), fun l2 nl2 => ?_⟩
    have s2 := s1.trans (same_new (o := .lst [V.int 0]) nl2)
    replace h1 := same_new (o := .lst [V.int 0]) nl2 _ _ h1
    have h2 : upd G1 l2 (.lst [V.int 0]) l2 = _ := upd_same
    generalize upd G1 l2 (.lst [V.int 0]) = G2 at s2 h1 h2 ⊢
    refine ⟨l1, l2, _, _, rfl, rfl, h1, h2, small_len (by rw [List.length_map, List.length_take]; show _ + 1 ≤ 1000000; omega), fun l3 nl3 => ?_⟩
    rw [show (ns.take 20).map V.int ++ [V.int 0] = (ns.take 20 ++ [0]).map V.int by rw [List.map_append]; rfl]
    have s3 := s2.trans (same_new (o := .lst ((ns.take 20 ++ [0]).map V.int)) nl3)
    have h3 : upd G2 l3 (.lst ((ns.take 20 ++ [0]).map V.int)) l3 = _ := upd_same
    generalize upd G2 l3 (.lst ((ns.take 20 ++ [0]).map V.int)) = G3 at s3 h3 ⊢
    refine ⟨l3, rfl, ⟨_, SqL.of h3⟩, for_list (K := K) (a := l3) (xs := (ns.take 20 ++ [0]).map V.int) (fun i σ G => (∃ v1 v2 v3 : Option V, σ = [some (.ref a), v1, v2, v3]) ∧ Same G3 G) ?_ ?_ ?_ ?_⟩
    · exact ⟨⟨none, none, none, rfl⟩, .refl _⟩
    · rintro i σ G _ ⟨_, s4⟩
      exact SqL.of (s4 _ _ h3)
    · rintro i x σ G hx ⟨⟨v1, v2, v3, rfl⟩, s4⟩
      rw [List.getElem?_map] at hx
      obtain ⟨c, _, rfl⟩ := Option.map_eq_some_iff.mp hx
      refine ⟨_, rfl, c, 8, rfl, by decide, fun ls ms G4 t4 nls hls hml hpos => ?_⟩
      obtain ⟨x1, _, hx1⟩ := at_intsS ms 1 (by decide) (by omega)
      obtain ⟨x2, _, hx2⟩ := at_intsS ms 2 (by decide) (by omega)
      have m1 := modB x1 (show (0 : Int) < 70 by decide)
      have m2 := modB x1 (show (0 : Int) < 5 by decide)
      have m3 := modB x2 (show (0 : Int) < 2 by decide)
      refine ⟨_, rfl, ls, _, 1, .int x1, rfl, rfl, SqL.of hls, hx1, _, _, rfl, rfl, (by show (0 : Int) < 70; decide), _, _, rfl, rfl, _, rfl, ls, _, 1, .int x1, rfl, rfl, SqL.of hls, hx1, _, _, rfl, rfl, (by show (0 : Int) < 5; decide), _, _, rfl, rfl, (by show 2 ≤ sizeLine; decide), fun lu nlu => ?_⟩
      have t5 := t4.trans (same_new (o := .lst (([1 + x1 % 70, 62 + x1 % 5] : List Int).map V.int)) nlu)
      have hls5 := same_new (o := .lst (([1 + x1 % 70, 62 + x1 % 5] : List Int).map V.int)) nlu _ _ hls
      have zlu : upd G4 lu (.lst (([1 + x1 % 70, 62 + x1 % 5] : List Int).map V.int)) lu = _ := upd_same
      obtain ⟨U, hU, hUat⟩ := at_intsS [1 + x1 % 70, 62 + x1 % 5] (x2 % 2) m3.1 m3.2
      have hUb : 0 ≤ U ∧ U ≤ 100 := by
        simp at hU
        omega
      refine ⟨_, rfl, ls, _, 2, .int x2, rfl, rfl, SqL.of hls5, hx2, _, _, rfl, rfl, (by show (0 : Int) < 2; decide), lu, _, _, .int U, rfl, rfl, SqL.of zlu, hUat, ?_⟩
      refine ⟨_, rfl, _, rfl, ls, ms, U, true, rfl, hls5, hml, hUb.1, hUb.2, fun G6 t6 => ⟨_, rfl, iteN (by decide) ?_⟩⟩
      refine ⟨_, rfl, _, rfl, ls, ms, U, false, rfl, t6 _ _ hls5, hml, hUb.1, hUb.2, fun G7 t7 => ⟨_, rfl, iteN (by decide) ?_⟩⟩
      refine ⟨_, rfl, ls, ms, rfl, t7 _ _ (t6 _ _ hls5), hml, fun G8 t8 => ⟨_, rfl, iteN (by decide) ?_⟩⟩
      exact ⟨⟨_, _, _, rfl⟩, s4.trans (t5.trans (t6.trans (t7.trans t8)))⟩
    · rintro σ G ⟨_, _⟩
      exact k _
end
end My


set_option Elab.async false
set_option linter.all false
set_option maxRecDepth 100000
set_option maxHeartbeats 4000000
namespace My
open PySem L2
abbrev sXI : Stmt := inClass (top 2) 0
section
variable {P : Program} {w : World} {K : PySem.W.Frag} {mg : Str → Option Value} {base : Heap}
theorem scXI : FnScope ["self", "at"] ["self", "at"] (defScope sXI) := ⟨rfl, rfl, rfl, by decide +kernel, rfl, by decide +kernel, by decide +kernel⟩
theorem ok_xi {f C R : Addr} {fd : FuncData} (F : Fun K "__init__" "NoLayout.__init__" sXI f fd) (c : XIni K C R f) (hm : mg "RowError" = some (.ref R)) : FnOk P w K mg base CX0 1 f fd ["self", "at"] (spXI C) := by
  refine F.ok scXI (fun vs H Q E h => ?_) (fun cdv A outer s H vs Q E hr h => ?_)
  · obtain ⟨e, i, rfl, _⟩ := h
    rfl
  · obtain ⟨e, i, rfl, he, hi, k⟩ := h
    refine ⟨_, pss_cons (ps_expr (pe_xini c (by rfl) hm (pa_cons (pv 0) (pa_cons (pe_fstr (pv 1) (by decide)) pa_nil)))) (pss_one (ps_xat c (pv 0) (pv 1) rfl)), ?_⟩
    refine ⟨_, rfl, _, rfl, i, rfl, hi, fun u => ⟨e, _, rfl, he, ?_⟩⟩
    refine ⟨_, rfl, _, rfl, e, rfl, upd_same, fun d nd de => ?_⟩
    rw [upd3 de]
    rw [upd_ne de] at nd
    exact k d nd de
end
end My


set_option Elab.async false
set_option linter.all false
set_option maxRecDepth 100000
set_option maxHeartbeats 8000000
namespace PySem.W.Fast
def tw9045593046928443123 : Nat := 0
def tw5509817963317202647 : Nat := 0
def tw17389461556275200845 : Nat := 0
def tw9452030437211000402 : Nat := 0
def tw5181500701654028190 : Nat := 0
def tw8601416378668232820 : Nat := 0
def tw9851863703897939665 : Nat := 0
def tw11080914702034365597 : Nat := 0
def tw17128286289615393282 : Nat := 0
def tw10539782824824752739 : Nat := 0
def tw4857890925396902807 : Nat := 0
def tw7788810283014932062 : Nat := 0
end PySem.W.Fast
namespace My
open PySem L2
theorem fa_nil {α : Type} {p : α → Prop} : ∀ x ∈ ([] : List α), p x := fun x h => absurd h (by simp)
theorem fa_cons {α : Type} {p : α → Prop} {a : α} {l : List α} (h : p a) (t : ∀ x ∈ l, p x) : ∀ x ∈ a :: l, p x := fun x hx => by
  rcases List.mem_cons.mp hx with rfl | hx
  · exact h
  · exact t x hx
theorem vals_refs : ∀ hs : List Addr, Vals (hs.map V.ref) (hs.map Value.ref)
  | [] => .nil
  | a :: r => .cons (show RelV (.ref a) (.ref a) from rfl) (vals_refs r)
inductive HdAt (K : PySem.W.Frag) (H : Hp) : List Addr → List (Str × Int) → Prop
  | nil : HdAt K H [] []
  | cons {q : Addr} {u : Str} {f : Int} {qs : List Addr} {hs : List (Str × Int)} : SqT K H q [.str u, .int f] → HdAt K H qs hs → HdAt K H (q :: qs) ((u, f) :: hs)
theorem HdAt.len {K : PySem.W.Frag} {H : Hp} : ∀ {qs : List Addr} {hs : List (Str × Int)}, HdAt K H qs hs → qs.length = hs.length
  | _, _, .nil => rfl
  | _, _, .cons _ r => congrArg (· + 1) r.len
theorem HdAt.get {K : PySem.W.Frag} {H : Hp} {qs : List Addr} {hs : List (Str × Int)} (h : HdAt K H qs hs) : ∀ (i : Nat) q x, qs[i]? = some q → hs[i]? = some x → SqT K H q [.str x.1, .int x.2] := by
  induction h with
  | nil => intro i q x h; simp at h
  | cons h0 _ ih =>
    intro i q x h1 h2
    cases i with
    | zero => cases h1; cases h2; exact h0
    | succ i => exact ih i q x (by simpa using h1) (by simpa using h2)
/-! ### what the top has written, and the law's own head -/
theorem all_mk {l : PySem.W.OpenLaw} {w : World} {K : PySem.W.Frag} {h : Heap} {mg : Str → Option Value} {fa f0 f1 f2 f3 f4 f5 f6 f7 f8 f9 f10 f11 f12 f13 f14 f15 f16 f17 f18 f19 f20 f21 f22 f23 f24 f25 f26 f27 f28 : Addr} (X : K.In h) (G : h.Ns mainGlobals mg) (hfa : mg "law" = some (.ref fa))
    {od0 an0 od1 an1 od2 an2 od3 an3 od4 an4 od5 an5 od6 an6 od7 an7 od8 an8 od9 an9 od10 an10 od11 an11 od12 an12 od13 an13 od14 an14 od15 an15 od16 an16 od17 an17 od18 an18 od19 an19 od20 an20 od21 an21 od22 an22 od23 an23 od24 an24 od25 an25 od26 an26 od27 an27 od28 an28 : Option Addr} {sl0 sl1 sl2 sl3 sl4 sl5 sl6 sl7 sl8 sl9 sl10 sl11 sl12 sl13 sl14 sl15 sl16 sl17 sl18 sl19 sl20 sl21 sl22 sl23 sl24 sl25 sl26 sl27 sl28 : Array (Option Value)} {oc0 kV0 dc0 pm0 cd0 ct0 oc1 kV1 dc1 pm1 cd1 ct1 oc2 kV2 dc2 pm2 cd2 ct2 oc3 kV3 dc3 pm3 cd3 ct3 oc4 kV4 dc4 pm4 cd4 ct4 oc5 kV5 dc5 pm5 cd5 ct5 oc6 kV6 dc6 pm6 cd6 ct6 oc7 kV7 dc7 pm7 cd7 ct7 oc8 kV8 dc8 pm8 cd8 ct8 oc9 kV9 dc9 pm9 cd9 ct9 oc10 kV10 dc10 pm10 cd10 ct10 oc11 kV11 dc11 pm11 cd11 ct11 oc12 kV12 dc12 pm12 cd12 ct12 oc13 kV13 dc13 pm13 cd13 ct13 oc14 kV14 dc14 pm14 cd14 ct14 oc15 kV15 dc15 pm15 cd15 ct15 oc16 kV16 dc16 pm16 cd16 ct16 oc17 kV17 dc17 pm17 cd17 ct17 oc18 kV18 dc18 pm18 cd18 ct18 oc19 kV19 dc19 pm19 cd19 ct19 oc20 kV20 dc20 pm20 cd20 ct20 oc21 kV21 dc21 pm21 cd21 ct21 oc22 kV22 dc22 pm22 cd22 ct22 oc23 kV23 dc23 pm23 cd23 ct23 oc24 kV24 dc24 pm24 cd24 ct24 oc25 kV25 dc25 pm25 cd25 ct25 oc26 kV26 dc26 pm26 cd26 ct26 oc27 kV27 dc27 pm27 cd27 ct27 oc28 kV28 dc28 pm28 cd28 ct28 : Value}
    (a0 : PySem.W.nsIn K mainGlobals "targets_of" = some (some (.ref f0))) (l0 : K.lookup f0 = some ⟨oc0, od0, .func (PySem.W.fnOf "targets_of" "targets_of" (defArgs sTargets) (defBody sTargets) (defScope sTargets) .none kV0 dc0 pm0 an0 cd0 ct0), sl0⟩) (c0 : PySem.W.codeIn K cd0 "targets_of" = true) (k0 : PySem.W.keepIn K (.ref f0) = true)
    (a1 : PySem.W.nsIn K mainGlobals "has_far" = some (some (.ref f1))) (l1 : K.lookup f1 = some ⟨oc1, od1, .func (PySem.W.fnOf "has_far" "has_far" (defArgs sHasFar) (defBody sHasFar) (defScope sHasFar) .none kV1 dc1 pm1 an1 cd1 ct1), sl1⟩) (c1 : PySem.W.codeIn K cd1 "has_far" = true) (k1 : PySem.W.keepIn K (.ref f1) = true)
    (a2 : PySem.W.nsIn K mainGlobals "far_of" = some (some (.ref f2))) (l2 : K.lookup f2 = some ⟨oc2, od2, .func (PySem.W.fnOf "far_of" "far_of" (defArgs sFarOf) (defBody sFarOf) (defScope sFarOf) .none kV2 dc2 pm2 an2 cd2 ct2), sl2⟩) (c2 : PySem.W.codeIn K cd2 "far_of" = true) (k2 : PySem.W.keepIn K (.ref f2) = true)
    (a3 : PySem.W.nsIn K mainGlobals "with_far" = some (some (.ref f3))) (l3 : K.lookup f3 = some ⟨oc3, od3, .func (PySem.W.fnOf "with_far" "with_far" (defArgs sWithFar) (defBody sWithFar) (defScope sWithFar) .none kV3 dc3 pm3 an3 cd3 ct3), sl3⟩) (c3 : PySem.W.codeIn K cd3 "with_far" = true) (k3 : PySem.W.keepIn K (.ref f3) = true)
    (a4 : PySem.W.nsIn K mainGlobals "parts_of" = some (some (.ref f4))) (l4 : K.lookup f4 = some ⟨oc4, od4, .func (PySem.W.fnOf "parts_of" "parts_of" (defArgs sPartsOf) (defBody sPartsOf) (defScope sPartsOf) .none kV4 dc4 pm4 an4 cd4 ct4), sl4⟩) (c4 : PySem.W.codeIn K cd4 "parts_of" = true) (k4 : PySem.W.keepIn K (.ref f4) = true)
    (a5 : PySem.W.nsIn K mainGlobals "size_of" = some (some (.ref f5))) (l5 : K.lookup f5 = some ⟨oc5, od5, .func (PySem.W.fnOf "size_of" "size_of" (defArgs sSize) (defBody sSize) (defScope sSize) .none kV5 dc5 pm5 an5 cd5 ct5), sl5⟩) (c5 : PySem.W.codeIn K cd5 "size_of" = true) (k5 : PySem.W.keepIn K (.ref f5) = true)
    (a6 : PySem.W.nsIn K mainGlobals "begins_of" = some (some (.ref f6))) (l6 : K.lookup f6 = some ⟨oc6, od6, .func (PySem.W.fnOf "begins_of" "begins_of" (defArgs sBegins) (defBody sBegins) (defScope sBegins) .none kV6 dc6 pm6 an6 cd6 ct6), sl6⟩) (c6 : PySem.W.codeIn K cd6 "begins_of" = true) (k6 : PySem.W.keepIn K (.ref f6) = true)
    (a7 : PySem.W.nsIn K mainGlobals "distances_of" = some (some (.ref f7))) (l7 : K.lookup f7 = some ⟨oc7, od7, .func (PySem.W.fnOf "distances_of" "distances_of" (defArgs sDists) (defBody sDists) (defScope sDists) .none kV7 dc7 pm7 an7 cd7 ct7), sl7⟩) (c7 : PySem.W.codeIn K cd7 "distances_of" = true) (k7 : PySem.W.keepIn K (.ref f7) = true)
    (a8 : PySem.W.nsIn K mainGlobals "is_short_jump" = some (some (.ref f8))) (l8 : K.lookup f8 = some ⟨oc8, od8, .func (PySem.W.fnOf "is_short_jump" "is_short_jump" (defArgs sShortJ) (defBody sShortJ) (defScope sShortJ) .none kV8 dc8 pm8 an8 cd8 ct8), sl8⟩) (c8 : PySem.W.codeIn K cd8 "is_short_jump" = true) (k8 : PySem.W.keepIn K (.ref f8) = true)
    (a9 : PySem.W.nsIn K mainGlobals "is_borne" = some (some (.ref f9))) (l9 : K.lookup f9 = some ⟨oc9, od9, .func (PySem.W.fnOf "is_borne" "is_borne" (defArgs sBorne) (defBody sBorne) (defScope sBorne) .none kV9 dc9 pm9 an9 cd9 ct9), sl9⟩) (c9 : PySem.W.codeIn K cd9 "is_borne" = true) (k9 : PySem.W.keepIn K (.ref f9) = true)
    (a10 : PySem.W.nsIn K mainGlobals "short_distances" = some (some (.ref f10))) (l10 : K.lookup f10 = some ⟨oc10, od10, .func (PySem.W.fnOf "short_distances" "short_distances" (defArgs sShDist) (defBody sShDist) (defScope sShDist) .none kV10 dc10 pm10 an10 cd10 ct10), sl10⟩) (c10 : PySem.W.codeIn K cd10 "short_distances" = true) (k10 : PySem.W.keepIn K (.ref f10) = true)
    (a11 : PySem.W.nsIn K mainGlobals "check_layout" = some (some (.ref f11))) (l11 : K.lookup f11 = some ⟨oc11, od11, .func (PySem.W.fnOf "check_layout" "check_layout" (defArgs sCheckL) (defBody sCheckL) (defScope sCheckL) .none kV11 dc11 pm11 an11 cd11 ct11), sl11⟩) (c11 : PySem.W.codeIn K cd11 "check_layout" = true) (k11 : PySem.W.keepIn K (.ref f11) = true)
    (a12 : PySem.W.nsIn K mainGlobals "jumps_over" = some (some (.ref f12))) (l12 : K.lookup f12 = some ⟨oc12, od12, .func (PySem.W.fnOf "jumps_over" "jumps_over" (defArgs sJOver) (defBody sJOver) (defScope sJOver) .none kV12 dc12 pm12 an12 cd12 ct12), sl12⟩) (c12 : PySem.W.codeIn K cd12 "jumps_over" = true) (k12 : PySem.W.keepIn K (.ref f12) = true)
    (a13 : PySem.W.nsIn K mainGlobals "one_further" = some (some (.ref f13))) (l13 : K.lookup f13 = some ⟨oc13, od13, .func (PySem.W.fnOf "one_further" "one_further" (defArgs sFurther) (defBody sFurther) (defScope sFurther) .none kV13 dc13 pm13 an13 cd13 ct13), sl13⟩) (c13 : PySem.W.codeIn K cd13 "one_further" = true) (k13 : PySem.W.keepIn K (.ref f13) = true)
    (a14 : PySem.W.nsIn K mainGlobals "jumps_to_lengthen" = some (some (.ref f14))) (l14 : K.lookup f14 = some ⟨oc14, od14, .func (PySem.W.fnOf "jumps_to_lengthen" "jumps_to_lengthen" (defArgs sToLen) (defBody sToLen) (defScope sToLen) .none kV14 dc14 pm14 an14 cd14 ct14), sl14⟩) (c14 : PySem.W.codeIn K cd14 "jumps_to_lengthen" = true) (k14 : PySem.W.keepIn K (.ref f14) = true)
    (a15 : PySem.W.nsIn K mainGlobals "least_layout" = some (some (.ref f15))) (l15 : K.lookup f15 = some ⟨oc15, od15, .func (PySem.W.fnOf "least_layout" "least_layout" (defArgs sLeast) (defBody sLeast) (defScope sLeast) .none kV15 dc15 pm15 an15 cd15 ct15), sl15⟩) (c15 : PySem.W.codeIn K cd15 "least_layout" = true) (k15 : PySem.W.keepIn K (.ref f15) = true)
    (a16 : PySem.W.nsIn K mainGlobals "head_of" = some (some (.ref f16))) (l16 : K.lookup f16 = some ⟨oc16, od16, .func (PySem.W.fnOf "head_of" "head_of" (defArgs sHeadOf) (defBody sHeadOf) (defScope sHeadOf) .none kV16 dc16 pm16 an16 cd16 ct16), sl16⟩) (c16 : PySem.W.codeIn K cd16 "head_of" = true) (k16 : PySem.W.keepIn K (.ref f16) = true)
    (a17 : PySem.W.nsIn K mainGlobals "low_of" = some (some (.ref f17))) (l17 : K.lookup f17 = some ⟨oc17, od17, .func (PySem.W.fnOf "low_of" "low_of" (defArgs sLowOf) (defBody sLowOf) (defScope sLowOf) .none kV17 dc17 pm17 an17 cd17 ct17), sl17⟩) (c17 : PySem.W.codeIn K cd17 "low_of" = true) (k17 : PySem.W.keepIn K (.ref f17) = true)
    (a18 : PySem.W.nsIn K mainGlobals "first_unit" = some (some (.ref f18))) (l18 : K.lookup f18 = some ⟨oc18, od18, .func (PySem.W.fnOf "first_unit" "first_unit" (defArgs sFirstU) (defBody sFirstU) (defScope sFirstU) .none kV18 dc18 pm18 an18 cd18 ct18), sl18⟩) (c18 : PySem.W.codeIn K cd18 "first_unit" = true) (k18 : PySem.W.keepIn K (.ref f18) = true)
    (a19 : PySem.W.nsIn K mainGlobals "other_units" = some (some (.ref f19))) (l19 : K.lookup f19 = some ⟨oc19, od19, .func (PySem.W.fnOf "other_units" "other_units" (defArgs sOtherU) (defBody sOtherU) (defScope sOtherU) .none kV19 dc19 pm19 an19 cd19 ct19), sl19⟩) (c19 : PySem.W.codeIn K cd19 "other_units" = true) (k19 : PySem.W.keepIn K (.ref f19) = true)
    (a20 : PySem.W.nsIn K mainGlobals "units_of" = some (some (.ref f20))) (l20 : K.lookup f20 = some ⟨oc20, od20, .func (PySem.W.fnOf "units_of" "units_of" (defArgs sUnits) (defBody sUnits) (defScope sUnits) .none kV20 dc20 pm20 an20 cd20 ct20), sl20⟩) (c20 : PySem.W.codeIn K cd20 "units_of" = true) (k20 : PySem.W.keepIn K (.ref f20) = true)
    (a21 : PySem.W.nsIn K mainGlobals "_law_stream" = some (some (.ref f21))) (l21 : K.lookup f21 = some ⟨oc21, od21, .func (PySem.W.fnOf "_law_stream" "_law_stream" (defArgs sStream) (defBody sStream) (defScope sStream) .none kV21 dc21 pm21 an21 cd21 ct21), sl21⟩) (c21 : PySem.W.codeIn K cd21 "_law_stream" = true) (k21 : PySem.W.keepIn K (.ref f21) = true)
    (a22 : PySem.W.nsIn K mainGlobals "_law_filled" = some (some (.ref f22))) (l22 : K.lookup f22 = some ⟨oc22, od22, .func (PySem.W.fnOf "_law_filled" "_law_filled" (defArgs sFilled) (defBody sFilled) (defScope sFilled) .none kV22 dc22 pm22 an22 cd22 ct22), sl22⟩) (c22 : PySem.W.codeIn K cd22 "_law_filled" = true) (k22 : PySem.W.keepIn K (.ref f22) = true)
    (a23 : PySem.W.nsIn K mainGlobals "_law_jump" = some (some (.ref f23))) (l23 : K.lookup f23 = some ⟨oc23, od23, .func (PySem.W.fnOf "_law_jump" "_law_jump" (defArgs sJump) (defBody sJump) (defScope sJump) .none kV23 dc23 pm23 an23 cd23 ct23), sl23⟩) (c23 : PySem.W.codeIn K cd23 "_law_jump" = true) (k23 : PySem.W.keepIn K (.ref f23) = true)
    (a24 : PySem.W.nsIn K mainGlobals "_law_rows" = some (some (.ref f24))) (l24 : K.lookup f24 = some ⟨oc24, od24, .func (PySem.W.fnOf "_law_rows" "_law_rows" (defArgs sRowsL) (defBody sRowsL) (defScope sRowsL) .none kV24 dc24 pm24 an24 cd24 ct24), sl24⟩) (c24 : PySem.W.codeIn K cd24 "_law_rows" = true) (k24 : PySem.W.keepIn K (.ref f24) = true)
    (a25 : PySem.W.nsIn K mainGlobals "_law_refused" = some (some (.ref f25))) (l25 : K.lookup f25 = some ⟨oc25, od25, .func (PySem.W.fnOf "_law_refused" "_law_refused" (defArgs sRefused) (defBody sRefused) (defScope sRefused) .none kV25 dc25 pm25 an25 cd25 ct25), sl25⟩) (c25 : PySem.W.codeIn K cd25 "_law_refused" = true) (k25 : PySem.W.keepIn K (.ref f25) = true)
    (a26 : PySem.W.nsIn K mainGlobals "_law_right" = some (some (.ref f26))) (l26 : K.lookup f26 = some ⟨oc26, od26, .func (PySem.W.fnOf "_law_right" "_law_right" (defArgs sRightL) (defBody sRightL) (defScope sRightL) .none kV26 dc26 pm26 an26 cd26 ct26), sl26⟩) (c26 : PySem.W.codeIn K cd26 "_law_right" = true) (k26 : PySem.W.keepIn K (.ref f26) = true)
    (a27 : PySem.W.nsIn K mainGlobals "_law_nested" = some (some (.ref f27))) (l27 : K.lookup f27 = some ⟨oc27, od27, .func (PySem.W.fnOf "_law_nested" "_law_nested" (defArgs sNested) (defBody sNested) (defScope sNested) .none kV27 dc27 pm27 an27 cd27 ct27), sl27⟩) (c27 : PySem.W.codeIn K cd27 "_law_nested" = true) (k27 : PySem.W.keepIn K (.ref f27) = true)
    (a28 : PySem.W.nsIn K mainGlobals "law" = some (some (.ref f28))) (l28 : K.lookup f28 = some ⟨oc28, od28, .func (PySem.W.fnOf "law" "law" (defArgs sLaw) (defBody sLaw) (defScope sLaw) .none kV28 dc28 pm28 an28 cd28 ct28), sl28⟩) (c28 : PySem.W.codeIn K cd28 "law" = true) (k28 : PySem.W.keepIn K (.ref f28) = true)
    {pT0 : Addr} {odT0 : Option Addr} {slT0 : Array (Option Value)} {nT0 : Nat} {t0_0 t0_1 t0_2 t0_3 t0_4 t0_5 : Tok} (aT0 : PySem.W.nsIn K mainGlobals "TWO_UNITS" = some (some (.ref pT0)))
    (lT0 : K.lookup pT0 = some ⟨.type "tuple", odT0, .seq #[.str "set" t0_0, .str "more" t0_1, .str "put" t0_2, .str "take" t0_3, .str "see" t0_4, .str "halt" t0_5] nT0, slT0⟩)
    {pT1 : Addr} {odT1 : Option Addr} {slT1 : Array (Option Value)} {nT1 : Nat} {t1_0 t1_1 t1_2 : Tok} (aT1 : PySem.W.nsIn K mainGlobals "NUMBER_KINDS" = some (some (.ref pT1)))
    (lT1 : K.lookup pT1 = some ⟨.type "tuple", odT1, .seq #[.str "number" t1_0, .str "value" t1_1, .str "aside" t1_2] nT1, slT1⟩)
    (z_len : PySem.W.nsIn K mainGlobals "len" = some none)
    (z_list : PySem.W.nsIn K mainGlobals "list" = some none)
    (z_tuple : PySem.W.nsIn K mainGlobals "tuple" = some none)
    (z_int : PySem.W.nsIn K mainGlobals "int" = some none)
    (z_enumerate : PySem.W.nsIn K mainGlobals "enumerate" = some none)
    (z_range : PySem.W.nsIn K mainGlobals "range" = some none)
    (z_min : PySem.W.nsIn K mainGlobals "min" = some none)
    (z_max : PySem.W.nsIn K mainGlobals "max" = some none)
    (z_zip : PySem.W.nsIn K mainGlobals "zip" = some none)
    {pP : Addr} {esP : Array DictEntry} {nP : Nat} (aP : PySem.W.nsIn K mainGlobals "PARTS" = some (some (.ref pP))) (lP : K.lookup pP = some ⟨.type "dict", none, .dict esP nP, #[]⟩) (kP : PySem.W.KeysLit w.params esP.toList) (oP : (pP == sysModules) = false)
    {qP0 : Addr} {odP0 : Option Addr} {slP0 : Array (Option Value)} {nP0 : Nat} (eP0 : PySem.W.nsIn K pP "stop" = some (some (.ref qP0))) (lP0 : K.lookup qP0 = some ⟨.type "tuple", odP0, .seq #[] nP0, slP0⟩)
    {qP1 : Addr} {odP1 : Option Addr} {slP1 : Array (Option Value)} {nP1 : Nat} (eP1 : PySem.W.nsIn K pP "back" = some (some (.ref qP1))) (lP1 : K.lookup qP1 = some ⟨.type "tuple", odP1, .seq #[] nP1, slP1⟩)
    {qP2 : Addr} {odP2 : Option Addr} {slP2 : Array (Option Value)} {nP2 : Nat} {tP2_0 : Tok} (eP2 : PySem.W.nsIn K pP "halt" = some (some (.ref qP2))) (lP2 : K.lookup qP2 = some ⟨.type "tuple", odP2, .seq #[.str "number" tP2_0] nP2, slP2⟩)
    {qP3 : Addr} {odP3 : Option Addr} {slP3 : Array (Option Value)} {nP3 : Nat} {tP3_0 tP3_1 : Tok} (eP3 : PySem.W.nsIn K pP "set" = some (some (.ref qP3))) (lP3 : K.lookup qP3 = some ⟨.type "tuple", odP3, .seq #[.str "box" tP3_0, .str "value" tP3_1] nP3, slP3⟩)
    {qP4 : Addr} {odP4 : Option Addr} {slP4 : Array (Option Value)} {nP4 : Nat} {tP4_0 tP4_1 : Tok} (eP4 : PySem.W.nsIn K pP "more" = some (some (.ref qP4))) (lP4 : K.lookup qP4 = some ⟨.type "tuple", odP4, .seq #[.str "box" tP4_0, .str "value" tP4_1] nP4, slP4⟩)
    {qP5 : Addr} {odP5 : Option Addr} {slP5 : Array (Option Value)} {nP5 : Nat} {tP5_0 tP5_1 : Tok} (eP5 : PySem.W.nsIn K pP "copy" = some (some (.ref qP5))) (lP5 : K.lookup qP5 = some ⟨.type "tuple", odP5, .seq #[.str "box" tP5_0, .str "box" tP5_1] nP5, slP5⟩)
    {qP6 : Addr} {odP6 : Option Addr} {slP6 : Array (Option Value)} {nP6 : Nat} {tP6_0 tP6_1 : Tok} (eP6 : PySem.W.nsIn K pP "add" = some (some (.ref qP6))) (lP6 : K.lookup qP6 = some ⟨.type "tuple", odP6, .seq #[.str "box" tP6_0, .str "box" tP6_1] nP6, slP6⟩)
    {qP7 : Addr} {odP7 : Option Addr} {slP7 : Array (Option Value)} {nP7 : Nat} {tP7_0 tP7_1 : Tok} (eP7 : PySem.W.nsIn K pP "less" = some (some (.ref qP7))) (lP7 : K.lookup qP7 = some ⟨.type "tuple", odP7, .seq #[.str "box" tP7_0, .str "box" tP7_1] nP7, slP7⟩)
    {qP8 : Addr} {odP8 : Option Addr} {slP8 : Array (Option Value)} {nP8 : Nat} {tP8_0 tP8_1 : Tok} (eP8 : PySem.W.nsIn K pP "load" = some (some (.ref qP8))) (lP8 : K.lookup qP8 = some ⟨.type "tuple", odP8, .seq #[.str "box" tP8_0, .str "box" tP8_1] nP8, slP8⟩)
    {qP9 : Addr} {odP9 : Option Addr} {slP9 : Array (Option Value)} {nP9 : Nat} {tP9_0 tP9_1 : Tok} (eP9 : PySem.W.nsIn K pP "keep" = some (some (.ref qP9))) (lP9 : K.lookup qP9 = some ⟨.type "tuple", odP9, .seq #[.str "box" tP9_0, .str "box" tP9_1] nP9, slP9⟩)
    {qP10 : Addr} {odP10 : Option Addr} {slP10 : Array (Option Value)} {nP10 : Nat} {tP10_0 : Tok} (eP10 : PySem.W.nsIn K pP "tell" = some (some (.ref qP10))) (lP10 : K.lookup qP10 = some ⟨.type "tuple", odP10, .seq #[.str "box" tP10_0] nP10, slP10⟩)
    {qP11 : Addr} {odP11 : Option Addr} {slP11 : Array (Option Value)} {nP11 : Nat} {tP11_0 tP11_1 : Tok} (eP11 : PySem.W.nsIn K pP "see" = some (some (.ref qP11))) (lP11 : K.lookup qP11 = some ⟨.type "tuple", odP11, .seq #[.str "box" tP11_0, .str "number" tP11_1] nP11, slP11⟩)
    {qP12 : Addr} {odP12 : Option Addr} {slP12 : Array (Option Value)} {nP12 : Nat} {tP12_0 tP12_1 : Tok} (eP12 : PySem.W.nsIn K pP "put" = some (some (.ref qP12))) (lP12 : K.lookup qP12 = some ⟨.type "tuple", odP12, .seq #[.str "box" tP12_0, .str "aside" tP12_1] nP12, slP12⟩)
    {qP13 : Addr} {odP13 : Option Addr} {slP13 : Array (Option Value)} {nP13 : Nat} {tP13_0 tP13_1 : Tok} (eP13 : PySem.W.nsIn K pP "take" = some (some (.ref qP13))) (lP13 : K.lookup qP13 = some ⟨.type "tuple", odP13, .seq #[.str "box" tP13_0, .str "aside" tP13_1] nP13, slP13⟩)
    {qP14 : Addr} {odP14 : Option Addr} {slP14 : Array (Option Value)} {nP14 : Nat} {tP14_0 tP14_1 : Tok} (eP14 : PySem.W.nsIn K pP "jump" = some (some (.ref qP14))) (lP14 : K.lookup qP14 = some ⟨.type "tuple", odP14, .seq #[.str "target" tP14_0, .str "far" tP14_1] nP14, slP14⟩)
    {qP15 : Addr} {odP15 : Option Addr} {slP15 : Array (Option Value)} {nP15 : Nat} {tP15_0 tP15_1 tP15_2 : Tok} (eP15 : PySem.W.nsIn K pP "zero" = some (some (.ref qP15))) (lP15 : K.lookup qP15 = some ⟨.type "tuple", odP15, .seq #[.str "box" tP15_0, .str "target" tP15_1, .str "far" tP15_2] nP15, slP15⟩)
    {qP16 : Addr} {odP16 : Option Addr} {slP16 : Array (Option Value)} {nP16 : Nat} {tP16_0 tP16_1 tP16_2 : Tok} (eP16 : PySem.W.nsIn K pP "below" = some (some (.ref qP16))) (lP16 : K.lookup qP16 = some ⟨.type "tuple", odP16, .seq #[.str "box" tP16_0, .str "target" tP16_1, .str "far" tP16_2] nP16, slP16⟩)
    {qP17 : Addr} {odP17 : Option Addr} {slP17 : Array (Option Value)} {nP17 : Nat} {tP17_0 tP17_1 : Tok} (eP17 : PySem.W.nsIn K pP "call" = some (some (.ref qP17))) (lP17 : K.lookup qP17 = some ⟨.type "tuple", odP17, .seq #[.str "target" tP17_0, .str "far" tP17_1] nP17, slP17⟩)
    {qP18 : Addr} {odP18 : Option Addr} {slP18 : Array (Option Value)} {nP18 : Nat} {tP18_0 tP18_1 : Tok} (eP18 : PySem.W.nsIn K pP "mark" = some (some (.ref qP18))) (lP18 : K.lookup qP18 = some ⟨.type "tuple", odP18, .seq #[.str "target" tP18_0, .str "far" tP18_1] nP18, slP18⟩)
    {qP19 : Addr} {odP19 : Option Addr} {slP19 : Array (Option Value)} {nP19 : Nat} {tP19_0 tP19_1 : Tok} (eP19 : PySem.W.nsIn K pP "table" = some (some (.ref qP19))) (lP19 : K.lookup qP19 = some ⟨.type "tuple", odP19, .seq #[.str "box" tP19_0, .str "targets" tP19_1] nP19, slP19⟩)
    {tLS tGS : Tok} (aLS : PySem.W.nsIn K mainGlobals "LEAST_SHORT" = some (some (.int (-64) tLS))) (aGS : PySem.W.nsIn K mainGlobals "GREATEST_SHORT" = some (some (.int 63 tGS)))
    {tMO : Tok} (aMO : PySem.W.nsIn K mainGlobals "MOST_ROWS_OVER" = some (some (.int 64 tMO)))
    {tCODE_STEP : Tok} (aCODE_STEP : PySem.W.nsIn K mainGlobals "CODE_STEP" = some (some (.int 1024 tCODE_STEP)))
    {tBOX_STEP : Tok} (aBOX_STEP : PySem.W.nsIn K mainGlobals "BOX_STEP" = some (some (.int 128 tBOX_STEP)))
    {tSHORT_ADDED : Tok} (aSHORT_ADDED : PySem.W.nsIn K mainGlobals "SHORT_ADDED" = some (some (.int 64 tSHORT_ADDED)))
    {pH h0_ h1_ h2_ h3_ h4_ h5_ h6_ h7_ h8_ h9_ h10_ h11_ h12_ h13_ h14_ h15_ h16_ h17_ h18_ h19_ h20_ h21_ h22_ h23_ h24_ : Addr} {slH : Array (Option Value)} {nH : Nat} (aH : PySem.W.nsIn K mainGlobals "HEADS" = some (some (.ref pH))) (lH : K.lookup pH = some ⟨.type "tuple", none, .seq #[.ref h0_, .ref h1_, .ref h2_, .ref h3_, .ref h4_, .ref h5_, .ref h6_, .ref h7_, .ref h8_, .ref h9_, .ref h10_, .ref h11_, .ref h12_, .ref h13_, .ref h14_, .ref h15_, .ref h16_, .ref h17_, .ref h18_, .ref h19_, .ref h20_, .ref h21_, .ref h22_, .ref h23_, .ref h24_] nH, slH⟩)
    {odH0 : Option Addr} {slH0 : Array (Option Value)} {nH0 : Nat} {tH0 uH0 : Tok} (lH0 : K.lookup h0_ = some ⟨.type "tuple", odH0, .seq #[.str "stop" tH0, .int 0 uH0] nH0, slH0⟩)
    {odH1 : Option Addr} {slH1 : Array (Option Value)} {nH1 : Nat} {tH1 uH1 : Tok} (lH1 : K.lookup h1_ = some ⟨.type "tuple", odH1, .seq #[.str "back" tH1, .int 0 uH1] nH1, slH1⟩)
    {odH2 : Option Addr} {slH2 : Array (Option Value)} {nH2 : Nat} {tH2 uH2 : Tok} (lH2 : K.lookup h2_ = some ⟨.type "tuple", odH2, .seq #[.str "halt" tH2, .int 0 uH2] nH2, slH2⟩)
    {odH3 : Option Addr} {slH3 : Array (Option Value)} {nH3 : Nat} {tH3 uH3 : Tok} (lH3 : K.lookup h3_ = some ⟨.type "tuple", odH3, .seq #[.str "set" tH3, .int 0 uH3] nH3, slH3⟩)
    {odH4 : Option Addr} {slH4 : Array (Option Value)} {nH4 : Nat} {tH4 uH4 : Tok} (lH4 : K.lookup h4_ = some ⟨.type "tuple", odH4, .seq #[.str "more" tH4, .int 0 uH4] nH4, slH4⟩)
    {odH5 : Option Addr} {slH5 : Array (Option Value)} {nH5 : Nat} {tH5 uH5 : Tok} (lH5 : K.lookup h5_ = some ⟨.type "tuple", odH5, .seq #[.str "copy" tH5, .int 0 uH5] nH5, slH5⟩)
    {odH6 : Option Addr} {slH6 : Array (Option Value)} {nH6 : Nat} {tH6 uH6 : Tok} (lH6 : K.lookup h6_ = some ⟨.type "tuple", odH6, .seq #[.str "add" tH6, .int 0 uH6] nH6, slH6⟩)
    {odH7 : Option Addr} {slH7 : Array (Option Value)} {nH7 : Nat} {tH7 uH7 : Tok} (lH7 : K.lookup h7_ = some ⟨.type "tuple", odH7, .seq #[.str "less" tH7, .int 0 uH7] nH7, slH7⟩)
    {odH8 : Option Addr} {slH8 : Array (Option Value)} {nH8 : Nat} {tH8 uH8 : Tok} (lH8 : K.lookup h8_ = some ⟨.type "tuple", odH8, .seq #[.str "load" tH8, .int 0 uH8] nH8, slH8⟩)
    {odH9 : Option Addr} {slH9 : Array (Option Value)} {nH9 : Nat} {tH9 uH9 : Tok} (lH9 : K.lookup h9_ = some ⟨.type "tuple", odH9, .seq #[.str "keep" tH9, .int 0 uH9] nH9, slH9⟩)
    {odH10 : Option Addr} {slH10 : Array (Option Value)} {nH10 : Nat} {tH10 uH10 : Tok} (lH10 : K.lookup h10_ = some ⟨.type "tuple", odH10, .seq #[.str "tell" tH10, .int 0 uH10] nH10, slH10⟩)
    {odH11 : Option Addr} {slH11 : Array (Option Value)} {nH11 : Nat} {tH11 uH11 : Tok} (lH11 : K.lookup h11_ = some ⟨.type "tuple", odH11, .seq #[.str "see" tH11, .int 0 uH11] nH11, slH11⟩)
    {odH12 : Option Addr} {slH12 : Array (Option Value)} {nH12 : Nat} {tH12 uH12 : Tok} (lH12 : K.lookup h12_ = some ⟨.type "tuple", odH12, .seq #[.str "put" tH12, .int 0 uH12] nH12, slH12⟩)
    {odH13 : Option Addr} {slH13 : Array (Option Value)} {nH13 : Nat} {tH13 uH13 : Tok} (lH13 : K.lookup h13_ = some ⟨.type "tuple", odH13, .seq #[.str "take" tH13, .int 0 uH13] nH13, slH13⟩)
    {odH14 : Option Addr} {slH14 : Array (Option Value)} {nH14 : Nat} {tH14 uH14 : Tok} (lH14 : K.lookup h14_ = some ⟨.type "tuple", odH14, .seq #[.str "jump" tH14, .int 0 uH14] nH14, slH14⟩)
    {odH15 : Option Addr} {slH15 : Array (Option Value)} {nH15 : Nat} {tH15 uH15 : Tok} (lH15 : K.lookup h15_ = some ⟨.type "tuple", odH15, .seq #[.str "zero" tH15, .int 0 uH15] nH15, slH15⟩)
    {odH16 : Option Addr} {slH16 : Array (Option Value)} {nH16 : Nat} {tH16 uH16 : Tok} (lH16 : K.lookup h16_ = some ⟨.type "tuple", odH16, .seq #[.str "below" tH16, .int 0 uH16] nH16, slH16⟩)
    {odH17 : Option Addr} {slH17 : Array (Option Value)} {nH17 : Nat} {tH17 uH17 : Tok} (lH17 : K.lookup h17_ = some ⟨.type "tuple", odH17, .seq #[.str "call" tH17, .int 0 uH17] nH17, slH17⟩)
    {odH18 : Option Addr} {slH18 : Array (Option Value)} {nH18 : Nat} {tH18 uH18 : Tok} (lH18 : K.lookup h18_ = some ⟨.type "tuple", odH18, .seq #[.str "mark" tH18, .int 0 uH18] nH18, slH18⟩)
    {odH19 : Option Addr} {slH19 : Array (Option Value)} {nH19 : Nat} {tH19 uH19 : Tok} (lH19 : K.lookup h19_ = some ⟨.type "tuple", odH19, .seq #[.str "table" tH19, .int 0 uH19] nH19, slH19⟩)
    {odH20 : Option Addr} {slH20 : Array (Option Value)} {nH20 : Nat} {tH20 uH20 : Tok} (lH20 : K.lookup h20_ = some ⟨.type "tuple", odH20, .seq #[.str "jump" tH20, .int 1 uH20] nH20, slH20⟩)
    {odH21 : Option Addr} {slH21 : Array (Option Value)} {nH21 : Nat} {tH21 uH21 : Tok} (lH21 : K.lookup h21_ = some ⟨.type "tuple", odH21, .seq #[.str "zero" tH21, .int 1 uH21] nH21, slH21⟩)
    {odH22 : Option Addr} {slH22 : Array (Option Value)} {nH22 : Nat} {tH22 uH22 : Tok} (lH22 : K.lookup h22_ = some ⟨.type "tuple", odH22, .seq #[.str "below" tH22, .int 1 uH22] nH22, slH22⟩)
    {odH23 : Option Addr} {slH23 : Array (Option Value)} {nH23 : Nat} {tH23 uH23 : Tok} (lH23 : K.lookup h23_ = some ⟨.type "tuple", odH23, .seq #[.str "call" tH23, .int 1 uH23] nH23, slH23⟩)
    {odH24 : Option Addr} {slH24 : Array (Option Value)} {nH24 : Nat} {tH24 uH24 : Tok} (lH24 : K.lookup h24_ = some ⟨.type "tuple", odH24, .seq #[.str "mark" tH24, .int 1 uH24] nH24, slH24⟩)
    {cNoLayout : Addr} (xNoLayout : PySem.W.nsIn K mainGlobals "NoLayout" = some (some (.ref cNoLayout)))
    {cRowError : Addr} (xRowError : PySem.W.nsIn K mainGlobals "RowError" = some (some (.ref cRowError)))
    {gI : Addr} {odgI angI : Option Addr} {slgI : Array (Option Value)} {ocgI kVgI dcgI pmgI cdgI ctgI : Value} (agI : PySem.W.findIn K (.ref cNoLayout) "__init__" = some (some (.ref gI))) (igI : PySem.W.typeIn K (.ref gI) = some (.type "function")) (lgI : K.lookup gI = some ⟨ocgI, odgI, .func (PySem.W.fnOf "__init__" "NoLayout.__init__" (defArgs sXI) (defBody sXI) (defScope sXI) .none kVgI dcgI pmgI angI cdgI ctgI), slgI⟩) (cgI : PySem.W.codeIn K cdgI "NoLayout.__init__" = true) (kgI : PySem.W.keepIn K (.ref gI) = true)
    {ddC : Option Addr} {nmC qnC : Str} {bsC subC : List Value} {nsC : Addr} {snC : List Str} {abC : Bool} {colC : Option Bool} {k0C k1C k2C k3C k5C : Option Value} {cdE : ClassData} (xlk : K.lookup cNoLayout = some ⟨.type "type", ddC, .cls ⟨nmC, bsC, .ref cNoLayout :: .ref cRowError :: vmVE, nsC, qnC, true, snC, subC, abC, colC, false⟩, #[k0C, k1C, k2C, k3C, some (.builtin "ValueError.__new__"), k5C]⟩) (xq : PySem.W.excIn K cRowError vmVE "ValueError.__new__" = true) (xrt : PySem.W.mroIn K cRowError (.type "object") = some true) (xsa : PySem.W.findIn K (.ref cNoLayout) "__setattr__" = some (some (.builtin "object.__setattr__"))) (xna : PySem.W.takerIn K cNoLayout "at" = some none) (xnt : PySem.W.findIn K (.ref cNoLayout) "at" = some none) (xhd : PySem.W.hasDictIn K cNoLayout = true) (xga : PySem.W.findIn K (.ref cNoLayout) "__getattribute__" = some (some (.builtin "BaseException.__getattribute__"))) (xgh : PySem.W.findIn K (.ref cNoLayout) "__getattr__" = some none) (xcl : PySem.W.findIn K (.ref cNoLayout) "__class__" = some (some (.builtin "object.__class__"))) (xgt : PySem.W.specialIn K (.builtin "object.__class__") "__get__" = some (some (.builtin "getset_descriptor.__get__"))) (xtk : PySem.W.takesIn K (.builtin "object.__class__") = some true) (xob : PySem.W.mroIn K cNoLayout (.type "object") = some true) (xbx : PySem.W.mroIn K cNoLayout (.type "BaseException") = some true) (xci : PySem.W.clsIn K cNoLayout = some cdE) (xsg : PySem.W.specialIn K (.ref cRowError) "__getattribute__" = some (some (.builtin "type.__getattribute__"))) (xrr : PySem.W.readsIn K cRowError (.type "type") = true) (xfi : PySem.W.findCls K (.ref cRowError) (.type "type") "__init__" = some (.val (.builtin "ValueError.__init__"))) (xkc : PySem.W.keepIn K (.ref cNoLayout) = true) (xexm : PySem.W.exmOne K (.ref cNoLayout) (.ref cRowError) = some true) (xown : PySem.W.kitOne K (.ref cNoLayout) (.ref cNoLayout) = some true) (xval : PySem.W.kitOne K (.ref cNoLayout) (.type "ValueError") = some true)
    (xeq1 : PySem.W.exmOne K (.ref cNoLayout) (.ref cNoLayout) = some true)
    : ∃ fd : FuncData, (∀ (s : Shared) (v : Value), BindsTo s fd ⟨[v], []⟩ [("_law_script", v)]) ∧ ∀ base : Heap, K.In base → base.Ns mainGlobals mg → FnOk l.prog w K mg base CX0 8 fa fd ["_law_script"] (spLaw (K := K)) := by
  have e := hfa.symm.trans (PySem.W.mg_of X G a28)
  cases e
  have F0 := fun_mk (st := sTargets) l0 c0 k0
  have b0 := F0.binds (ps := ["row"]) fun _ _ _ _ _ _ us hl => match us, hl with | [_], _ => rfl
  have m0 := PySem.W.mg_of X G a0
  have F1 := fun_mk (st := sHasFar) l1 c1 k1
  have b1 := F1.binds (ps := ["word"]) fun _ _ _ _ _ _ us hl => match us, hl with | [_], _ => rfl
  have m1 := PySem.W.mg_of X G a1
  have F2 := fun_mk (st := sFarOf) l2 c2 k2
  have b2 := F2.binds (ps := ["row"]) fun _ _ _ _ _ _ us hl => match us, hl with | [_], _ => rfl
  have m2 := PySem.W.mg_of X G a2
  have F3 := fun_mk (st := sWithFar) l3 c3 k3
  have b3 := F3.binds (ps := ["row", "far"]) fun _ _ _ _ _ _ us hl => match us, hl with | [_, _], _ => rfl
  have m3 := PySem.W.mg_of X G a3
  have F4 := fun_mk (st := sPartsOf) l4 c4 k4
  have b4 := F4.binds (ps := ["row", "kinds"]) fun _ _ _ _ _ _ us hl => match us, hl with | [_, _], _ => rfl
  have m4 := PySem.W.mg_of X G a4
  have F5 := fun_mk (st := sSize) l5 c5 k5
  have b5 := F5.binds (ps := ["row"]) fun _ _ _ _ _ _ us hl => match us, hl with | [_], _ => rfl
  have m5 := PySem.W.mg_of X G a5
  have F6 := fun_mk (st := sBegins) l6 c6 k6
  have b6 := F6.binds (ps := ["rows"]) fun _ _ _ _ _ _ us hl => match us, hl with | [_], _ => rfl
  have m6 := PySem.W.mg_of X G a6
  have F7 := fun_mk (st := sDists) l7 c7 k7
  have b7 := F7.binds (ps := ["rows", "begins", "r"]) fun _ _ _ _ _ _ us hl => match us, hl with | [_, _, _], _ => rfl
  have m7 := PySem.W.mg_of X G a7
  have F8 := fun_mk (st := sShortJ) l8 c8 k8
  have b8 := F8.binds (ps := ["row"]) fun _ _ _ _ _ _ us hl => match us, hl with | [_], _ => rfl
  have m8 := PySem.W.mg_of X G a8
  have F9 := fun_mk (st := sBorne) l9 c9 k9
  have b9 := F9.binds (ps := ["distance"]) fun _ _ _ _ _ _ us hl => match us, hl with | [_], _ => rfl
  have m9 := PySem.W.mg_of X G a9
  have F10 := fun_mk (st := sShDist) l10 c10 k10
  have b10 := F10.binds (ps := ["rows"]) fun _ _ _ _ _ _ us hl => match us, hl with | [_], _ => rfl
  have m10 := PySem.W.mg_of X G a10
  have F11 := fun_mk (st := sCheckL) l11 c11 k11
  have b11 := F11.binds (ps := ["rows"]) fun _ _ _ _ _ _ us hl => match us, hl with | [_], _ => rfl
  have m11 := PySem.W.mg_of X G a11
  have F12 := fun_mk (st := sJOver) l12 c12 k12
  have b12 := F12.binds (ps := ["rows", "r", "other"]) fun _ _ _ _ _ _ us hl => match us, hl with | [_, _, _], _ => rfl
  have m12 := PySem.W.mg_of X G a12
  have F13 := fun_mk (st := sFurther) l13 c13 k13
  have b13 := F13.binds (ps := ["distance"]) fun _ _ _ _ _ _ us hl => match us, hl with | [_], _ => rfl
  have m13 := PySem.W.mg_of X G a13
  have F14 := fun_mk (st := sToLen) l14 c14 k14
  have b14 := F14.binds (ps := ["rows"]) fun _ _ _ _ _ _ us hl => match us, hl with | [_], _ => rfl
  have m14 := PySem.W.mg_of X G a14
  have F15 := fun_mk (st := sLeast) l15 c15 k15
  have b15 := F15.binds (ps := ["rows"]) fun _ _ _ _ _ _ us hl => match us, hl with | [_], _ => rfl
  have m15 := PySem.W.mg_of X G a15
  have F16 := fun_mk (st := sHeadOf) l16 c16 k16
  have b16 := F16.binds (ps := ["row"]) fun _ _ _ _ _ _ us hl => match us, hl with | [_], _ => rfl
  have m16 := PySem.W.mg_of X G a16
  have F17 := fun_mk (st := sLowOf) l17 c17 k17
  have b17 := F17.binds (ps := ["row", "distances"]) fun _ _ _ _ _ _ us hl => match us, hl with | [_, _], _ => rfl
  have m17 := PySem.W.mg_of X G a17
  have F18 := fun_mk (st := sFirstU) l18 c18 k18
  have b18 := F18.binds (ps := ["row", "distances"]) fun _ _ _ _ _ _ us hl => match us, hl with | [_, _], _ => rfl
  have m18 := PySem.W.mg_of X G a18
  have F19 := fun_mk (st := sOtherU) l19 c19 k19
  have b19 := F19.binds (ps := ["row", "distances"]) fun _ _ _ _ _ _ us hl => match us, hl with | [_, _], _ => rfl
  have m19 := PySem.W.mg_of X G a19
  have F20 := fun_mk (st := sUnits) l20 c20 k20
  have b20 := F20.binds (ps := ["rows"]) fun _ _ _ _ _ _ us hl => match us, hl with | [_], _ => rfl
  have m20 := PySem.W.mg_of X G a20
  have F21 := fun_mk (st := sStream) l21 c21 k21
  have b21 := F21.binds (ps := ["_law_cell", "_law_many"]) fun _ _ _ _ _ _ us hl => match us, hl with | [_, _], _ => rfl
  have m21 := PySem.W.mg_of X G a21
  have F22 := fun_mk (st := sFilled) l22 c22 k22
  have b22 := F22.binds (ps := ["_law_xs", "_law_units"]) fun _ _ _ _ _ _ us hl => match us, hl with | [_, _], _ => rfl
  have m22 := PySem.W.mg_of X G a22
  have F23 := fun_mk (st := sJump) l23 c23 k23
  have b23 := F23.binds (ps := ["_law_word", "_law_target", "_law_far"]) fun _ _ _ _ _ _ us hl => match us, hl with | [_, _, _], _ => rfl
  have m23 := PySem.W.mg_of X G a23
  have F24 := fun_mk (st := sRowsL) l24 c24 k24
  have b24 := F24.binds (ps := ["_law_xs", "_law_units", "_law_onward"]) fun _ _ _ _ _ _ us hl => match us, hl with | [_, _, _], _ => rfl
  have m24 := PySem.W.mg_of X G a24
  have F25 := fun_mk (st := sRefused) l25 c25 k25
  have b25 := F25.binds (ps := ["_law_rows_here"]) fun _ _ _ _ _ _ us hl => match us, hl with | [_], _ => rfl
  have m25 := PySem.W.mg_of X G a25
  have F26 := fun_mk (st := sRightL) l26 c26 k26
  have b26 := F26.binds (ps := ["_law_xs", "_law_units", "_law_onward"]) fun _ _ _ _ _ _ us hl => match us, hl with | [_, _, _], _ => rfl
  have m26 := PySem.W.mg_of X G a26
  have F27 := fun_mk (st := sNested) l27 c27 k27
  have b27 := F27.binds (ps := ["_law_xs"]) fun _ _ _ _ _ _ us hl => match us, hl with | [_], _ => rfl
  have m27 := PySem.W.mg_of X G a27
  have F28 := fun_mk (st := sLaw) l28 c28 k28
  have T : Txt K w.params mg := ⟨⟨pP, PySem.W.mg_of X G aP, fa_cons ⟨qP0, ⟨esP, nP, lP, kP, oP, _, eP0, rfl⟩, fun H => .inr ⟨_, _, _, lP0, rfl, rfl, (by show 0 ≤ sizeLine; decide), .nil⟩⟩
      (fa_cons ⟨qP1, ⟨esP, nP, lP, kP, oP, _, eP1, rfl⟩, fun H => .inr ⟨_, _, _, lP1, rfl, rfl, (by show 0 ≤ sizeLine; decide), .nil⟩⟩
      (fa_cons ⟨qP2, ⟨esP, nP, lP, kP, oP, _, eP2, rfl⟩, fun H => .inr ⟨_, _, _, lP2, rfl, rfl, (by show 1 ≤ sizeLine; decide), .cons ⟨_, rfl⟩ (.nil)⟩⟩
      (fa_cons ⟨qP3, ⟨esP, nP, lP, kP, oP, _, eP3, rfl⟩, fun H => .inr ⟨_, _, _, lP3, rfl, rfl, (by show 2 ≤ sizeLine; decide), .cons ⟨_, rfl⟩ (.cons ⟨_, rfl⟩ (.nil))⟩⟩
      (fa_cons ⟨qP4, ⟨esP, nP, lP, kP, oP, _, eP4, rfl⟩, fun H => .inr ⟨_, _, _, lP4, rfl, rfl, (by show 2 ≤ sizeLine; decide), .cons ⟨_, rfl⟩ (.cons ⟨_, rfl⟩ (.nil))⟩⟩
      (fa_cons ⟨qP5, ⟨esP, nP, lP, kP, oP, _, eP5, rfl⟩, fun H => .inr ⟨_, _, _, lP5, rfl, rfl, (by show 2 ≤ sizeLine; decide), .cons ⟨_, rfl⟩ (.cons ⟨_, rfl⟩ (.nil))⟩⟩
      (fa_cons ⟨qP6, ⟨esP, nP, lP, kP, oP, _, eP6, rfl⟩, fun H => .inr ⟨_, _, _, lP6, rfl, rfl, (by show 2 ≤ sizeLine; decide), .cons ⟨_, rfl⟩ (.cons ⟨_, rfl⟩ (.nil))⟩⟩
      (fa_cons ⟨qP7, ⟨esP, nP, lP, kP, oP, _, eP7, rfl⟩, fun H => .inr ⟨_, _, _, lP7, rfl, rfl, (by show 2 ≤ sizeLine; decide), .cons ⟨_, rfl⟩ (.cons ⟨_, rfl⟩ (.nil))⟩⟩
      (fa_cons ⟨qP8, ⟨esP, nP, lP, kP, oP, _, eP8, rfl⟩, fun H => .inr ⟨_, _, _, lP8, rfl, rfl, (by show 2 ≤ sizeLine; decide), .cons ⟨_, rfl⟩ (.cons ⟨_, rfl⟩ (.nil))⟩⟩
      (fa_cons ⟨qP9, ⟨esP, nP, lP, kP, oP, _, eP9, rfl⟩, fun H => .inr ⟨_, _, _, lP9, rfl, rfl, (by show 2 ≤ sizeLine; decide), .cons ⟨_, rfl⟩ (.cons ⟨_, rfl⟩ (.nil))⟩⟩
      (fa_cons ⟨qP10, ⟨esP, nP, lP, kP, oP, _, eP10, rfl⟩, fun H => .inr ⟨_, _, _, lP10, rfl, rfl, (by show 1 ≤ sizeLine; decide), .cons ⟨_, rfl⟩ (.nil)⟩⟩
      (fa_cons ⟨qP11, ⟨esP, nP, lP, kP, oP, _, eP11, rfl⟩, fun H => .inr ⟨_, _, _, lP11, rfl, rfl, (by show 2 ≤ sizeLine; decide), .cons ⟨_, rfl⟩ (.cons ⟨_, rfl⟩ (.nil))⟩⟩
      (fa_cons ⟨qP12, ⟨esP, nP, lP, kP, oP, _, eP12, rfl⟩, fun H => .inr ⟨_, _, _, lP12, rfl, rfl, (by show 2 ≤ sizeLine; decide), .cons ⟨_, rfl⟩ (.cons ⟨_, rfl⟩ (.nil))⟩⟩
      (fa_cons ⟨qP13, ⟨esP, nP, lP, kP, oP, _, eP13, rfl⟩, fun H => .inr ⟨_, _, _, lP13, rfl, rfl, (by show 2 ≤ sizeLine; decide), .cons ⟨_, rfl⟩ (.cons ⟨_, rfl⟩ (.nil))⟩⟩
      (fa_cons ⟨qP14, ⟨esP, nP, lP, kP, oP, _, eP14, rfl⟩, fun H => .inr ⟨_, _, _, lP14, rfl, rfl, (by show 2 ≤ sizeLine; decide), .cons ⟨_, rfl⟩ (.cons ⟨_, rfl⟩ (.nil))⟩⟩
      (fa_cons ⟨qP15, ⟨esP, nP, lP, kP, oP, _, eP15, rfl⟩, fun H => .inr ⟨_, _, _, lP15, rfl, rfl, (by show 3 ≤ sizeLine; decide), .cons ⟨_, rfl⟩ (.cons ⟨_, rfl⟩ (.cons ⟨_, rfl⟩ (.nil)))⟩⟩
      (fa_cons ⟨qP16, ⟨esP, nP, lP, kP, oP, _, eP16, rfl⟩, fun H => .inr ⟨_, _, _, lP16, rfl, rfl, (by show 3 ≤ sizeLine; decide), .cons ⟨_, rfl⟩ (.cons ⟨_, rfl⟩ (.cons ⟨_, rfl⟩ (.nil)))⟩⟩
      (fa_cons ⟨qP17, ⟨esP, nP, lP, kP, oP, _, eP17, rfl⟩, fun H => .inr ⟨_, _, _, lP17, rfl, rfl, (by show 2 ≤ sizeLine; decide), .cons ⟨_, rfl⟩ (.cons ⟨_, rfl⟩ (.nil))⟩⟩
      (fa_cons ⟨qP18, ⟨esP, nP, lP, kP, oP, _, eP18, rfl⟩, fun H => .inr ⟨_, _, _, lP18, rfl, rfl, (by show 2 ≤ sizeLine; decide), .cons ⟨_, rfl⟩ (.cons ⟨_, rfl⟩ (.nil))⟩⟩
      (fa_cons ⟨qP19, ⟨esP, nP, lP, kP, oP, _, eP19, rfl⟩, fun H => .inr ⟨_, _, _, lP19, rfl, rfl, (by show 2 ≤ sizeLine; decide), .cons ⟨_, rfl⟩ (.cons ⟨_, rfl⟩ (.nil))⟩⟩
      (fa_nil))))))))))))))))))))⟩,
    ⟨pT0, PySem.W.mg_of X G aT0, fun H => .inr ⟨_, _, _, lT0, rfl, rfl, (by show 6 ≤ sizeLine; decide), .cons ⟨_, rfl⟩ (.cons ⟨_, rfl⟩ (.cons ⟨_, rfl⟩ (.cons ⟨_, rfl⟩ (.cons ⟨_, rfl⟩ (.cons ⟨_, rfl⟩ (.nil))))))⟩⟩, ⟨tLS, PySem.W.mg_of X G aLS⟩, ⟨tGS, PySem.W.mg_of X G aGS⟩, ⟨tCODE_STEP, PySem.W.mg_of X G aCODE_STEP⟩, ⟨tBOX_STEP, PySem.W.mg_of X G aBOX_STEP⟩, ⟨tSHORT_ADDED, PySem.W.mg_of X G aSHORT_ADDED⟩, ⟨pT1, PySem.W.mg_of X G aT1, fun H => .inr ⟨_, _, _, lT1, rfl, rfl, (by show 3 ≤ sizeLine; decide), .cons ⟨_, rfl⟩ (.cons ⟨_, rfl⟩ (.cons ⟨_, rfl⟩ (.nil)))⟩⟩,
    ⟨pH, PySem.W.mg_of X G aH, ⟨_, lH, rfl, rfl⟩, fun H => have hd : HdAt K H [h0_, h1_, h2_, h3_, h4_, h5_, h6_, h7_, h8_, h9_, h10_, h11_, h12_, h13_, h14_, h15_, h16_, h17_, h18_, h19_, h20_, h21_, h22_, h23_, h24_] heads := (.cons (.inr ⟨_, _, _, lH0, rfl, rfl, (by show 2 ≤ sizeLine; decide), .cons ⟨_, rfl⟩ (.cons ⟨_, rfl⟩ .nil)⟩) (.cons (.inr ⟨_, _, _, lH1, rfl, rfl, (by show 2 ≤ sizeLine; decide), .cons ⟨_, rfl⟩ (.cons ⟨_, rfl⟩ .nil)⟩) (.cons (.inr ⟨_, _, _, lH2, rfl, rfl, (by show 2 ≤ sizeLine; decide), .cons ⟨_, rfl⟩ (.cons ⟨_, rfl⟩ .nil)⟩) (.cons (.inr ⟨_, _, _, lH3, rfl, rfl, (by show 2 ≤ sizeLine; decide), .cons ⟨_, rfl⟩ (.cons ⟨_, rfl⟩ .nil)⟩) (.cons (.inr ⟨_, _, _, lH4, rfl, rfl, (by show 2 ≤ sizeLine; decide), .cons ⟨_, rfl⟩ (.cons ⟨_, rfl⟩ .nil)⟩) (.cons (.inr ⟨_, _, _, lH5, rfl, rfl, (by show 2 ≤ sizeLine; decide), .cons ⟨_, rfl⟩ (.cons ⟨_, rfl⟩ .nil)⟩) (.cons (.inr ⟨_, _, _, lH6, rfl, rfl, (by show 2 ≤ sizeLine; decide), .cons ⟨_, rfl⟩ (.cons ⟨_, rfl⟩ .nil)⟩) (.cons (.inr ⟨_, _, _, lH7, rfl, rfl, (by show 2 ≤ sizeLine; decide), .cons ⟨_, rfl⟩ (.cons ⟨_, rfl⟩ .nil)⟩) (.cons (.inr ⟨_, _, _, lH8, rfl, rfl, (by show 2 ≤ sizeLine; decide), .cons ⟨_, rfl⟩ (.cons ⟨_, rfl⟩ .nil)⟩) (.cons (.inr ⟨_, _, _, lH9, rfl, rfl, (by show 2 ≤ sizeLine; decide), .cons ⟨_, rfl⟩ (.cons ⟨_, rfl⟩ .nil)⟩) (.cons (.inr ⟨_, _, _, lH10, rfl, rfl, (by show 2 ≤ sizeLine; decide), .cons ⟨_, rfl⟩ (.cons ⟨_, rfl⟩ .nil)⟩) (.cons (.inr ⟨_, _, _, lH11, rfl, rfl, (by show 2 ≤ sizeLine; decide), .cons ⟨_, rfl⟩ (.cons ⟨_, rfl⟩ .nil)⟩) (.cons (.inr ⟨_, _, _, lH12, rfl, rfl, (by show 2 ≤ sizeLine; decide), .cons ⟨_, rfl⟩ (.cons ⟨_, rfl⟩ .nil)⟩) (.cons (.inr ⟨_, _, _, lH13, rfl, rfl, (by show 2 ≤ sizeLine; decide), .cons ⟨_, rfl⟩ (.cons ⟨_, rfl⟩ .nil)⟩) (.cons (.inr ⟨_, _, _, lH14, rfl, rfl, (by show 2 ≤ sizeLine; decide), .cons ⟨_, rfl⟩ (.cons ⟨_, rfl⟩ .nil)⟩) (.cons (.inr ⟨_, _, _, lH15, rfl, rfl, (by show 2 ≤ sizeLine; decide), .cons ⟨_, rfl⟩ (.cons ⟨_, rfl⟩ .nil)⟩) (.cons (.inr ⟨_, _, _, lH16, rfl, rfl, (by show 2 ≤ sizeLine; decide), .cons ⟨_, rfl⟩ (.cons ⟨_, rfl⟩ .nil)⟩) (.cons (.inr ⟨_, _, _, lH17, rfl, rfl, (by show 2 ≤ sizeLine; decide), .cons ⟨_, rfl⟩ (.cons ⟨_, rfl⟩ .nil)⟩) (.cons (.inr ⟨_, _, _, lH18, rfl, rfl, (by show 2 ≤ sizeLine; decide), .cons ⟨_, rfl⟩ (.cons ⟨_, rfl⟩ .nil)⟩) (.cons (.inr ⟨_, _, _, lH19, rfl, rfl, (by show 2 ≤ sizeLine; decide), .cons ⟨_, rfl⟩ (.cons ⟨_, rfl⟩ .nil)⟩) (.cons (.inr ⟨_, _, _, lH20, rfl, rfl, (by show 2 ≤ sizeLine; decide), .cons ⟨_, rfl⟩ (.cons ⟨_, rfl⟩ .nil)⟩) (.cons (.inr ⟨_, _, _, lH21, rfl, rfl, (by show 2 ≤ sizeLine; decide), .cons ⟨_, rfl⟩ (.cons ⟨_, rfl⟩ .nil)⟩) (.cons (.inr ⟨_, _, _, lH22, rfl, rfl, (by show 2 ≤ sizeLine; decide), .cons ⟨_, rfl⟩ (.cons ⟨_, rfl⟩ .nil)⟩) (.cons (.inr ⟨_, _, _, lH23, rfl, rfl, (by show 2 ≤ sizeLine; decide), .cons ⟨_, rfl⟩ (.cons ⟨_, rfl⟩ .nil)⟩) (.cons (.inr ⟨_, _, _, lH24, rfl, rfl, (by show 2 ≤ sizeLine; decide), .cons ⟨_, rfl⟩ (.cons ⟨_, rfl⟩ .nil)⟩) .nil))))))))))))))))))))))))); ⟨_, .inr ⟨_, _, _, lH, rfl, rfl, (by show 25 ≤ sizeLine; decide), vals_refs [h0_, h1_, h2_, h3_, h4_, h5_, h6_, h7_, h8_, h9_, h10_, h11_, h12_, h13_, h14_, h15_, h16_, h17_, h18_, h19_, h20_, h21_, h22_, h23_, h24_]⟩, hd.len, hd.get⟩⟩, ⟨tMO, PySem.W.mg_of X G aMO⟩, PySem.W.mg_none_of X G z_len, PySem.W.mg_none_of X G z_list, PySem.W.mg_none_of X G z_tuple, PySem.W.mg_none_of X G z_int, PySem.W.mg_none_of X G z_enumerate, PySem.W.mg_none_of X G z_range, PySem.W.mg_none_of X G z_min, PySem.W.mg_none_of X G z_max, PySem.W.mg_none_of X G z_zip⟩
  refine ⟨PySem.W.fnOf "law" "law" (defArgs sLaw) (defBody sLaw) (defScope sLaw) .none kV28 dc28 pm28 an28 cd28 ct28, fun s v => .of_eq rfl, fun base _ _ => ?_⟩
  have FI := fun_mk (st := sXI) lgI cgI kgI
  have bI := FI.binds (ps := ["self", "at"]) fun _ _ _ _ _ _ us hl => match us, hl with | [_, _], _ => rfl
  have CX : XIni K cNoLayout cRowError gI := ⟨⟨_, _, _, _, _, _, _, _, _, _, _, _, _, _, xlk⟩, agI, igI, ⟨xq⟩, xrt, xsa, xna, xnt, xhd, ⟨xga, xgh, xcl, xgt, xtk, xob, xbx, by rw [xci]; rfl⟩, xsg, xrr, xfi⟩
  have mRE := PySem.W.mg_of X G xRowError
  have mNL := PySem.W.mg_of X G xNoLayout
  have GI := ok_xi (P := l.prog) (w := w) (base := base) FI CX mRE
  have GTa := ok_targets (P := l.prog) (w := w) (base := base) F0 T
  have GHf := ok_far (P := l.prog) (w := w) (base := base) F1 T
  have GSz := ok_size (P := l.prog) (w := w) (base := base) F5 T GHf F1.kp b1 m1
  have GBg := ok_begins (P := l.prog) (w := w) (base := base) F6 T GSz F5.kp b5 m5
  have GDs := ok_dists (P := l.prog) (w := w) (base := base) F7 T GTa F0.kp b0 m0
  have GSj := ok_shj (P := l.prog) (w := w) (base := base) F8 T GHf F1.kp b1 m1
  have GBo := ok_borne (P := l.prog) (w := w) (base := base) F9 T
  have GSd := ok_shdist (P := l.prog) (w := w) (base := base) F10 T GBg F6.kp b6 m6 GSj F8.kp b8 m8 GDs F7.kp b7 m7
  have GCk := ok_check (P := l.prog) (w := w) (base := base) F11 T GSd F10.kp b10 m10 GBo F9.kp b9 m9 CX xkc GI bI mNL
  have GSt := ok_stream (P := l.prog) (w := w) (base := base) F21 T
  have GJo := ok_jo (P := l.prog) (w := w) (base := base) F12 T GTa F0.kp b0 m0
  have GOf := ok_of (P := l.prog) (w := w) (base := base) F13 T
  have GWf := ok_wf (P := l.prog) (w := w) (base := base) F3 T GHf F1.kp b1 m1
  have GTl := ok_tolen (P := l.prog) (w := w) (base := base) F14 T GSd F10.kp b10 m10 GBo F9.kp b9 m9 GJo F12.kp b12 m12 GOf F13.kp b13 m13
  have GLl := ok_least (P := l.prog) (w := w) (base := base) F15 T GTl F14.kp b14 m14 GWf F3.kp b3 m3
  have GFo := ok_farof (P := l.prog) (w := w) (base := base) F2 T GHf F1.kp b1 m1
  have GPa := ok_parts (P := l.prog) (w := w) (base := base) F4 T
  have GHd := ok_head (P := l.prog) (w := w) (base := base) F16 T GFo F2.kp b2 m2
  have GLo := ok_low (P := l.prog) (w := w) (base := base) F17 T GSj F8.kp b8 m8 GPa F4.kp b4 m4
  have GFi := ok_first (P := l.prog) (w := w) (base := base) F18 T GPa F4.kp b4 m4 GHd F16.kp b16 m16 GLo F17.kp b17 m17
  have GOt := ok_other (P := l.prog) (w := w) (base := base) F19 T GHf F1.kp b1 m1 GPa F4.kp b4 m4
  have GUn := ok_units (P := l.prog) (w := w) (base := base) F20 T GCk F11.kp b11 m11 GBg F6.kp b6 m6 GDs F7.kp b7 m7 GFi F18.kp b18 m18 GOt F19.kp b19 m19
  have GFl := ok_filled (P := l.prog) (w := w) (base := base) F22 T
  have GJm := ok_jump (P := l.prog) (w := w) (base := base) F23 T
  have GRl := ok_rowsl (P := l.prog) (w := w) (base := base) F24 T GFl F22.kp b22 m22 GJm F23.kp b23 m23
  have GRf := ok_refused (P := l.prog) (w := w) (base := base) F25 T CX mNL xeq1 GCk F11.kp b11 m11
  have GRi := ok_right (P := l.prog) (w := w) (base := base) F26 T GRl F24.kp b24 m24 GRf F25.kp b25 m25 GLl F15.kp b15 m15 GUn F20.kp b20 m20
  have GNe := ok_nested (P := l.prog) (w := w) (base := base) F27 T GLl F15.kp b15 m15
  exact ok_law F28 T GSt F21.kp b21 m21 GRi F26.kp b26 m26 GNe F27.kp b27 m27
theorem walk {l : PySem.W.OpenLaw} {q : Program} {loose : List Str} {XP : (Str → Option Value) → Heap → Prop} {YP : World → Heap → Prop} {d : DefRec} {K : Params → PySem.W.Frag} (hn : l.most = some 63) (hdf : d.params.defaults = [])
    (hY : ∀ (w : World) (h : Heap), YP w h → (K w.params).In h)
    (F : ∀ (w : World) (mg : Str → Option Value) (fa : Addr) (h : Heap), (K w.params).In h → h.Ns mainGlobals mg → mg d.name = some (.ref fa) →
      ∃ fd : FuncData, (∀ (s : Shared) (u : Value), BindsTo s fd ⟨[u], []⟩ [("_law_script", u)]) ∧ ∀ base : Heap, (K w.params).In base → base.Ns mainGlobals mg → FnOk l.prog w (K w.params) mg base CX0 8 fa fd ["_law_script"] (spLaw (K := K w.params))) :
    PySem.W.WalkO q loose XP YP l.row.toRowW d [] (fun f vs => PySem.call f vs) :=
  L2.walk_of (n := 63) (k := 8) (x := "_law_script") (CX := fun _ => CX0) (sp := fun w => spLaw (K := K w.params)) hn (by decide) hdf ⟨rfl, by decide, by decide⟩ hY F (fun _ _ a ns hl _ hS => ⟨a, ns, rfl, hS, hl, fun _ => rfl⟩) fun _ _ _ _ _ z => z
end My
open PySem PySem.W PyProof.Rows
set_option maxRecDepth 100000 in
set_option maxHeartbeats 0 in
theorem PySem.Challenge.cw_widenrows_k16_distances_at_their_bounds_holds : PySem.Challenge.rw_widenrows_k16_distances_at_their_bounds.Holds := by
  w_on; o_law; k_head; (case hw => w_witness2)
  k_fill
  refine My.walk (l := PySem.Challenge.rw_widenrows_k16_distances_at_their_bounds) rfl rfl (fun w h Y => PySem.W.kIn_of Y) ?F
  case F =>
    intro w mg fa h KX G hmg
    refine' My.all_mk KX G hmg ?a0 ?l0 ?c0 ?k0 ?a1 ?l1 ?c1 ?k1 ?a2 ?l2 ?c2 ?k2 ?a3 ?l3 ?c3 ?k3 ?a4 ?l4 ?c4 ?k4 ?a5 ?l5 ?c5 ?k5 ?a6 ?l6 ?c6 ?k6 ?a7 ?l7 ?c7 ?k7 ?a8 ?l8 ?c8 ?k8 ?a9 ?l9 ?c9 ?k9 ?a10 ?l10 ?c10 ?k10 ?a11 ?l11 ?c11 ?k11 ?a12 ?l12 ?c12 ?k12 ?a13 ?l13 ?c13 ?k13 ?a14 ?l14 ?c14 ?k14 ?a15 ?l15 ?c15 ?k15 ?a16 ?l16 ?c16 ?k16 ?a17 ?l17 ?c17 ?k17 ?a18 ?l18 ?c18 ?k18 ?a19 ?l19 ?c19 ?k19 ?a20 ?l20 ?c20 ?k20 ?a21 ?l21 ?c21 ?k21 ?a22 ?l22 ?c22 ?k22 ?a23 ?l23 ?c23 ?k23 ?a24 ?l24 ?c24 ?k24 ?a25 ?l25 ?c25 ?k25 ?a26 ?l26 ?c26 ?k26 ?a27 ?l27 ?c27 ?k27 ?a28 ?l28 ?c28 ?k28 ?aT0 ?lT0 ?aT1 ?lT1 ?z_len ?z_list ?z_tuple ?z_int ?z_enumerate ?z_range ?z_min ?z_max ?z_zip ?aP ?lP ?kP ?oP ?eP0 ?lP0 ?eP1 ?lP1 ?eP2 ?lP2 ?eP3 ?lP3 ?eP4 ?lP4 ?eP5 ?lP5 ?eP6 ?lP6 ?eP7 ?lP7 ?eP8 ?lP8 ?eP9 ?lP9 ?eP10 ?lP10 ?eP11 ?lP11 ?eP12 ?lP12 ?eP13 ?lP13 ?eP14 ?lP14 ?eP15 ?lP15 ?eP16 ?lP16 ?eP17 ?lP17 ?eP18 ?lP18 ?eP19 ?lP19 ?aLS ?aGS ?aMO ?aCODE_STEP ?aBOX_STEP ?aSHORT_ADDED ?aH ?lH ?lH0 ?lH1 ?lH2 ?lH3 ?lH4 ?lH5 ?lH6 ?lH7 ?lH8 ?lH9 ?lH10 ?lH11 ?lH12 ?lH13 ?lH14 ?lH15 ?lH16 ?lH17 ?lH18 ?lH19 ?lH20 ?lH21 ?lH22 ?lH23 ?lH24 ?xNoLayout ?xRowError ?agI ?igI ?lgI ?cgI ?kgI ?xlk ?xq ?xrt ?xsa ?xna ?xnt ?xhd ?xga ?xgh ?xcl ?xgt ?xtk ?xob ?xbx ?xci ?xsg ?xrr ?xfi ?xkc ?xexm ?xown ?xval ?xeq1
    (case a0 => k_is)
    (case l0 => k_is)
    (case c0 => k_is)
    (case k0 => k_is)
    (case a1 => k_is)
    (case l1 => k_is)
    (case c1 => k_is)
    (case k1 => k_is)
    (case a2 => k_is)
    (case l2 => k_is)
    (case c2 => k_is)
    (case k2 => k_is)
    (case a3 => k_is)
    (case l3 => k_is)
    (case c3 => k_is)
    (case k3 => k_is)
    (case a4 => k_is)
    (case l4 => k_is)
    (case c4 => k_is)
    (case k4 => k_is)
    (case a5 => k_is)
    (case l5 => k_is)
    (case c5 => k_is)
    (case k5 => k_is)
    (case a6 => k_is)
    (case l6 => k_is)
    (case c6 => k_is)
    (case k6 => k_is)
    (case a7 => k_is)
    (case l7 => k_is)
    (case c7 => k_is)
    (case k7 => k_is)
    (case a8 => k_is)
    (case l8 => k_is)
    (case c8 => k_is)
    (case k8 => k_is)
    (case a9 => k_is)
    (case l9 => k_is)
    (case c9 => k_is)
    (case k9 => k_is)
    (case a10 => k_is)
    (case l10 => k_is)
    (case c10 => k_is)
    (case k10 => k_is)
    (case a11 => k_is)
    (case l11 => k_is)
    (case c11 => k_is)
    (case k11 => k_is)
    (case a12 => k_is)
    (case l12 => k_is)
    (case c12 => k_is)
    (case k12 => k_is)
    (case a13 => k_is)
    (case l13 => k_is)
    (case c13 => k_is)
    (case k13 => k_is)
    (case a14 => k_is)
    (case l14 => k_is)
    (case c14 => k_is)
    (case k14 => k_is)
    (case a15 => k_is)
    (case l15 => k_is)
    (case c15 => k_is)
    (case k15 => k_is)
    (case a16 => k_is)
    (case l16 => k_is)
    (case c16 => k_is)
    (case k16 => k_is)
    (case a17 => k_is)
    (case l17 => k_is)
    (case c17 => k_is)
    (case k17 => k_is)
    (case a18 => k_is)
    (case l18 => k_is)
    (case c18 => k_is)
    (case k18 => k_is)
    (case a19 => k_is)
    (case l19 => k_is)
    (case c19 => k_is)
    (case k19 => k_is)
    (case a20 => k_is)
    (case l20 => k_is)
    (case c20 => k_is)
    (case k20 => k_is)
    (case a21 => k_is)
    (case l21 => k_is)
    (case c21 => k_is)
    (case k21 => k_is)
    (case a22 => k_is)
    (case l22 => k_is)
    (case c22 => k_is)
    (case k22 => k_is)
    (case a23 => k_is)
    (case l23 => k_is)
    (case c23 => k_is)
    (case k23 => k_is)
    (case a24 => k_is)
    (case l24 => k_is)
    (case c24 => k_is)
    (case k24 => k_is)
    (case a25 => k_is)
    (case l25 => k_is)
    (case c25 => k_is)
    (case k25 => k_is)
    (case a26 => k_is)
    (case l26 => k_is)
    (case c26 => k_is)
    (case k26 => k_is)
    (case a27 => k_is)
    (case l27 => k_is)
    (case c27 => k_is)
    (case k27 => k_is)
    (case a28 => k_is)
    (case l28 => k_is)
    (case c28 => k_is)
    (case k28 => k_is)
    (case aT0 => k_is)
    (case lT0 => k_is)
    (case aT1 => k_is)
    (case lT1 => k_is)
    (case z_len => k_is)
    (case z_list => k_is)
    (case z_tuple => k_is)
    (case z_int => k_is)
    (case z_enumerate => k_is)
    (case z_range => k_is)
    (case z_min => k_is)
    (case z_max => k_is)
    (case z_zip => k_is)
    (case aP => k_is)
    (case lP => k_is)
    (case kP => k_keys)
    (case oP => first | exact rfl | decide | k_is)
    (case eP0 => k_is)
    (case lP0 => k_is)
    (case eP1 => k_is)
    (case lP1 => k_is)
    (case eP2 => k_is)
    (case lP2 => k_is)
    (case eP3 => k_is)
    (case lP3 => k_is)
    (case eP4 => k_is)
    (case lP4 => k_is)
    (case eP5 => k_is)
    (case lP5 => k_is)
    (case eP6 => k_is)
    (case lP6 => k_is)
    (case eP7 => k_is)
    (case lP7 => k_is)
    (case eP8 => k_is)
    (case lP8 => k_is)
    (case eP9 => k_is)
    (case lP9 => k_is)
    (case eP10 => k_is)
    (case lP10 => k_is)
    (case eP11 => k_is)
    (case lP11 => k_is)
    (case eP12 => k_is)
    (case lP12 => k_is)
    (case eP13 => k_is)
    (case lP13 => k_is)
    (case eP14 => k_is)
    (case lP14 => k_is)
    (case eP15 => k_is)
    (case lP15 => k_is)
    (case eP16 => k_is)
    (case lP16 => k_is)
    (case eP17 => k_is)
    (case lP17 => k_is)
    (case eP18 => k_is)
    (case lP18 => k_is)
    (case eP19 => k_is)
    (case lP19 => k_is)
    (case aLS => k_is)
    (case aGS => k_is)
    (case aMO => k_is)
    (case aCODE_STEP => k_is)
    (case aBOX_STEP => k_is)
    (case aSHORT_ADDED => k_is)
    (case aH => k_is)
    (case lH => k_is)
    (case lH0 => k_is)
    (case lH1 => k_is)
    (case lH2 => k_is)
    (case lH3 => k_is)
    (case lH4 => k_is)
    (case lH5 => k_is)
    (case lH6 => k_is)
    (case lH7 => k_is)
    (case lH8 => k_is)
    (case lH9 => k_is)
    (case lH10 => k_is)
    (case lH11 => k_is)
    (case lH12 => k_is)
    (case lH13 => k_is)
    (case lH14 => k_is)
    (case lH15 => k_is)
    (case lH16 => k_is)
    (case lH17 => k_is)
    (case lH18 => k_is)
    (case lH19 => k_is)
    (case lH20 => k_is)
    (case lH21 => k_is)
    (case lH22 => k_is)
    (case lH23 => k_is)
    (case lH24 => k_is)
    (case xNoLayout => k_is)
    (case xRowError => k_is)
    (case agI => k_is)
    (case igI => k_is)
    (case lgI => k_is)
    (case cgI => k_is)
    (case kgI => k_is)
    (case xlk => k_is)
    (case xq => k_exc)
    (case xrt => k_is)
    (case xsa => k_is)
    (case xna => k_is)
    (case xnt => k_is)
    (case xhd => k_is)
    (case xga => k_is)
    (case xgh => k_is)
    (case xcl => k_is)
    (case xgt => k_is)
    (case xtk => k_is)
    (case xob => k_is)
    (case xbx => k_is)
    (case xci => k_is)
    (case xsg => k_is)
    (case xrr => k_is)
    (case xfi => k_is)
    (case xkc => k_is)
    (case xexm => kts_exm)
    (case xown => kit_is)
    (case xval => kit_is)
    (case xeq1 => kts_exm)
#print axioms PySem.Challenge.cw_widenrows_k16_distances_at_their_bounds_holds

