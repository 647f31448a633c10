import PyProof.Rows.All
import Wide.All
import OpenK.AllK
import Wide.FinOn
import Lean
import PyProof.EqAt
import PyProof.EqKinds
import PyProof.TupleCall
import PyProof.NeKinds
import PyProof.ListRange
import KE.KDictSum
import Wide.Seal
import PyProof.EnumIter
import PyProof.EnumFor
import PyProof.EnumMake
import PyProof.EnumStmt
import PyProof.ConsumeWalk
import KE.KPairComp
import PyProof.DictItemsLoops
import KE.KEqDict
import PyProof.AttrMissSeq
import PyProof.CollectWalk
import OpenK.KTop
import PyProof.TupleOps
import PyProof.ListMulRoad
import PyProof.FactsAll.tuple_2
import PyProof.StrBlock2
import PyProof.Rows.SortWalk
import KE.KFind
import PyProof.StationsW
import PyProof.Rows.OwnQ
import OpenK.KOwn
import KE.KTryMore
import PyProof.NsDelKeeps
import PyProof.ExcArgsOwn
import PyProof.ExcAttrAll.ValueError
import PyProof.InstStoreFacts
import PyProof.ExcBaseAll.ValueError
import PyProof.Rows.FStr
import OpenK.KCls
import KE.LcSums
import PyProof.Cells
import PyProof.Rows.TupAdd
import PyProof.ZipIter
import PyProof.TupleIter
import PyProof.WalksMore
import KE.KTurns
import PyProof.FactsAll.tuple_0
import PyProof.FactsAll.tuple_1
import PyProof.FactsAll.tuple_3
import PySem.Challenge.RW_widenrows_k15_units_of_any_kind
set_option Elab.async false
set_option linter.all false
set_option maxRecDepth 100000
/-! THE HAND LAYER, for ints, bools, texts, own classes, LISTS and tuples (index, slices, in, append, pop ..), calls, loops. Paste it whole ahead of your own text; what your proof does not reach may be deleted. -/
namespace L2
open PySem PySem.Spec PyProof.Rows

/-- a key: an int or a str -/
abbrev Key := Sum Int Str
def keyIs : Key → Value → Bool
  | .inl k, v => Value.isInt k v
  | .inr x, v => Value.isStrOf x v
def keyH (w : World) : Key → Int
  | .inl k => hashInt k
  | .inr x => hashStr w x
theorem keyIs_shape : ∀ {k : Key} {v : Value}, keyIs k v = true → (∃ i t, k = Sum.inl i ∧ v = Value.int i t) ∨ (∃ x t, k = Sum.inr x ∧ v = Value.str x t)
  | .inl i, v, h => by
    obtain ⟨t, e⟩ := Value.isInt_shape (k := i) (v := v) h
    exact .inl ⟨i, t, rfl, e⟩
  | .inr x, v, h => by
    obtain ⟨t, e⟩ := Value.isStrOf_shape (x := x) (v := v) h
    exact .inr ⟨x, t, rfl, e⟩
theorem keyIs_int (i : Int) (t : Tok) : keyIs (.inl i) (.int i t) = true := by simp [keyIs, Value.isInt]
theorem keyIs_str (x : Str) (t : Tok) : keyIs (.inr x) (.str x t) = true := by simp [keyIs, Value.isStrOf]
theorem key_ll (a b : Int) : decide ((Sum.inl a : Key) = Sum.inl b) = (a == b) := by
  by_cases e : a = b
  · subst e; simp
  · have h : ¬ (Sum.inl a : Key) = Sum.inl b := fun q => e (Sum.inl.inj q)
    rw [decide_eq_false h]
    exact (beq_eq_false_iff_ne.mpr e).symm
theorem key_rr (a b : Str) : decide ((Sum.inr a : Key) = Sum.inr b) = decide (a = b) := by
  by_cases e : a = b
  · subst e; simp
  · have h : ¬ (Sum.inr a : Key) = Sum.inr b := fun q => e (Sum.inr.inj q)
    rw [decide_eq_false h, decide_eq_false e]
theorem key_lr (a : Int) (b : Str) : decide ((Sum.inl a : Key) = Sum.inr b) = false := decide_eq_false (fun q => nomatch q)
theorem key_rl (a : Str) (b : Int) : decide ((Sum.inr a : Key) = Sum.inl b) = false := decide_eq_false (fun q => nomatch q)

def mixKind (prog : Program) (w : World) : PySem.KeyKind prog w Key where
  is := keyIs
  hash := keyH w
  inj := fun v a b ha hb => by
    rcases keyIs_shape ha with ⟨i, t, rfl, rfl⟩ | ⟨x, t, rfl, rfl⟩
    · rcases keyIs_shape hb with ⟨j, u, rfl, e⟩ | ⟨y, u, rfl, e⟩
      · injection e with e1 _; rw [e1]
      · exact nomatch e
    · rcases keyIs_shape hb with ⟨j, u, rfl, e⟩ | ⟨y, u, rfl, e⟩
      · exact nomatch e
      · injection e with e1 _; rw [e1]
  byValue := fun k v h => by
    rcases keyIs_shape h with ⟨i, t, rfl, rfl⟩ | ⟨x, t, rfl, rfl⟩ <;> rfl
  pyHash := fun hv h => by
    rcases keyIs_shape hv with ⟨i, t, rfl, rfl⟩ | ⟨x, t, rfl, rfl⟩
    · exact wpAny_pyHash_int h
    · exact wpAny_pyHash_str h
  eqBool := fun hu hv h => by
    rcases keyIs_shape hu with ⟨i, t, rfl, rfl⟩ | ⟨x, t, rfl, rfl⟩
    · rcases keyIs_shape hv with ⟨j, u, rfl, rfl⟩ | ⟨y, u, rfl, rfl⟩
      · rw [key_ll] at h; exact wpAny_eqBool_int h
      · rw [key_lr] at h; exact SeqAt.EqAt.int_str i t y u _ _ _ _ h
    · rcases keyIs_shape hv with ⟨j, u, rfl, rfl⟩ | ⟨y, u, rfl, rfl⟩
      · rw [key_rl] at h; exact SeqAt.EqAt.str_int x t j u _ _ _ _ h
      · rw [key_rr] at h; exact wpAny_eqBool_str h
  «strs» := fun k x t v h => by
    rcases keyIs_shape h with ⟨i, u, rfl, e⟩ | ⟨y, u, rfl, e⟩
    · exact nomatch e
    · injection e with e1 _
      subst e1
      cases v <;> rfl

theorem mixKind_int (prog : Program) (w : World) (i : Int) (t : Tok) : (mixKind prog w).is (.inl i) (.int i t) = true := keyIs_int i t
theorem mixKind_str (prog : Program) (w : World) (x : Str) (t : Tok) : (mixKind prog w).is (.inr x) (.str x t) = true := keyIs_str x t
end L2

namespace L2
open PySem PySem.Spec PyProof.Rows

/-- a value, without the heap -/
inductive V where
  | non | bl (b : Bool) | int (i : Int) | str (x : Str) | byt (b : Array UInt8) | flt (b : UInt64) | ref (a : Addr) | ty (n : String)
  deriving DecidableEq

def RelV : V → Value → Prop
  | .non, u => u = Value.none
  | .bl b, u => u = Value.bool b
  | .int i, u => ∃ t, u = Value.int i t
  | .str x, u => ∃ t, u = Value.str x t
  | .byt b, u => ∃ t, u = Value.bytes b t
  | .flt b, u => ∃ t, u = Value.float b t
  | .ref a, u => u = Value.ref a
  | .ty n, u => u = Value.type n

abbrev Vals : List V → List Value → Prop := Paired RelV
theorem Vals.length {xs : List V} {us : List Value} (r : Vals xs us) : xs.length = us.length := Paired.length r
theorem Vals.get : ∀ {xs : List V} {us : List Value} {i : Nat} {x : V}, Vals xs us → xs[i]? = some x → ∃ u, us[i]? = some u ∧ RelV x u
  | _, _, _, _, .nil, e => by simp at e
  | _, _, 0, _, .cons r _, e => by simp at e; subst e; exact ⟨_, rfl, r⟩
  | _, _, i + 1, x, .cons _ t, e => by
    obtain ⟨u, h1, h2⟩ := Vals.get (i := i) (x := x) t (by simpa using e)
    exact ⟨u, by simpa using h1, h2⟩
theorem Vals.append : ∀ {xs ys : List V} {us ws : List Value}, Vals xs us → Vals ys ws → Vals (xs ++ ys) (us ++ ws)
  | _, _, _, _, .nil, s => s
  | _, _, _, _, .cons r t, s => .cons r (Vals.append t s)
theorem Vals.take : ∀ {xs : List V} {us : List Value} (n : Nat), Vals xs us → Vals (xs.take n) (us.take n)
  | _, _, 0, _ => .nil
  | _, _, _ + 1, .nil => .nil
  | _, _, n + 1, .cons r t => .cons r (Vals.take n t)
theorem Vals.drop : ∀ {xs : List V} {us : List Value} (n : Nat), Vals xs us → Vals (xs.drop n) (us.drop n)
  | _, _, 0, r => r
  | _, _, _ + 1, .nil => .nil
  | _, _, n + 1, .cons _ t => Vals.drop n t

def RelO : Option V → Option Value → Prop
  | some v, some u => RelV v u
  | none, none => True
  | _, _ => False
def KV {κ : Type} : List (κ × V) → List (κ × Value) → Prop := Paired fun (p : κ × V) (q : κ × Value) => p.1 = q.1 ∧ RelV p.2 q.2

/-- a key of a dict (00_mix): an int or a text -/
def kV : Key → V
  | .inl i => .int i
  | .inr x => .str x

/-- what stands at a tracked address -/
inductive HO where
  /-- a list -/
  | lst (xs : List V)
  /-- a tuple (never changes) -/
  | tup (xs : List V)
  /-- a dict whose keys are ints and texts; one whose keys are tuples of ints and texts (the empty one is both) -/
  | dK (kvs : List (Key × V)) | dT (kvs : List (List Key × V))
  /-- a set of ints: its members, its size -/
  | set (S : Int → Bool) (n : Nat)
  /-- an instance of the class at C, its dict at dx, its attributes -/
  | ins (C dx : Addr) (fs : List (Str × V))
  /-- the dict of the instance at x -/
  | own (x : Addr)
  /-- the dict of an exception -/
  | xd (fs : List (Str × V))
  /-- a bound method, f of x -/
  | met (f x : Addr)
  /-- a range object lo, lo + 1, .. below hi -/
  | rng (lo hi : Int)
  /-- a thing that is known to the object (the script; a dict while a loop walks it): read, never written while it is so -/
  | frz (o : Obj) (u : HO)
  /-- a code object's table -/
  | tbl (ps : Array Value)
  /-- any other thing, by what is true of its one object (a def of one's own: SetO a S n := HO.ext fun h => ..) -/
  | ext (φ : Heap → Prop)

abbrev Hp := Addr → Option HO
def upd (H : Hp) (a : Addr) (o : HO) : Hp := fun b => if b = a then some o else H b
theorem upd_same {H : Hp} {a : Addr} {o : HO} : upd H a o a = some o := by unfold upd; rw [if_pos rfl]
theorem upd_ne {H : Hp} {a b : Addr} {o : HO} (h : b ≠ a) : upd H a o b = H b := by unfold upd; rw [if_neg h]
/-- two objects of different content stand apart -/
theorem ne_of {H : Hp} {a b : Addr} {o u : HO} (h : H a = some o) (h' : H b = some u) (d : o ≠ u) : a ≠ b := by
  intro e; subst e; rw [h] at h'; exact d (Option.some.inj h')
theorem ne_of_none {H : Hp} {a b : Addr} {o : HO} (h : H a = some o) (h' : H b = none) : a ≠ b := by
  intro e; subst e; rw [h] at h'; cases h'

section
variable (P : Program) (w : World)
def ObjOk (H : Hp) (h : Heap) (a : Addr) : HO → Prop
  | .lst xs => xs.length ≤ sizeLine ∧ ∃ (its : List Value) (n : Nat), Vals xs its ∧ h.get? a = some { cls := .type "list", data := .seq its.toArray n }
  | .tup xs => xs.length ≤ sizeLine ∧ ∃ its : List Value, Vals xs its ∧ IsTup h a its.toArray
  | .dK kvs => kvs.length ≤ sizeLine ∧ (a == sysModules) = false ∧ ∃ vs, KV kvs vs ∧ h.DictOf (mixKind P w) a vs
  | .dT kvs => kvs.length ≤ sizeLine ∧ (a == sysModules) = false ∧ ∃ xs : List (List Key × Addr × Value),
      Paired (fun (p : List Key × V) (q : List Key × Addr × Value) => p.1 = q.1 ∧ H q.2.1 = some (.tup (p.1.map kV)) ∧ RelV p.2 q.2.2) kvs xs ∧
      ∃ o es ep, h.get? a = some o ∧ o.ExactDict ∧ o.data = .dict es ep ∧ es.toList = xs.map (entryOfKey (tupleKind (mixKind P w))) ∧ (xs.map (·.1)).Nodup
  | .set S n => h.SetOf (intKind P w) a S n
  | .ins C dx fs => H dx = some (.own a) ∧ fs.length ≤ 1000 ∧ dx ≠ a ∧ h.get? a = some (PySem.W.instObj C dx) ∧
      ∃ mA, h.Ns1 dx mA ∧ (∀ f, RelO (fs.lookup f) (mA f)) ∧ PySem.Within mA (fs.map (·.1))
  | .own _ => ∃ o, h.get? a = some o
  | .xd fs => ∃ mA, h.Ns1 a mA ∧ ∀ f, RelO (fs.lookup f) (mA f)
  | .rng lo hi => ∃ t u v, h.get? a = some { cls := .type "range", data := .fields #[.int lo t, .int hi u, .int 1 v] }
  | .frz o u => h.get? a = some o ∧ ObjOk H h a u
  | .tbl ps => h.get? a = some { cls := .none, data := .fields ps }
  | .met f x => h.get? a = some (PySem.W.methodObj (.ref f) (.ref x))
  | .ext φ => φ h ∧ (∃ o, h.get? a = some o) ∧ ∀ h1 h2 : Heap, φ h1 → (∀ o, h1.get? a = some o → h2.get? a = some o) → φ h2
/-- the abstract heap is held -/
def HOk (H : Hp) (h : Heap) : Prop := ∀ a o, H a = some o → ObjOk P w H h a o
end

section
variable {P : Program} {w : World} {H H' : Hp} {h h' : Heap} {a : Addr} {o : HO}
theorem ObjOk.lt (x : ObjOk P w H h a o) : a < h.objs.size := by
  cases o with
  | lst xs => obtain ⟨_, _, _, _, e⟩ := x; exact Heap.lt_size e
  | tup xs => obtain ⟨_, _, _, p⟩ := x; exact p.lt
  | dK kvs => obtain ⟨_, _, _, _, o, _, _, e, _⟩ := x; exact Heap.lt_size e
  | dT kvs => obtain ⟨_, _, _, _, o, _, _, e, _⟩ := x; exact Heap.lt_size e
  | set S n => obtain ⟨o, _, _, _, e, _⟩ := x; exact Heap.lt_size e
  | ins C dx fs => obtain ⟨_, _, _, e, _⟩ := x; exact Heap.lt_size e
  | own y => obtain ⟨_, e⟩ := x; exact Heap.lt_size e
  | xd fs => obtain ⟨_, ⟨_, _, _, e, _⟩, _⟩ := x; exact Heap.lt_size e
  | rng lo hi => obtain ⟨_, _, _, e⟩ := x; exact Heap.lt_size e
  | frz ob u => obtain ⟨e, _⟩ := x; exact Heap.lt_size e
  | tbl ps => exact Heap.lt_size (show h.get? a = some _ from x)
  | met f y => exact Heap.lt_size (show h.get? a = some _ from x)
  | ext φ => obtain ⟨_, ⟨_, e⟩, _⟩ := x; exact Heap.lt_size e
theorem Paired.mapP {α β : Type} {F G : α → β → Prop} : ∀ {l₁ : List α} {l₂ : List β}, Paired F l₁ l₂ → (∀ a b, F a b → G a b) → Paired G l₁ l₂
  | _, _, .nil, _ => .nil
  | _, _, .cons r t, f => .cons (f _ _ r) (Paired.mapP t f)
/-- what an object's description leans on: its own object, its own dict, the tuples -/
theorem ObjOk.stay (x : ObjOk P w H h a o) (k : ∀ b u, (b = a ∨ H b = some (.own a)) → h.get? b = some u → h'.get? b = some u)
    (ho : ∀ b, H b = some (.own a) → H' b = some (.own a)) (ht : ∀ b xs, H b = some (.tup xs) → H' b = some (.tup xs)) : ObjOk P w H' h' a o := by
  induction o with
  | lst xs => obtain ⟨z, its, n, r, e⟩ := x; exact ⟨z, its, n, r, k _ _ (.inl rfl) e⟩
  | tup xs => obtain ⟨z, its, r, ob, e, c⟩ := x; exact ⟨z, its, r, ob, k _ _ (.inl rfl) e, c⟩
  | dK kvs => obtain ⟨z, y, vs, r, ob, es, ep, e, c⟩ := x; exact ⟨z, y, vs, r, ob, es, ep, k _ _ (.inl rfl) e, c⟩
  | dT kvs =>
    obtain ⟨z, y, xs, r, ob, es, ep, e, c⟩ := x
    exact ⟨z, y, xs, Paired.mapP r fun p q z => ⟨z.1, ht _ _ z.2.1, z.2.2⟩, ob, es, ep, k _ _ (.inl rfl) e, c⟩
  | set S n => obtain ⟨ob, es, ep, t, e, c⟩ := x; exact ⟨ob, es, ep, t, k _ _ (.inl rfl) e, c⟩
  | ins C dx fs =>
    obtain ⟨d, z, ne, e, mA, ⟨od, es, ep, e2, c⟩, r⟩ := x
    exact ⟨ho _ d, z, ne, k _ _ (.inl rfl) e, mA, ⟨od, es, ep, k _ _ (.inr d) e2, c⟩, r⟩
  | own y => obtain ⟨ob, e⟩ := x; exact ⟨ob, k _ _ (.inl rfl) e⟩
  | xd fs => obtain ⟨mA, ⟨od, es, ep, e, c⟩, r⟩ := x; exact ⟨mA, ⟨od, es, ep, k _ _ (.inl rfl) e, c⟩, r⟩
  | rng lo hi => obtain ⟨t, u, v, e⟩ := x; exact ⟨t, u, v, k _ _ (.inl rfl) e⟩
  | frz ob u ih => obtain ⟨e, q⟩ := x; exact ⟨k _ _ (.inl rfl) e, ih q⟩
  | tbl ps =>
    have e : h.get? a = some { cls := .none, data := .fields ps } := x
    show h'.get? a = some { cls := .none, data := .fields ps }
    exact k a _ (.inl rfl) e
  | met f y =>
    have e : h.get? a = some (PySem.W.methodObj (.ref f) (.ref y)) := x
    show h'.get? a = some (PySem.W.methodObj (.ref f) (.ref y))
    exact k a _ (.inl rfl) e
  | ext φ => obtain ⟨p, ⟨o, e⟩, st⟩ := x; exact ⟨st _ _ p fun o q => k _ _ (.inl rfl) q, ⟨o, k _ _ (.inl rfl) e⟩, st⟩
theorem HOk.lt (x : HOk P w H h) (e : H a = some o) : a < h.objs.size := (x a o e).lt
theorem HOk.fresh (x : HOk P w H h) (e : h.objs.size ≤ a) : H a = none := by
  cases q : H a with
  | none => rfl
  | some u => exact absurd (Nat.lt_of_lt_of_le (x.lt q) e) (Nat.lt_irrefl _)
/-- every object of the heap is kept -/
theorem HOk.kept (x : HOk P w H h) (k : ∀ b u, h.get? b = some u → h'.get? b = some u) : HOk P w H h' := fun a o e =>
  (x a o e).stay (fun b u _ q => k b u q) (fun _ q => q) fun _ _ q => q
/-- a new object is laid and tracked -/
theorem HOk.laid (x : HOk P w H h) (k : ∀ b u, h.get? b = some u → h'.get? b = some u) (hp : h.objs.size ≤ a) (new : ObjOk P w (upd H a o) h' a o) : HOk P w (upd H a o) h' := fun b u e => by
  have hn := x.fresh hp
  by_cases hb : b = a
  · subst hb; rw [upd_same] at e; cases e; exact new
  · rw [upd_ne hb] at e
    exact (x b u e).stay (fun c v _ q => k c v q) (fun c q => by rw [upd_ne (ne_of_none q hn)]; exact q) fun c xs q => by rw [upd_ne (ne_of_none q hn)]; exact q
end

/-- what may be read as u: it is u, or a known u -/
def Rd (H : Hp) (a : Addr) (u : HO) : Prop := H a = some u ∨ ∃ o, H a = some (.frz o u)
theorem Rd.ok {P : Program} {w : World} {H : Hp} {h : Heap} {a : Addr} {u : HO} (r : Rd H a u) (x : HOk P w H h) : ObjOk P w H h a u := by
  rcases r with r | ⟨o, r⟩
  · exact x a u r
  · obtain ⟨_, q⟩ := x a _ r
    exact q
/-- what may be written -/
def Mut : Option HO → Prop
  | some (.lst _) => True
  | some (.dK _) => True
  | some (.dT _) => True
  | some (.set _ _) => True
  | some (.ins _ _ _) => True
  | some (.ext _) => True
  | _ => False
section
variable {P : Program} {w : World} {H : Hp} {h h' : Heap} {x e : Addr} {o' : HO}
/-- the object at e is changed: x itself, or the dict of the instance x -/
theorem HOk.write (ok : HOk P w H h) (mu : Mut (H x)) (he : e = x ∨ H e = some (.own x)) (k : ∀ b u, b ≠ e → h.get? b = some u → h'.get? b = some u) (heo : ∃ u, h'.get? e = some u)
    (new : ObjOk P w (upd H x o') h' x o') : HOk P w (upd H x o') h' := fun b u q => by
  have nown : ∀ c y, H c = some (.own y) → c ≠ x := fun c y r z => by subst z; rw [r] at mu; exact mu
  have ntup : ∀ c xs, H c = some (.tup xs) → c ≠ x := fun c xs r z => by subst z; rw [r] at mu; exact mu
  by_cases hb : b = x
  · subst hb; rw [upd_same] at q; cases q; exact new
  · rw [upd_ne hb] at q
    by_cases hbe : b = e
    · have q' : H b = some (.own x) := by
        rcases he with z | z
        · exact absurd (hbe.trans z) hb
        · rw [hbe]; exact z
      rw [q] at q'; cases q'
      obtain ⟨v, hv⟩ := heo
      exact ⟨v, by rw [hbe]; exact hv⟩
    · refine (ok b u q).stay (fun c v hc r => k c v ?_ r) (fun c r => by rw [upd_ne (nown c b r)]; exact r) fun c xs r => by rw [upd_ne (ntup c xs r)]; exact r
      rcases hc with rfl | hc
      · exact hbe
      · rintro rfl
        rcases he with z | z
        · exact nown c b hc z
        · rw [hc] at z; cases z; exact hb rfl
end

/-! ### kept unless tracked; of the frames at fs (the callers') the slots may change (an exception that passes writes there); of the records at ex (iterators) nothing is said -/
structure Un (fs ex : List Addr) (H H' : Hp) (h h' : Heap) : Prop where
  keep : ∀ b o, h.get? b = some o → H b = none → b ∉ fs → b ∉ ex → h'.get? b = some o
  slot : ∀ b o, h.get? b = some o → H b = none → b ∈ fs → b ∉ ex → ∃ sl, h'.get? b = some { o with slots := sl }
  free : ∀ b o, h.get? b = some o → H b = none → b ∉ ex → H' b = none
  there : ∀ b o, h.get? b = some o → b ∉ ex → ∃ o', h'.get? b = some o'
  tups : ∀ b xs, H b = some (.tup xs) → H' b = some (.tup xs)
  frzs : ∀ b o u, H b = some (.frz o u) → H' b = some (.frz o u)
  tbls : ∀ b ps, H b = some (.tbl ps) → ∃ more, H' b = some (.tbl (ps ++ more))
section
variable {fs fs' ex ex' : List Addr} {H H1 H2 : Hp} {h h1 h2 h' : Heap} {a x e : Addr} {o : HO}
theorem Un.any (u : Un fs ex H H1 h h1) {b : Addr} {ob : Obj} (q : h.get? b = some ob) (n : H b = none) (hx : b ∉ ex) : ∃ sl, h1.get? b = some { ob with slots := sl } := by
  by_cases hb : b ∈ fs
  · exact u.slot b ob q n hb hx
  · exact ⟨ob.slots, u.keep b ob q n hb hx⟩
theorem Un.trans (a : Un fs ex H H1 h h1) (b : Un fs ex H1 H2 h1 h2) : Un fs ex H H2 h h2 where
  keep := fun c ob q n hc hx => b.keep c ob (a.keep c ob q n hc hx) (a.free c ob q n hx) hc hx
  slot := fun c ob q n hc hx => by
    obtain ⟨sl, e1⟩ := a.slot c ob q n hc hx
    obtain ⟨sl', e2⟩ := b.slot c _ e1 (a.free c ob q n hx) hc hx
    exact ⟨sl', e2⟩
  free := fun c ob q n hx => by
    obtain ⟨o', e1⟩ := a.there c ob q hx
    exact b.free c o' e1 (a.free c ob q n hx) hx
  there := fun c ob q hx => by
    obtain ⟨o', e1⟩ := a.there c ob q hx
    exact b.there c o' e1 hx
  tups := fun c xs q => b.tups c xs (a.tups c xs q)
  frzs := fun c ob xs q => b.frzs c ob xs (a.frzs c ob xs q)
  tbls := fun c ps q => by
    obtain ⟨m1, e1⟩ := a.tbls c ps q
    obtain ⟨m2, e2⟩ := b.tbls c _ e1
    exact ⟨m1 ++ m2, by rw [e2, Array.append_assoc]⟩
theorem Un.kept (k : ∀ b u, h.get? b = some u → h'.get? b = some u) : Un fs ex H H h h' :=
  ⟨fun b ob q _ _ _ => k b ob q, fun b ob q _ _ _ => ⟨ob.slots, k b ob q⟩, fun _ _ _ n _ => n, fun b ob q _ => ⟨ob, k b ob q⟩, fun _ _ q => q, fun _ _ _ q => q, fun _ ps q => ⟨#[], by rw [q]; simp⟩⟩
theorem Un.refl : Un fs ex H H h h := Un.kept fun _ _ q => q
theorem Un.laid (k : ∀ b u, h.get? b = some u → h'.get? b = some u) (hp : h.objs.size ≤ a) (hn : H a = none) : Un fs ex H (upd H a o) h h' where
  keep := fun b u q _ _ _ => k b u q
  slot := fun b u q _ _ _ => ⟨u.slots, k b u q⟩
  free := fun b u q n _ => by rw [upd_ne (Nat.ne_of_lt (Nat.lt_of_lt_of_le (Heap.lt_size q) hp))]; exact n
  there := fun b u q _ => ⟨u, k b u q⟩
  tups := fun b xs q => by rw [upd_ne (ne_of_none q hn)]; exact q
  frzs := fun b u xs q => by rw [upd_ne (ne_of_none q hn)]; exact q
  tbls := fun b ps q => ⟨#[], by rw [upd_ne (ne_of_none q hn), q]; simp⟩
theorem Un.write (mu : Mut (H x)) (he : e = x ∨ H e = some (.own x)) (k : ∀ b u, b ≠ e → h.get? b = some u → h'.get? b = some u) (heo : ∃ u, h'.get? e = some u) : Un fs ex H (upd H x o) h h' := by
  have hx : ∀ b, H b = none → b ≠ x := fun b n z => by subst z; rw [n] at mu; exact mu
  have hb : ∀ b, H b = none → b ≠ e := fun b n z => by
    subst z
    rcases he with r | r
    · exact hx b n r
    · rw [n] at r; cases r
  have hm : ∀ b u, H b = some u → ¬ Mut (some u) → b ≠ x := fun b u q nm z => by subst z; rw [q] at mu; exact nm mu
  refine ⟨fun b u q n _ _ => k b u (hb b n) q, fun b u q n _ _ => ⟨u.slots, k b u (hb b n) q⟩, fun b u q n _ => by rw [upd_ne (hx b n)]; exact n, fun b u q _ => ?_,
    fun b xs q => by rw [upd_ne (hm b _ q fun z => z)]; exact q, fun b u xs q => by rw [upd_ne (hm b _ q fun z => z)]; exact q, fun b ps q => ⟨#[], by rw [upd_ne (hm b _ q fun z => z), q]; simp⟩⟩
  by_cases hbe : b = e
  · subst hbe; exact heo
  · exact ⟨u, k b u hbe q⟩
theorem Un.mono (u : Un fs ex H H1 h h1) (hs : ∀ b ∈ fs, b ∈ fs') (hx : ∀ b ∈ ex, b ∈ ex') : Un fs' ex' H H1 h h1 :=
  ⟨fun b ob q n hb he => u.keep b ob q n (fun z => hb (hs b z)) fun z => he (hx b z), fun _ _ q n _ he => u.any q n fun z => he (hx _ z), fun b ob q n he => u.free b ob q n fun z => he (hx b z), fun b ob q he => u.there b ob q fun z => he (hx b z), u.tups, u.frzs, u.tbls⟩
end

/-! ### the heap without what is tracked -/
def trk (h : Heap) (H : Hp) : List Addr := (List.range h.objs.size).filter fun a => (H a).isSome
def hidT (h : Heap) (H : Hp) : Heap := PySem.W.hideAll h (trk h H)
theorem hidT_size (h : Heap) (H : Hp) : (hidT h H).objs.size = h.objs.size := PySem.W.hideAll_size _ _
theorem hidT_get {h : Heap} {H : Hp} {b : Addr} {o : Obj} (e : h.get? b = some o) (n : H b = none) : (hidT h H).get? b = some o :=
  PySem.W.hideAll_get _ e fun hm => by
    have q : (H b).isSome = true := (List.mem_filter.mp hm).2
    rw [n] at q; simp at q
theorem of_hidT {h : Heap} {H : Hp} {b : Addr} {o : Obj} (e : (hidT h H).get? b = some o) : h.get? b = some o ∧ H b = none := by
  have e' : h.get? b = some o := PySem.W.of_hideAll (trk h H) e
  refine ⟨e', ?_⟩
  cases q : H b with
  | none => rfl
  | some x =>
    have hm : b ∈ trk h H := List.mem_filter.mpr ⟨List.mem_range.mpr (Heap.lt_size e'), by simp [q]⟩
    have z : (hidT h H).get? b = none := PySem.W.hideAll_none (trk h H) hm
    rw [z] at e; cases e

/-! ### OpenK's ledger, filled with every new object but one -/
end L2

namespace L2
open PySem PySem.Spec PyProof.Rows

/-- the module's facts, over the base: the heap at the law's entry without what is tracked there -/
structure Mod (K : PySem.W.Frag) (mg : Str → Option Value) (base : Heap) : Prop where
  kin : K.In base
  glob : base.Ns mainGlobals mg
  blt : ∃ mb, base.Ns builtinsNs mb ∧ ∀ x : Str, x ≠ "__name__" → mb x = bootBuiltins x
  nolimit : base.NoLimit

/-- the context: a def's body (or a comprehension's block) running. base: fixed through the whole law; s₀, H₀: the entry; outer: the frames whose slots others may change (a def's callers); stack: all frames that run;
   ex: iterators that were made ahead of the entry and are walked here (a comprehension's); fn: the names whose cells were made at the entry (a def: all; a comprehension's block: its own); calm: not within an except suite; pn: pins that every state bears; xe: what is wanted of an exception that leaves the code -/
structure Cx where
  prog : Program
  w : World
  K : PySem.W.Frag
  mg : Str → Option Value
  base : Heap
  A : Around
  N : List Str
  s₀ : Shared
  H₀ : Hp
  env : Env
  outer : List Env
  stack : List Env
  ex : List Addr
  fn : Str → Bool
  calm : Bool
  pn : List (Addr × Obj)
  xe : Value → Shared → Prop
/-- the callers' frames -/
def frs (l : List Env) : List Addr := l.filterMap (·.frame)
abbrev Cx.fs (X : Cx) : List Addr := frs X.outer

def Vis (sc : Scope) (x : Str) : Prop := sc.names.lookup x = some .local ∨ sc.names.lookup x = some .cell ∨ sc.names.lookup x = some .free
def Loc (sc : Scope) (x : Str) : Prop := sc.names.lookup x = some .local ∨ sc.names.lookup x = some .cell
def Look (env : Env) (h : Heap) (m : Str → Option Value) (x : Str) (u : Value) : Prop :=
  (env.kindOf x = some .local ∧ m x = some u) ∨ ((env.kindOf x = some .cell ∨ env.kindOf x = some .free) ∧ ∃ c, env.cells.lookup x = some c ∧ h.IsCell c (some u))

structure Cx.Ok (X : Cx) : Prop where
  mod : Mod X.K X.mg X.base
  kind : X.env.scope.kind = .function
  glob : X.env.globals = mainGlobals
  blt : X.env.builtins = builtinsNs
  above : X.s₀.heap.objs.size ≤ X.env.locals
  inj : ∀ x y c, X.env.cells.lookup x = some c → X.env.cells.lookup y = some c → x = y
  has : ∀ x, (X.env.kindOf x = some .cell ∨ X.env.kindOf x = some .free) → ∃ c, X.env.cells.lookup x = some c
  cab : ∀ x c, X.fn x = true → X.env.cells.lookup x = some c → X.s₀.heap.objs.size ≤ c
  hd : X.calm = true → X.A.handled = none
  frames : X.A.frames = some X.stack
  stk : X.stack = X.outer ∨ (X.stack = X.env :: X.outer ∧ X.env.frame = some X.env.locals)
  exf : ∀ b ∈ X.ex, b ≠ X.env.locals ∧ ∀ x c, X.env.cells.lookup x = some c → c ≠ b
  bs : ∀ b o, X.base.get? b = some o → X.s₀.heap.get? b = some o ∧ X.H₀ b = none
  bsz : X.base.objs.size ≤ X.s₀.heap.objs.size
  noex : ∀ b o, X.base.get? b = some o → b ∉ X.ex
  exfs : ∀ b ∈ X.ex, b ∉ X.fs
  funs : X.s₀.heap.FunFrames X.base X.outer
  frf : ∀ b ∈ X.fs, X.H₀ b = none

structure Inv (X : Cx) (pins : List (Addr × Obj)) (σ : List (Option V)) (H : Hp) (s : Shared) : Prop where
  ok : X.Ok
  os : s.os = X.s₀.os
  bare : AllBare s.gens
  base : Un X.fs X.ex X.H₀ H X.s₀.heap s.heap
  loc : ∃ m, s.heap.Ns X.env.locals m ∧ ∀ (i : Nat) (x : Str) (v : V), X.N[i]? = some x → σ[i]? = some (some v) → Vis X.env.scope x → ∃ u, RelV v u ∧ Look X.env s.heap m x u
  cell : ∀ x c, X.env.cells.lookup x = some c → ∃ v, s.heap.IsCell c v
  free : H X.env.locals = none
  freeC : ∀ x c, X.env.cells.lookup x = some c → H c = none
  pin : ∀ p ∈ X.pn ++ pins, s.heap.get? p.1 = some p.2 ∧ H p.1 = none ∧ p.1 ≠ X.env.locals ∧ p.1 ∉ X.fs ∧ ∀ v, p.2.data ≠ .cell v
  hok : HOk X.prog X.w H s.heap
  len : σ.length = X.N.length

section
variable {X : Cx} {pins : List (Addr × Obj)} {σ : List (Option V)} {H H' : Hp} {s : Shared} {h' : Heap}

theorem Cx.Ok.nofr (ok : X.Ok) {b : Addr} {o : Obj} (e : X.base.get? b = some o) : b ∉ X.fs := fun hb => by
  have := (ok.funs.mem hb).1
  rw [e] at this; cases this
theorem Inv.bs (I : Inv X pins σ H s) : ∀ b o, X.base.get? b = some o → s.heap.get? b = some o ∧ H b = none := fun b o e =>
  ⟨I.base.keep b o (I.ok.bs b o e).1 (I.ok.bs b o e).2 (I.ok.nofr e) (I.ok.noex b o e), I.base.free b o (I.ok.bs b o e).1 (I.ok.bs b o e).2 (I.ok.noex b o e)⟩
theorem Inv.bk (I : Inv X pins σ H s) : ∀ b o, X.base.get? b = some o → s.heap.get? b = some o := fun b o e => (I.bs b o e).1
theorem Inv.mod (I : Inv X pins σ H s) : Mod X.K X.mg X.base := I.ok.mod
theorem Inv.kIn (I : Inv X pins σ H s) : X.K.In s.heap := I.ok.mod.kin.keeps I.bk
theorem Inv.lt (I : Inv X pins σ H s) : X.env.locals < s.heap.objs.size := let ⟨_, hn, _⟩ := I.loc; hn.lt
theorem Inv.sz (I : Inv X pins σ H s) : X.s₀.heap.objs.size ≤ s.heap.objs.size := Nat.le_trans I.ok.above (Nat.le_of_lt I.lt)
theorem Inv.nofs (I : Inv X pins σ H s) {a : Addr} (h : s.heap.objs.size ≤ a) : a ∉ X.fs := fun hb => by
  obtain ⟨_, o, ho, _⟩ := I.ok.funs.mem hb
  exact absurd (Nat.lt_of_lt_of_le (Heap.lt_size ho) (Nat.le_trans I.sz h)) (Nat.lt_irrefl _)
theorem Inv.cne (I : Inv X pins σ H s) : ∀ x c, X.env.cells.lookup x = some c → c ≠ X.env.locals := fun x c e z => by
  obtain ⟨v, o, ho, hd⟩ := I.cell x c e
  obtain ⟨m, ⟨o', es, ep, ho', hd', _⟩, _⟩ := I.loc
  rw [z, ho'] at ho; cases ho; rw [hd'] at hd; cases hd
theorem Inv.funs (I : Inv X pins σ H s) : s.heap.FunFrames X.base X.outer := by
  have all : ∀ (l : List Env), (∀ b ∈ frs l, b ∈ X.fs) → X.s₀.heap.FunFrames X.base l → s.heap.FunFrames X.base l := by
    intro l
    induction l with
    | nil => intro _ _; trivial
    | cons env r ih =>
      intro hs hl
      obtain ⟨hk, ⟨L, o, hf, hn, ho, hd⟩, hr⟩ := hl
      have hL : L ∈ X.fs := hs L (by unfold frs; rw [List.filterMap_cons, hf]; exact List.mem_cons_self)
      obtain ⟨sl, e⟩ := I.base.slot L o ho (I.ok.frf L hL) hL fun z => I.ok.exfs L z hL
      exact ⟨hk, ⟨L, _, hf, hn, e, hd⟩, ih (fun b hb => hs b (by unfold frs; rw [List.filterMap_cons, hf]; exact List.mem_cons_of_mem _ hb)) hr⟩
  exact all X.outer (fun _ hb => hb) I.ok.funs

/-- the frames that run, for a call -/
theorem Inv.stack (I : Inv X pins σ H s) : s.heap.FunFrames X.base X.stack := by
  rcases I.ok.stk with e | ⟨e, hf⟩
  · rw [e]; exact I.funs
  · rw [e]
    obtain ⟨m, hn, _⟩ := I.loc
    refine .cons (by rw [I.ok.kind]; decide) hf hn ?_ I.funs
    exact Heap.get?_none_of_le (Nat.le_trans I.ok.bsz I.ok.above)
theorem Inv.stkSub (I : Inv X pins σ H s) : ∀ b ∈ frs X.stack, b ∈ X.env.locals :: X.fs := fun b hb => by
  rcases I.ok.stk with e | ⟨e, hf⟩
  · rw [e] at hb; exact List.mem_cons_of_mem _ hb
  · rw [e] at hb
    unfold frs at hb
    rw [List.filterMap_cons, hf] at hb
    exact hb
theorem Inv.stkFree (I : Inv X pins σ H s) : ∀ b ∈ frs X.stack, H b = none := fun b hb => by
  rcases List.mem_cons.mp (I.stkSub b hb) with e | hb
  · rw [e]; exact I.free
  · obtain ⟨_, o, ho, _⟩ := I.ok.funs.mem hb
    exact I.base.free b o ho (I.ok.frf b hb) fun z => I.ok.exfs b z hb

/-- THE STEP: the untracked objects but the frame and the records at ch are kept (the callers' frames up to slots), the frame's map is kept, the new abstract heap is held -/
theorem Inv.step {g' : Array GenState} {t' : Nat} {d' : Drawn} {ch : List Addr} (I : Inv X pins σ H s)
    (hch : ∀ b ∈ ch, (b ∈ X.ex ∨ X.s₀.heap.objs.size ≤ b) ∧ b ≠ X.env.locals ∧ (∀ x c, X.env.cells.lookup x = some c → c ≠ b) ∧ ∀ p ∈ X.pn ++ pins, p.1 ≠ b)
    (keep : ∀ b o, b ≠ X.env.locals → b ∉ X.fs → b ∉ ch → s.heap.get? b = some o → H b = none → h'.get? b = some o)
    (slot : ∀ b o, b ≠ X.env.locals → b ∈ X.fs → b ∉ ch → s.heap.get? b = some o → H b = none → ∃ sl, h'.get? b = some { o with slots := sl }) (free : ∀ b o, b ∉ ch → s.heap.get? b = some o → H b = none → H' b = none)
    (there : ∀ b o, b ∉ ch → s.heap.get? b = some o → ∃ o', h'.get? b = some o')
    (tups : ∀ b xs, H b = some (.tup xs) → H' b = some (.tup xs)) (frzs : ∀ b o u, H b = some (.frz o u) → H' b = some (.frz o u)) (tbls : ∀ b ps, H b = some (.tbl ps) → ∃ more, H' b = some (.tbl (ps ++ more)))
    (ns : ∀ m, s.heap.Ns X.env.locals m → h'.Ns X.env.locals m) (hok : HOk X.prog X.w H' h') (hg : AllBare g') :
    Inv X pins σ H' { s with heap := h', gens := g', drawn := d', toks := t' } := by
  have neL : ∀ b o, X.s₀.heap.get? b = some o → b ≠ X.env.locals := fun b o e => Nat.ne_of_lt (Nat.lt_of_lt_of_le (Heap.lt_size e) I.ok.above)
  have neC : ∀ b o, X.s₀.heap.get? b = some o → b ∉ X.ex → b ∉ ch := fun b o e hx hb => by
    rcases (hch b hb).1 with z | z
    · exact hx z
    · exact absurd (Nat.lt_of_lt_of_le (Heap.lt_size e) z) (Nat.lt_irrefl _)
  have cellK : ∀ x c, X.env.cells.lookup x = some c → ∀ v, s.heap.IsCell c v → h'.IsCell c v := fun x c e v ⟨o, ho, hd⟩ => by
    have nch : c ∉ ch := fun z => (hch c z).2.2.1 x c e rfl
    by_cases hc : c ∈ X.fs
    · obtain ⟨sl, q⟩ := slot c o (I.cne x c e) hc nch ho (I.freeC x c e)
      exact ⟨_, q, hd⟩
    · exact ⟨o, keep c o (I.cne x c e) hc nch ho (I.freeC x c e), hd⟩
  refine ⟨I.ok, I.os, hg, ⟨fun b o e n hb hx => ?_, fun b o e n hb hx => ?_, fun b o e n hx => ?_, fun b o e hx => ?_, fun b xs e => tups b xs (I.base.tups b xs e), fun b o xs e => frzs b o xs (I.base.frzs b o xs e), fun b ps e => ?_⟩, ?_, fun x c e => ?_, ?_, fun x c e => ?_, fun p hp => ?_, hok, I.len⟩
  · exact keep b o (neL b o e) hb (neC b o e hx) (I.base.keep b o e n hb hx) (I.base.free b o e n hx)
  · obtain ⟨sl, e1⟩ := I.base.slot b o e n hb hx
    obtain ⟨sl', e2⟩ := slot b _ (neL b o e) hb (neC b o e hx) e1 (I.base.free b o e n hx)
    exact ⟨sl', e2⟩
  · obtain ⟨o', e1⟩ := I.base.there b o e hx
    exact free b o' (neC b o e hx) e1 (I.base.free b o e n hx)
  · obtain ⟨o', e1⟩ := I.base.there b o e hx
    exact there b o' (neC b o e hx) e1
  · obtain ⟨m1, e1⟩ := I.base.tbls b ps e
    obtain ⟨m2, e2⟩ := tbls b _ e1
    exact ⟨m1 ++ m2, by rw [e2, Array.append_assoc]⟩
  · obtain ⟨m, hn, hl⟩ := I.loc
    refine ⟨m, ns m hn, fun i x v e1 e2 e3 => ?_⟩
    obtain ⟨u, r, l⟩ := hl i x v e1 e2 e3
    refine ⟨u, r, ?_⟩
    rcases l with l | ⟨k, c, e, z⟩
    · exact .inl l
    · exact .inr ⟨k, c, e, cellK x c e _ z⟩
  · obtain ⟨v, z⟩ := I.cell x c e
    exact ⟨v, cellK x c e v z⟩
  · obtain ⟨m, ⟨o, _, _, ho, _⟩, _⟩ := I.loc
    exact free _ o (fun z => (hch _ z).2.1 rfl) ho I.free
  · obtain ⟨v, o, ho, hd⟩ := I.cell x c e
    exact free c o (fun z => (hch c z).2.2.1 x c e rfl) ho (I.freeC x c e)
  · obtain ⟨e, n, ne, nf, d⟩ := I.pin p hp
    have nch : p.1 ∉ ch := fun z => (hch p.1 z).2.2.2 p hp rfl
    exact ⟨keep p.1 p.2 ne nf nch e n, free p.1 p.2 nch e n, ne, nf, d⟩
/-- .. where the frame's own object is kept too -/
theorem Inv.un {t' : Nat} (I : Inv X pins σ H s) (u : Un X.fs [] H H' s.heap h') (hok : HOk X.prog X.w H' h') : Inv X pins σ H' { s with heap := h', toks := t' } := by
  obtain ⟨m, ⟨o, es, ep, ho, r⟩, _⟩ := id I.loc
  obtain ⟨sl, hL⟩ := u.any ho I.free (by simp)
  exact I.step (g' := s.gens) (d' := s.drawn) (ch := []) (fun _ z => nomatch z) (fun b o _ hb _ e n => u.keep b o e n hb (by simp)) (fun b o _ hb _ e n => u.slot b o e n hb (by simp)) (fun b o _ e n => u.free b o e n (by simp)) (fun b o _ e => u.there b o e (by simp)) u.tups u.frzs u.tbls (fun m' hm => by
    obtain ⟨o', es', ep', ho', r'⟩ := hm
    rw [ho] at ho'; cases ho'
    exact ⟨_, es', ep', hL, r'⟩) hok I.bare
/-- behind a call (or a comprehension's block): the slots of this frame may have changed too, the records at ch may have turned -/
theorem Inv.call {g' : Array GenState} {t' : Nat} {d' : Drawn} {ch : List Addr} (I : Inv X pins σ H s) (u : Un (frs X.stack) ch H H' s.heap h') (hok : HOk X.prog X.w H' h') (hg : AllBare g')
    (hch : ∀ b ∈ ch, (b ∈ X.ex ∨ X.s₀.heap.objs.size ≤ b) ∧ b ≠ X.env.locals ∧ (∀ x c, X.env.cells.lookup x = some c → c ≠ b) ∧ ∀ p ∈ X.pn ++ pins, p.1 ≠ b) :
    Inv X pins σ H' { s with heap := h', gens := g', drawn := d', toks := t' } := by
  obtain ⟨m, ⟨o, es, ep, ho, r⟩, _⟩ := id I.loc
  obtain ⟨sl, hL⟩ := u.any ho I.free fun z => (hch _ z).2.1 rfl
  exact I.step (ch := ch) hch (fun b o hL hb hc e n => u.keep b o e n (fun z => (List.mem_cons.mp (I.stkSub b z)).elim hL hb) hc) (fun b o _ _ hc e n => u.any e n hc) (fun b o hc e n => u.free b o e n hc) (fun b o hc e => u.there b o e hc) u.tups u.frzs u.tbls (fun m' hm => by
    obtain ⟨o', es', ep', ho', r'⟩ := hm
    rw [ho] at ho'; cases ho'
    exact ⟨_, es', ep', hL, r'⟩) hok hg
/-- an untracked record of ours (an iterator) has turned -/
theorem Inv.turned {t' : Nat} {it : Addr} (I : Inv X pins σ H s) (k : ∀ b o, b ≠ it → s.heap.get? b = some o → h'.get? b = some o) (hn : H it = none) (hL : it ≠ X.env.locals)
    (h1 : it ∈ X.ex ∨ X.s₀.heap.objs.size ≤ it) (h2 : ∀ x c, X.env.cells.lookup x = some c → c ≠ it) (h3 : ∀ p ∈ X.pn ++ pins, p.1 ≠ it) : Inv X pins σ H { s with heap := h', toks := t' } := by
  have nit : ∀ b u, H b = some u → b ≠ it := fun b u e z => by rw [z, hn] at e; cases e
  refine I.step (g' := s.gens) (d' := s.drawn) (ch := [it]) (fun b hb => ?_) (fun b o _ _ hc e _ => k b o (fun z => hc (by simp [z])) e) (fun b o _ _ hc e _ => ⟨o.slots, k b o (fun z => hc (by simp [z])) e⟩) (fun _ _ _ _ n => n)
    (fun b o hc e => ⟨o, k b o (fun z => hc (by simp [z])) e⟩) (fun _ _ e => e) (fun _ _ _ e => e) (fun b ps e => ⟨#[], by rw [e]; simp⟩) (fun m hm => ?_) (fun b u e => ?_) I.bare
  · have e : b = it := by simpa using hb
    subst e
    exact ⟨h1, hL, h2, h3⟩
  · obtain ⟨o, es, ep, ho, r⟩ := hm
    exact ⟨o, es, ep, k _ o (Ne.symm hL) ho, r⟩
  · refine (I.hok b u e).stay (fun c v hc q => k c v ?_ q) (fun _ q => q) fun _ _ q => q
    rcases hc with z | z
    · rw [z]; exact nit b u e
    · exact nit c _ z
theorem Inv.tok (I : Inv X pins σ H s) (t : Nat) : Inv X pins σ H { s with toks := t } := I.un (h' := s.heap) (t' := t) Un.refl I.hok
/-- all objects kept -/
theorem Inv.kept {t' : Nat} (I : Inv X pins σ H s) (k : ∀ b u, s.heap.get? b = some u → h'.get? b = some u) : Inv X pins σ H { s with heap := h', toks := t' } := I.un (Un.kept k) (I.hok.kept k)
/-- a new object laid and tracked -/
theorem Inv.laid {a : Addr} {o : HO} {t' : Nat} (I : Inv X pins σ H s) (k : ∀ b u, s.heap.get? b = some u → h'.get? b = some u) (hp : s.heap.objs.size ≤ a) (new : ObjOk X.prog X.w (upd H a o) h' a o) :
    Inv X pins σ (upd H a o) { s with heap := h', toks := t' } := I.un (Un.laid k hp (I.hok.fresh hp)) (I.hok.laid k hp new)
/-- an object written -/
theorem Inv.write {x e : Addr} {o : HO} {t' : Nat} (I : Inv X pins σ H s) (mu : Mut (H x)) (he : e = x ∨ H e = some (.own x)) (k : ∀ b u, b ≠ e → s.heap.get? b = some u → h'.get? b = some u) (heo : ∃ u, h'.get? e = some u)
    (new : ObjOk X.prog X.w (upd H x o) h' x o) : Inv X pins σ (upd H x o) { s with heap := h', toks := t' } := I.un (Un.write mu he k heo) (I.hok.write mu he k heo new)
theorem Inv.pins_of {pins' : List (Addr × Obj)} (I : Inv X pins σ H s) (h : ∀ p ∈ pins', s.heap.get? p.1 = some p.2 ∧ H p.1 = none ∧ p.1 ≠ X.env.locals ∧ p.1 ∉ X.fs ∧ ∀ v, p.2.data ≠ .cell v) : Inv X pins' σ H s :=
  ⟨I.ok, I.os, I.bare, I.base, I.loc, I.cell, I.free, I.freeC, fun p hp => (List.mem_append.mp hp).elim (fun z => I.pin p (List.mem_append_left _ z)) (h p), I.hok, I.len⟩

theorem nodup_ix {N : List Str} (hN : N.Nodup) {i j : Nat} {x : Str} (a : N[i]? = some x) (b : N[j]? = some x) : i = j := by
  obtain ⟨h1, e1⟩ := List.getElem?_eq_some_iff.mp a
  obtain ⟨h2, e2⟩ := List.getElem?_eq_some_iff.mp b
  exact (List.getElem_inj hN).mp (e1.trans e2.symm)

/-- a name is stored; what changed -/
theorem store_ok2 {M : Model} {A : Around} {E : Value → Shared → Prop} {i : Nat} {x : Str} {v : V} {u : Value} {Q : Unit → Shared → Prop} (I : Inv X pins σ H s) (hN : X.N.Nodup) (hi : X.N[i]? = some x) (hx : Loc X.env.scope x) (r : RelV v u)
    (h : ∀ s', Inv X pins (σ.set i (some v)) H s' → (∃ a, Heap.SameBut a s.heap s'.heap ∧ (a = X.env.locals ∨ X.env.cells.lookup x = some a)) → Q () s') (hf : X.fn x = true ∨ X.env.scope.names.lookup x = some .local := by first | exact .inl rfl | exact .inr rfl | assumption) : wpAny M A (storeName X.env x u) Q E s := by
  obtain ⟨m, hn, hl⟩ := id I.loc
  have hcls : (X.env.scope.kind == .class || (X.env.scope.kind == .module && X.env.locals != X.env.globals)) = false := by rw [I.ok.kind]; rfl
  have hiσ : i < σ.length := by rw [I.len]; exact (List.getElem?_eq_some_iff.mp hi).1
  have cne := I.cne
  have tracked : ∀ {a : Addr} {h' : Heap}, (∃ o, s.heap.get? a = some o ∧ H a = none) → Heap.SameBut a s.heap h' → HOk X.prog X.w H h' := fun {a h'} ha hs b ob e => by
    obtain ⟨_, _, hfree⟩ := ha
    refine (I.hok b ob e).stay (fun c w' hc q => (hs.2 c ?_).trans q) (fun _ q => q) fun _ _ q => q
    rintro rfl
    rcases hc with rfl | hc
    · rw [hfree] at e; cases e
    · rw [hfree] at hc; cases hc
  rcases hx with hk | hk
  · refine wpAny_storeName_local hk hn (fun h' hn' hs => ?_) hcls
    obtain ⟨oL, _, _, hoL, _⟩ := id hn
    refine h _ ⟨I.ok, I.os, I.bare, ⟨fun b o e n hb hx => ?_, fun b o e n hb hx => ?_, I.base.free, fun b o e hx => ?_, I.base.tups, I.base.frzs, I.base.tbls⟩, ⟨_, hn', fun j y v' e1 e2 e3 => ?_⟩, fun y c e => ?_, I.free, I.freeC, fun p hp => ?_, tracked ⟨oL, hoL, I.free⟩ hs, by simpa using I.len⟩ ⟨_, hs, .inl rfl⟩
    · exact (hs.2 b (Nat.ne_of_lt (Nat.lt_of_lt_of_le (Heap.lt_size e) I.ok.above))).trans (I.base.keep b o e n hb hx)
    · obtain ⟨sl, e1⟩ := I.base.slot b o e n hb hx
      exact ⟨sl, (hs.2 b (Nat.ne_of_lt (Nat.lt_of_lt_of_le (Heap.lt_size e) I.ok.above))).trans e1⟩
    · obtain ⟨o', e1⟩ := I.base.there b o e hx
      exact ⟨o', (hs.2 b (Nat.ne_of_lt (Nat.lt_of_lt_of_le (Heap.lt_size e) I.ok.above))).trans e1⟩
    · by_cases hj : j = i
      · subst hj
        rw [hi] at e1; cases e1
        rw [List.getElem?_set_self hiσ] at e2
        cases e2
        exact ⟨u, r, .inl ⟨hk, by simp⟩⟩
      · rw [List.getElem?_set_ne (Ne.symm hj)] at e2
        obtain ⟨u', r', q⟩ := hl j y v' e1 e2 e3
        refine ⟨u', r', ?_⟩
        rcases q with ⟨k, e⟩ | ⟨k, c, e, z⟩
        · refine .inl ⟨k, ?_⟩
          have : y ≠ x := fun e => hj (nodup_ix hN e1 (e ▸ hi))
          simp [this, e]
        · exact .inr ⟨k, c, e, z.sameBut hs (cne y c e)⟩
    · obtain ⟨w', z⟩ := I.cell y c e
      exact ⟨w', z.sameBut hs (cne y c e)⟩
    · obtain ⟨e, n, ne, nf, d⟩ := I.pin p hp
      exact ⟨(hs.2 p.1 ne).trans e, n, ne, nf, d⟩
  · have hfn : X.fn x = true := by
      rcases hf with z | z
      · exact z
      · rw [z] at hk; cases hk
    obtain ⟨c, hc⟩ := I.ok.has x (.inl hk)
    obtain ⟨w', z⟩ := I.cell x c hc
    refine wpAny_storeName_cell I.ok.kind hk hc z (fun h' hc' hs => ?_)
    obtain ⟨oc, hoc, hocd⟩ := id z
    refine h { s with heap := h' } ⟨I.ok, I.os, I.bare, ⟨fun b o e n hb hx => ?_, fun b o e n hb hx => ?_, I.base.free, fun b o e hx => ?_, I.base.tups, I.base.frzs, I.base.tbls⟩, ⟨m, hn.sameBut hs (Ne.symm (cne x c hc)), fun j y v' e1 e2 e3 => ?_⟩, fun y c' e => ?_, I.free, I.freeC, fun p hp => ?_, tracked ⟨oc, hoc, I.freeC x c hc⟩ hs, by simpa using I.len⟩ ⟨c, hs, .inr hc⟩
    · exact (hs.2 b (Nat.ne_of_lt (Nat.lt_of_lt_of_le (Heap.lt_size e) (I.ok.cab x c hfn hc)))).trans (I.base.keep b o e n hb hx)
    · obtain ⟨sl, e1⟩ := I.base.slot b o e n hb hx
      exact ⟨sl, (hs.2 b (Nat.ne_of_lt (Nat.lt_of_lt_of_le (Heap.lt_size e) (I.ok.cab x c hfn hc)))).trans e1⟩
    · obtain ⟨o', e1⟩ := I.base.there b o e hx
      exact ⟨o', (hs.2 b (Nat.ne_of_lt (Nat.lt_of_lt_of_le (Heap.lt_size e) (I.ok.cab x c hfn hc)))).trans e1⟩
    · by_cases hj : j = i
      · subst hj
        rw [hi] at e1; cases e1
        rw [List.getElem?_set_self hiσ] at e2
        cases e2
        exact ⟨u, r, .inr ⟨.inl hk, c, hc, hc'⟩⟩
      · rw [List.getElem?_set_ne (Ne.symm hj)] at e2
        obtain ⟨u', r', q⟩ := hl j y v' e1 e2 e3
        refine ⟨u', r', ?_⟩
        rcases q with q | ⟨k, c', e, z'⟩
        · exact .inl q
        · refine .inr ⟨k, c', e, z'.sameBut hs ?_⟩
          rintro rfl
          exact hj (nodup_ix hN e1 (I.ok.inj _ _ _ e hc ▸ hi))
    · by_cases hcc : c' = c
      · subst hcc; exact ⟨_, hc'⟩
      · obtain ⟨w2, z2⟩ := I.cell y c' e
        exact ⟨w2, z2.sameBut hs hcc⟩
    · obtain ⟨e, n, ne, nf, d⟩ := I.pin p hp
      refine ⟨(hs.2 p.1 ?_).trans e, n, ne, nf, d⟩
      intro q
      rw [q, hoc] at e
      have q' : oc = p.2 := Option.some.inj e
      exact d w' (by rw [← q']; exact hocd)
theorem store_ok {M : Model} {A : Around} {E : Value → Shared → Prop} {i : Nat} {x : Str} {v : V} {u : Value} {Q : Unit → Shared → Prop} (I : Inv X pins σ H s) (hN : X.N.Nodup) (hi : X.N[i]? = some x) (hx : Loc X.env.scope x) (r : RelV v u)
    (h : ∀ s', Inv X pins (σ.set i (some v)) H s' → Q () s') (hf : X.fn x = true ∨ X.env.scope.names.lookup x = some .local := by first | exact .inl rfl | exact .inr rfl | assumption) : wpAny M A (storeName X.env x u) Q E s :=
  store_ok2 I hN hi hx r (fun s' I' _ => h s' I') hf
/-- behind a call or a block, the state as it is -/
theorem Inv.call' {s' : Shared} {ch : List Addr} (I : Inv X pins σ H s) (ho : s'.os = s.os) (u : Un (frs X.stack) ch H H' s.heap s'.heap) (hok : HOk X.prog X.w H' s'.heap) (hg : AllBare s'.gens)
    (hch : ∀ b ∈ ch, (b ∈ X.ex ∨ X.s₀.heap.objs.size ≤ b) ∧ b ≠ X.env.locals ∧ (∀ x c, X.env.cells.lookup x = some c → c ≠ b) ∧ ∀ p ∈ X.pn ++ pins, p.1 ≠ b) : Inv X pins σ H' s' := by
  obtain ⟨h', g', d', t', o'⟩ := s'
  have e : o' = s.os := ho
  subst e
  exact I.call (g' := g') (t' := t') (d' := d') u hok hg hch
end

/-! ### the judgements -/
/-- an exception: its class, its own dict's address (where it has one), the abstract heap behind it -/
abbrev XK := Value → Option Addr → Hp → Prop
abbrev St := List (Option V)
abbrev VK := V → Hp → Prop
/-- an expression's reading; a test's; an argument list's -/
abbrev TE := St → Hp → VK → Prop
abbrev TT := St → Hp → (Bool → Hp → Prop) → Prop
abbrev TA := St → Hp → (List V → Hp → Prop) → Prop
/-- what is wanted behind a statement -/
structure Ends where
  nx : St → Hp → Prop
  rt : VK
  bk : St → Hp → Prop := fun _ _ => False
  ct : St → Hp → Prop := fun _ _ => False
abbrev TS := Ends → St → Hp → Prop

def EP (X : Cx) (pins : List (Addr × Obj)) (σ : St) (Q : VK) (u : Value) (s' : Shared) : Prop := ∃ v H', Inv X pins σ H' s' ∧ RelV v u ∧ Q v H'
def TP (X : Cx) (pins : List (Addr × Obj)) (σ : St) (Q : Bool → Hp → Prop) (b : Bool) (s' : Shared) : Prop := ∃ H', Inv X pins σ H' s' ∧ Q b H'
def AP (X : Cx) (pins : List (Addr × Obj)) (σ : St) (Q : List V → Hp → Prop) (us : List Value) (s' : Shared) : Prop := ∃ vs H', Inv X pins σ H' s' ∧ Vals vs us ∧ Q vs H'
def SP (X : Cx) (pins : List (Addr × Obj)) (D : Ends) (f : Flow) (s' : Shared) : Prop :=
  match f with
  | .next => ∃ σ' H', Inv X pins σ' H' s' ∧ D.nx σ' H'
  | .brk => ∃ σ' H', Inv X pins σ' H' s' ∧ D.bk σ' H'
  | .cont => ∃ σ' H', Inv X pins σ' H' s' ∧ D.ct σ' H'
  | .ret u => ∃ v σ' H', Inv X pins σ' H' s' ∧ RelV v u ∧ D.rt v H'

def PE (X : Cx) (e : Expr) (t : TE) : Prop :=
  ∀ (pins : List (Addr × Obj)) (s : Shared) (σ : St) (H : Hp) (Q : VK), Inv X pins σ H s → t σ H Q → wpAny (model X.prog X.w) X.A (eval e X.env) (EP X pins σ Q) X.xe s
def PT (X : Cx) (e : Expr) (t : TT) : Prop :=
  ∀ (pins : List (Addr × Obj)) (s : Shared) (σ : St) (H : Hp) (Q : Bool → Hp → Prop), Inv X pins σ H s → t σ H Q → wpAny (model X.prog X.w) X.A (isTrue e X.env (eval e X.env)) (TP X pins σ Q) X.xe s
/-- a test whatever its 'whole' is (and, or) -/
def PW (X : Cx) (e : Expr) (t : TT) : Prop :=
  ∀ (whole : Sem Value) (pins : List (Addr × Obj)) (s : Shared) (σ : St) (H : Hp) (Q : Bool → Hp → Prop), Inv X pins σ H s → t σ H Q → wpAny (model X.prog X.w) X.A (isTrue e X.env whole) (TP X pins σ Q) X.xe s
theorem PW.pt {X : Cx} {e : Expr} {t : TT} (h : PW X e t) : PT X e t := h _
/-- an argument list (no star), from the left -/
def PA (X : Cx) (es : List Expr) (t : TA) : Prop :=
  ∀ (pos : Pos) (pins : List (Addr × Obj)) (s : Shared) (σ : St) (H : Hp) (Q : List V → Hp → Prop), Inv X pins σ H s → t σ H Q → wpAny (model X.prog X.w) X.A (spliced (backTo pos (starEach es X.env))) (AP X pins σ Q) X.xe s
def PS (X : Cx) (st : Stmt) (t : TS) : Prop :=
  ∀ (pins : List (Addr × Obj)) (s : Shared) (σ : St) (H : Hp) (D : Ends), Inv X pins σ H s → t D σ H → wpAny (model X.prog X.w) X.A (exec st X.env) (SP X pins D) X.xe s
def PSs (X : Cx) (st : List Stmt) (t : TS) : Prop :=
  ∀ (pins : List (Addr × Obj)) (s : Shared) (σ : St) (H : Hp) (D : Ends), Inv X pins σ H s → t D σ H → wpAny (model X.prog X.w) X.A (execs st X.env) (SP X pins D) X.xe s
/-- weaken the end -/
theorem thn {α : Type} {t : Sem α} {Q Q' : α → Shared → Prop} {M : Model} {A : Around} {E : Value → Shared → Prop} {s : Shared} (h : wpAny M A t Q E s) (hQ : ∀ a s, Q a s → Q' a s) : wpAny M A t Q' E s := wpAny_mono h hQ fun _ _ x => x
end L2

namespace L2
open PySem PySem.Spec PyProof.Rows
section
variable {X : Cx}


/-! ### names and constants -/
def tVar (i : Nat) : TE := fun σ H Q => ∃ v, σ[i]? = some (some v) ∧ Q v H
def tC (v : V) : TE := fun _ H Q => Q v H
theorem pe_var {i : Nat} {x : Str} {pos : Pos} (hN : X.N[i]? = some x) (hv : Vis X.env.scope x) (hd : (x == ("__debug__" : Str)) = false := by decide) (hcd : (x == ("__classdict__" : Str)) = false := by decide) : PE X (.Name x pos) (tVar i) := by
  intro pins s σ H Q I h
  obtain ⟨v, e, h⟩ := h
  obtain ⟨m, hn, hl⟩ := I.loc
  obtain ⟨u, r, l⟩ := hl i x v hN e hv
  have fin : EP X pins σ Q u s := ⟨v, H, I, r, h⟩
  rcases l with ⟨hk, hm⟩ | ⟨hk, c, hc, hcell⟩
  · exact wpAny_Name (wpAny_loadName_local I.ok.kind hk hn hm fin) hd
  · rcases hk with hk | hk
    · exact wpAny_Name (wpAny_loadName_cell I.ok.kind hk hc hcell fin) hd
    · exact wpAny_Name (wpAny_loadName_free I.ok.kind hk hc hcell fin hcd) hd
theorem pe_int {i j pos} : PE X (.Constant (.int i) j pos) (tC (.int i)) := fun _ _ _ H _ I h => wpAny_Constant_int ⟨.int i, H, I.tok _, ⟨_, rfl⟩, h⟩
theorem pe_bl {b j pos} : PE X (.Constant (.bool b) j pos) (tC (.bl b)) := fun _ _ _ H _ I h => Constant_bool ⟨.bl b, H, I, rfl, h⟩
theorem pe_non {j pos} : PE X (.Constant .none j pos) (tC .non) := fun _ _ _ H _ I h => Constant_none ⟨.non, H, I, rfl, h⟩
theorem pe_str {x j pos} : PE X (.Constant (.str x) j pos) (tC (.str x)) := fun _ _ _ H _ I h => Calls.Constant_str ⟨.str x, H, I.tok _, ⟨_, rfl⟩, h⟩

/-- a global name of the def -/
def Gl (X : Cx) (x : Str) : Prop := X.env.kindOf x = some .globalImplicit
theorem ld_glob {E : Value → Shared → Prop} {pins : List (Addr × Obj)} {s : Shared} {σ : St} {H : Hp} {x : Str} {u : Value} {pos : Pos} {Q : Value → Shared → Prop} (I : Inv X pins σ H s) (hg : Gl X x) (hm : X.mg x = some u) (h : Q u s)
    (hd : (x == ("__debug__" : Str)) = false := by decide) : wpAny (model X.prog X.w) X.A (eval (.Name x pos) X.env) Q E s :=
  Calls.Name_function_global I.ok.kind hg (Calls.loadGlobal_global (by rw [I.ok.glob]; exact I.mod.glob.keeps I.bk) hm h) hd
theorem ld_blt {E : Value → Shared → Prop} {pins : List (Addr × Obj)} {s : Shared} {σ : St} {H : Hp} {x : Str} {u : Value} {pos : Pos} {Q : Value → Shared → Prop} (I : Inv X pins σ H s) (hg : Gl X x) (hm : X.mg x = none) (hv : bootBuiltins x = some u) (h : Q u s)
    (hn : x ≠ "__name__" := by decide) (hd : (x == ("__debug__" : Str)) = false := by decide) : wpAny (model X.prog X.w) X.A (eval (.Name x pos) X.env) Q E s := by
  obtain ⟨mb, h1, h2⟩ := I.mod.blt
  exact Calls.Name_function_global I.ok.kind hg (Calls.loadGlobal_builtin (by rw [I.ok.glob]; exact I.mod.glob.keeps I.bk) hm (by rw [I.ok.blt]; exact h1.keeps I.bk) ((h2 x hn).trans hv) h) hd
/-- a module's constant, a class, a function, as a value -/
theorem pe_glob {x : Str} {v : V} {u : Value} {pos : Pos} (hg : Gl X x) (hm : X.mg x = some u) (r : RelV v u) (hd : (x == ("__debug__" : Str)) = false := by decide) : PE X (.Name x pos) (tC v) :=
  fun _ _ _ H _ I h => ld_glob I hg hm ⟨v, H, I, r, h⟩ hd
theorem pe_bltn {x : Str} {v : V} {u : Value} {pos : Pos} (hg : Gl X x) (hm : X.mg x = none) (hv : bootBuiltins x = some u) (r : RelV v u) (hn : x ≠ "__name__" := by decide) (hd : (x == ("__debug__" : Str)) = false := by decide) : PE X (.Name x pos) (tC v) :=
  fun _ _ _ H _ I h => ld_blt I hg hm hv ⟨v, H, I, r, h⟩ hn hd

/-! ### arithmetic -/
variable {a b : Expr} {ta tb : TE} {pos : Pos}

/-! ### comparisons -/
/-- a comparison as a value, as a test -/
def tB (t : TE) : TT := fun σ H Q => t σ H fun x H1 => ∃ c, x = .bl c ∧ Q c H1
/-- an expression whose value is a bool, as a test -/
theorem pt_val {e : Expr} {t : TE} (h : PE X e t) (he : ∀ whole, isTrue e X.env whole = (do let v ← whole; standAt e.pos; holding [v] (truthy v)) := by intro _; rfl) : PT X e (tB t) := by
  intro pins s σ H Q I hw
  refine isTrue_plain (thn (h pins s σ H _ I hw) fun v s1 ⟨x, H1, I1, r1, q1⟩ => ?_) (he _)
  obtain ⟨d, rfl, q⟩ := q1
  cases r1
  exact wpAny_truthy_bool ⟨H1, I1, q⟩

/-! ### and, or, not -/
variable {tA tB' : TT} {rest : List Expr}
def tAnd (t u : TT) : TT := fun σ H Q => t σ H fun c H1 => if c = true then u σ H1 Q else Q false H1
def tOr (t u : TT) : TT := fun σ H Q => t σ H fun c H1 => if c = true then Q true H1 else u σ H1 Q
def tNot (t : TT) : TT := fun σ H Q => t σ H fun c H1 => Q (!c) H1
theorem pw_and1 (ha : PT X a tA) : PW X (.BoolOp .And [a] pos) tA := by
  intro wh pins s σ H Q I h
  refine isTrue_and (thn (ha pins s σ H Q I h) fun c s1 e => ?_)
  cases c with
  | true => exact isTrue_and_nil e
  | false => exact e
theorem pw_or1 (ha : PT X a tA) : PW X (.BoolOp .Or [a] pos) tA := by
  intro wh pins s σ H Q I h
  refine isTrue_or (thn (ha pins s σ H Q I h) fun c s1 e => ?_)
  cases c with
  | false => exact isTrue_or_nil e
  | true => exact e
theorem pw_and (ha : PT X a tA) (hb : PW X (.BoolOp .And (b :: rest) pos) tB') : PW X (.BoolOp .And (a :: b :: rest) pos) (tAnd tA tB') := by
  intro wh pins s σ H Q I h
  refine isTrue_and (thn (ha pins s σ H _ I h) fun c s1 ⟨H1, I1, q1⟩ => ?_)
  cases c with
  | true => exact hb wh pins s1 σ H1 Q I1 q1
  | false => exact ⟨H1, I1, q1⟩
theorem pw_or (ha : PT X a tA) (hb : PW X (.BoolOp .Or (b :: rest) pos) tB') : PW X (.BoolOp .Or (a :: b :: rest) pos) (tOr tA tB') := by
  intro wh pins s σ H Q I h
  refine isTrue_or (thn (ha pins s σ H _ I h) fun c s1 ⟨H1, I1, q1⟩ => ?_)
  cases c with
  | true => exact ⟨H1, I1, q1⟩
  | false => exact hb wh pins s1 σ H1 Q I1 q1
theorem pt_not (ha : PT X a tA) : PT X (.UnaryOp .Not a pos) (tNot tA) := by
  intro pins s σ H Q I h
  exact isTrue_not (ha pins s σ H (fun c H1 => Q (!c) H1) I h)
/-- .. as values (bools) -/
def tAndV (ta tb : TE) : TE := fun σ H Q => ta σ H fun x H1 => ∃ c, x = .bl c ∧ if c = true then tb σ H1 Q else Q (.bl false) H1
def tOrV (ta tb : TE) : TE := fun σ H Q => ta σ H fun x H1 => ∃ c, x = .bl c ∧ if c = true then Q (.bl true) H1 else tb σ H1 Q
def tNotV (ta : TE) : TE := fun σ H Q => ta σ H fun x H1 => ∃ c, x = .bl c ∧ Q (.bl (!c)) H1
theorem pe_one {op} {t : TE} (h : PE X a t) : PE X (.BoolOp op [a] pos) t := fun pins s σ H Q I hw => BoolOp_one (h pins s σ H Q I hw)
theorem pe_and (ha : PE X a ta) (hb : PE X (.BoolOp .And (b :: rest) pos) tb) : PE X (.BoolOp .And (a :: b :: rest) pos) (tAndV ta tb) := by
  intro pins s σ H Q I h
  refine BoolOp_and (thn (ha pins s σ H _ I h) fun v s1 ⟨x, H1, I1, r1, q1⟩ => ?_)
  obtain ⟨c, rfl, q1⟩ := q1
  cases r1
  refine wpAny_truthy_bool ?_
  cases c with
  | true => exact hb pins s1 σ H1 Q I1 q1
  | false => exact ⟨.bl false, H1, I1, rfl, q1⟩
theorem pe_or (ha : PE X a ta) (hb : PE X (.BoolOp .Or (b :: rest) pos) tb) : PE X (.BoolOp .Or (a :: b :: rest) pos) (tOrV ta tb) := by
  intro pins s σ H Q I h
  refine BoolOp_or (thn (ha pins s σ H _ I h) fun v s1 ⟨x, H1, I1, r1, q1⟩ => ?_)
  obtain ⟨c, rfl, q1⟩ := q1
  cases r1
  refine wpAny_truthy_bool ?_
  cases c with
  | false => exact hb pins s1 σ H1 Q I1 q1
  | true => exact ⟨.bl true, H1, I1, rfl, q1⟩
theorem pe_not (ha : PE X a ta) : PE X (.UnaryOp .Not a pos) (tNotV ta) := by
  intro pins s σ H Q I h
  refine UnaryOp_ (thn (ha pins s σ H _ I h) fun v s1 ⟨x, H1, I1, r1, q1⟩ => ?_)
  obtain ⟨c, rfl, q1⟩ := q1
  cases r1
  exact not_of (wpAny_truthy_bool ⟨.bl (!c), H1, I1, rfl, q1⟩)
/-- a if t else b -/
def tIf (t : TT) (ta tb : TE) : TE := fun σ H Q => t σ H fun c H1 => if c = true then ta σ H1 Q else tb σ H1 Q
theorem pe_ifExp {c : Expr} (hc : PT X c tA) (ha : PE X a ta) (hb : PE X b tb) : PE X (.IfExp c a b pos) (tIf tA ta tb) := by
  intro pins s σ H Q I h
  refine wpAny_IfExp (thn (hc pins s σ H _ I h) fun d s1 ⟨H1, I1, q1⟩ => ?_)
  cases d with
  | true => exact ha pins s1 σ H1 Q I1 q1
  | false => exact hb pins s1 σ H1 Q I1 q1
end
end L2

namespace L2
open PySem PySem.Spec PyProof.Rows

/-! ### a list, a tuple that is read: tracked, frozen, or an object of the module -/
def SqL (K : PySem.W.Frag) (H : Hp) (a : Addr) (xs : List V) : Prop :=
  Rd H a (.lst xs) ∨
    ∃ (o : Obj) (its : Array Value) (n : Nat), K.lookup a = some o ∧ o.cls = .type "list" ∧ o.dict = none ∧ o.data = .seq its n ∧ its.size ≤ sizeLine ∧ Vals xs its.toList
def SqT (K : PySem.W.Frag) (H : Hp) (a : Addr) (xs : List V) : Prop :=
  Rd H a (.tup xs) ∨
    ∃ (o : Obj) (its : Array Value) (n : Nat), K.lookup a = some o ∧ o.cls = .type "tuple" ∧ o.data = .seq its n ∧ its.size ≤ sizeLine ∧ Vals xs its.toList
def absV : Value → Option V
  | .none => some .non
  | .bool b => some (.bl b)
  | .int i _ => some (.int i)
  | .str x _ => some (.str x)
  | .bytes b _ => some (.byt b)
  | .float b _ => some (.flt b)
  | .ref a => some (.ref a)
  | .type n => some (.ty n)
  | _ => none
theorem RelV.abs {x : V} {u : Value} (r : RelV x u) : absV u = some x := by
  cases x with
  | non => cases r; rfl
  | bl _ => cases r; rfl
  | int _ => obtain ⟨t, rfl⟩ := r; rfl
  | str _ => obtain ⟨t, rfl⟩ := r; rfl
  | byt _ => obtain ⟨t, rfl⟩ := r; rfl
  | flt _ => obtain ⟨t, rfl⟩ := r; rfl
  | ref _ => cases r; rfl
  | ty _ => cases r; rfl
theorem RelV.inj {x y : V} {u : Value} (r : RelV x u) (q : RelV y u) : x = y := Option.some.inj (r.abs.symm.trans q.abs)
theorem Vals.inj : ∀ {xs ys : List V} {us : List Value}, Vals xs us → Vals ys us → xs = ys
  | _, _, _, .nil, .nil => rfl
  | _, _, _, .cons r t, .cons r' t' => by rw [r.inj r', Vals.inj t t']
section
variable {X : Cx} {pins : List (Addr × Obj)} {σ : St} {H : Hp} {s : Shared} {a : Addr} {xs ys : List V}
theorem SqL.of {K : PySem.W.Frag} (h : H a = some (.lst xs)) : SqL K H a xs := .inl (.inl h)
theorem SqT.of {K : PySem.W.Frag} (h : H a = some (.tup xs)) : SqT K H a xs := .inl (.inl h)
theorem Inv.list (I : Inv X pins σ H s) (h : SqL X.K H a xs) : ∃ its : List Value, Vals xs its ∧ PlainL s.heap a its.toArray ∧ xs.length ≤ sizeLine := by
  rcases h with h | ⟨o, its, n, hk, hc, hd, hs, hz, r⟩
  · obtain ⟨z, its, n, r, e⟩ := h.ok I.hok
    exact ⟨its, r, ⟨_, n, e, rfl, rfl, rfl⟩, z⟩
  · refine ⟨its.toList, r, ⟨o, n, I.kIn a o hk, hc, hd, by simpa using hs⟩, ?_⟩
    have e := r.length
    simp only [Array.length_toList] at e
    omega
theorem Inv.tuple (I : Inv X pins σ H s) (h : SqT X.K H a xs) : ∃ its : List Value, Vals xs its ∧ IsTup s.heap a its.toArray ∧ xs.length ≤ sizeLine := by
  rcases h with h | ⟨o, its, n, hk, hc, hs, hz, r⟩
  · obtain ⟨z, its, r, p⟩ := h.ok I.hok
    exact ⟨its, r, p, z⟩
  · refine ⟨its.toList, r, ⟨o, I.kIn a o hk, hc, n, by simpa using hs⟩, ?_⟩
    have e := r.length
    simp only [Array.length_toList] at e
    omega
theorem Inv.list_inj (I : Inv X pins σ H s) (h : SqL X.K H a xs) (h' : SqL X.K H a ys) : xs = ys := by
  obtain ⟨its, r, ⟨o, n, e, _, _, d⟩, _⟩ := I.list h
  obtain ⟨its', r', ⟨o', n', e', _, _, d'⟩, _⟩ := I.list h'
  rw [e] at e'; cases e'
  rw [d] at d'
  injection d' with d1 _
  have : its = its' := by simpa using congrArg Array.toList d1
  subst this
  exact r.inj r'
theorem Inv.tuple_inj (I : Inv X pins σ H s) (h : SqT X.K H a xs) (h' : SqT X.K H a ys) : xs = ys := by
  obtain ⟨its, r, ⟨o, e, _, n, d⟩, _⟩ := I.tuple h
  obtain ⟨its', r', ⟨o', e', _, n', d'⟩, _⟩ := I.tuple h'
  rw [e] at e'; cases e'
  rw [d] at d'
  injection d' with d1 _
  have : its = its' := by simpa using congrArg Array.toList d1
  subst this
  exact r.inj r'
end

/-! ### another wish about exceptions -/
abbrev Cx.wish (X : Cx) (E : Value → Shared → Prop) : Cx := { X with xe := E }
/-- no exception leaves -/
abbrev Cx.nox (X : Cx) : Cx := X.wish fun _ _ => False
theorem Cx.Ok.wish {X : Cx} (ok : X.Ok) (E : Value → Shared → Prop) : (X.wish E).Ok :=
  ⟨ok.mod, ok.kind, ok.glob, ok.blt, ok.above, ok.inj, ok.has, ok.cab, ok.hd, ok.frames, ok.stk, ok.exf, ok.bs, ok.bsz, ok.noex, ok.exfs, ok.funs, ok.frf⟩
theorem Cx.Ok.unwish {X : Cx} {E : Value → Shared → Prop} (ok : (X.wish E).Ok) : X.Ok :=
  ⟨ok.mod, ok.kind, ok.glob, ok.blt, ok.above, ok.inj, ok.has, ok.cab, ok.hd, ok.frames, ok.stk, ok.exf, ok.bs, ok.bsz, ok.noex, ok.exfs, ok.funs, ok.frf⟩
section
variable {X : Cx} {pins : List (Addr × Obj)} {σ : St} {H : Hp} {s : Shared} {E : Value → Shared → Prop}
theorem Inv.wish (I : Inv X pins σ H s) (E : Value → Shared → Prop) : Inv (X.wish E) pins σ H s := ⟨I.ok.wish E, I.os, I.bare, I.base, I.loc, I.cell, I.free, I.freeC, I.pin, I.hok, I.len⟩
theorem Inv.unwish (I : Inv (X.wish E) pins σ H s) : Inv X pins σ H s := ⟨I.ok.unwish, I.os, I.bare, I.base, I.loc, I.cell, I.free, I.freeC, I.pin, I.hok, I.len⟩
theorem SP.unwish {D : Ends} {f : Flow} {s' : Shared} (h : SP (X.wish E) pins D f s') : SP X pins D f s' := by
  cases f with
  | next => obtain ⟨σ', H', I, q⟩ := h; exact ⟨σ', H', I.unwish, q⟩
  | brk => obtain ⟨σ', H', I, q⟩ := h; exact ⟨σ', H', I.unwish, q⟩
  | cont => obtain ⟨σ', H', I, q⟩ := h; exact ⟨σ', H', I.unwish, q⟩
  | ret u => obtain ⟨v, σ', H', I, r, q⟩ := h; exact ⟨v, σ', H', I.unwish, r, q⟩
theorem PSs.nox {st : List Stmt} {t : TS} (h : PSs X.nox st t) : PSs X st t := fun pins s σ H D I hw =>
  wpAny_mono (h pins s σ H D (I.wish _) hw) (fun _ _ q => q.unwish) fun _ _ z => False.elim z
end

/-! ### blocks and small statements -/
section
variable {X : Cx} {st : Stmt} {rest : List Stmt} {t u : TS} {e : Expr} {te : TE} {pos : Pos}
def tNext : TS := fun D σ H => D.nx σ H
def tSeq (t u : TS) : TS := fun D σ H => t { D with nx := u D } σ H
theorem pss_nil : PSs X [] tNext := fun _ _ σ H _ I h => wpAny_execs_nil ⟨σ, H, I, h⟩
theorem pss_cons (h1 : PS X st t) (h2 : PSs X rest u) : PSs X (st :: rest) (tSeq t u) := by
  intro pins s σ H D I h
  refine wpAny_execs_cons (thn (h1 pins s σ H { D with nx := u D } I h) fun f s1 q => ?_)
  cases f with
  | next =>
    obtain ⟨σ', H', I', q⟩ := q
    exact h2 pins s1 σ' H' D I' q
  | ret v => exact q
  | brk => exact q
  | cont => exact q
theorem pss_one (h1 : PS X st t) : PSs X [st] t := by
  intro pins s σ H D I h
  refine wpAny_execs_cons (thn (h1 pins s σ H D I h) fun f s1 q => ?_)
  cases f with
  | next => exact wpAny_execs_nil q
  | ret v => exact q
  | brk => exact q
  | cont => exact q
/-- in a def's body nothing is shown -/
theorem Inv.quiet {pins : List (Addr × Obj)} {σ : St} {H : Hp} {s : Shared} (I : Inv X pins σ H s) : interactive X.env = false := by simp [interactive, I.ok.kind]
/-- an expression whose value is dropped -/
def tDrop (te : TE) : TS := fun D σ H => te σ H fun _ H1 => D.nx σ H1
theorem ps_expr (he : PE X e te) (hs : swapsWith e none pos.line X.env = pure false := by rfl) : PS X (.Expr e pos) (tDrop te) := by
  intro pins s σ H D I h
  exact wpAny_Expr_any (thn (he pins s σ H _ I h) fun v s1 ⟨x, H1, I1, r1, q1⟩ => ⟨σ, H1, I1, q1⟩) I.quiet hs
def tRet (te : TE) : TS := fun D σ H => te σ H D.rt
theorem ps_ret (he : PE X e te) : PS X (.Return (some e) pos) (tRet te) := by
  intro pins s σ H D I h
  exact wpAny_Return_some (thn (he pins s σ H _ I h) fun v s1 ⟨x, H1, I1, r1, q1⟩ => ⟨x, σ, H1, I1, r1, q1⟩)
def tIfS (c : TT) (t u : TS) : TS := fun D σ H => c σ H fun b H1 => if b = true then t D σ H1 else u D σ H1
theorem ps_if {c : Expr} {a b : List Stmt} {tc : TT} (hc : PT X c tc) (ha : PSs X a t) (hb : PSs X b u) : PS X (.If c a b pos) (tIfS tc t u) := by
  intro pins s σ H D I h
  refine wpAny_If (thn (hc pins s σ H _ I h) fun d s1 ⟨H1, I1, q1⟩ => ?_)
  cases d with
  | true => exact ha pins s1 σ H1 D I1 q1
  | false => exact hb pins s1 σ H1 D I1 q1
end

/-! ### targets -/
abbrev TG := V → St → Hp → (St → Hp → Prop) → Prop
abbrev TGs := List V → St → Hp → (St → Hp → Prop) → Prop
def PG (X : Cx) (target : Expr) (t : TG) : Prop :=
  ∀ (pins : List (Addr × Obj)) (s : Shared) (σ : St) (H : Hp) (v : V) (u : Value) (Q : St → Hp → Prop), Inv X pins σ H s → RelV v u → t v σ H Q →
    wpAny (model X.prog X.w) X.A (assign target X.env u) (fun _ s' => ∃ σ' H', Inv X pins σ' H' s' ∧ Q σ' H') X.xe s
/-- several targets, one after another -/
def PGs (X : Cx) (ts : List Expr) (t : TGs) : Prop :=
  ∀ (pins : List (Addr × Obj)) (s : Shared) (σ : St) (H : Hp) (vs : List V) (us : List Value) (Q : St → Hp → Prop), Inv X pins σ H s → Vals vs us → t vs σ H Q →
    wpAny (model X.prog X.w) X.A (assignInOrder ((assignEach ts X.env).map (·.2)) us) (fun _ s' => ∃ σ' H', Inv X pins σ' H' s' ∧ Q σ' H') X.xe s
section
variable {X : Cx} {pos : Pos}
def gName (i : Nat) : TG := fun v σ H Q => Q (σ.set i (some v)) H
theorem pg_name {i : Nat} {x : Str} (hN : X.N.Nodup) (hi : X.N[i]? = some x) (hx : Loc X.env.scope x) (hf : X.fn x = true ∨ X.env.scope.names.lookup x = some .local := by first | exact .inl rfl | exact .inr rfl | assumption) : PG X (.Name x pos) (gName i) := by
  intro pins s σ H v u Q I r h
  exact wpAny_assign_Name (store_ok I hN hi hx r (fun s' I' => ⟨_, H, I', h⟩) hf)
def gNil : TGs := fun vs σ H Q => vs = [] ∧ Q σ H
def gCons (t : TG) (u : TGs) : TGs := fun vs σ H Q => ∃ v r, vs = v :: r ∧ t v σ H fun σ' H' => u r σ' H' Q
theorem pgs_nil : PGs X [] gNil := by
  intro pins s σ H vs us Q I r h
  obtain ⟨e, h⟩ := h
  subst e
  cases r
  exact assignInOrder_nil ⟨σ, H, I, h⟩
theorem pgs_cons {e : Expr} {es : List Expr} {t : TG} {u : TGs} (h1 : PG X e t) (h2 : PGs X es u)
    (hs : (assignEach (e :: es) X.env).map (·.2) = assign e X.env :: (assignEach es X.env).map (·.2) := by rfl) : PGs X (e :: es) (gCons t u) := by
  intro pins s σ H vs us Q I r h
  obtain ⟨v, vr, e1, h⟩ := h
  subst e1
  cases r with
  | cons r rr =>
    rw [hs]
    refine assignInOrder_cons (thn (h1 pins s σ H _ _ _ I r h) fun _ s1 ⟨σ1, H1, I1, q1⟩ => ?_)
    exact h2 pins s1 σ1 H1 _ _ Q I1 rr q1
/-- (a, b, ..) = a tuple of that length -/
def gTup (K : PySem.W.Frag) (n : Nat) (t : TGs) : TG := fun v σ H Q => ∃ a xs, v = .ref a ∧ SqT K H a xs ∧ xs.length = n ∧ t xs σ H Q
theorem pg_tup {es : List Expr} {k : Nat} {t : TGs} {n : Nat} (hc : X.calm = true) (h : PGs X es t)
    (hn : (assignEach es X.env).length = n := by rfl) (hst : (assignEach es X.env).findIdx? (·.1) = none := by rfl) : PG X (.Tuple es k pos) (gTup X.K n t) := by
  intro pins s σ H v u Q I r hw
  obtain ⟨a, xs, e1, hq, hl, hw⟩ := hw
  subst e1
  cases r
  obtain ⟨its, rv, ht, hz⟩ := I.tuple hq
  refine assign_Tuple_tuple (I.ok.hd hc) ht (by simp [hn, ← hl, rv.length]) hst fun h' hx => ?_
  have I1 : Inv X pins σ H { s with heap := h' } := I.kept (t' := s.toks) fun b o e => hx b o (Nat.ne_of_lt (Heap.lt_size e)) e
  exact h pins _ σ H xs _ Q I1 (by simpa using rv) hw
/-- target = value -/
def tAsg (te : TE) (g : TG) : TS := fun D σ H => te σ H fun x H1 => g x σ H1 D.nx
theorem ps_asg {tg e : Expr} {te : TE} {g : TG} (he : PE X e te) (hg : PG X tg g) (hs : swapsWithSole [tg] e pos.line X.env = pure false := by rfl) (hw : swappedStores [tg] e X.env = pure none := by rfl)
    (h1 : (assignEach [tg] X.env).map (·.2) = [assign tg X.env] := by rfl) : PS X (.Assign [tg] e pos) (tAsg te g) := by
  intro pins s σ H D I h
  refine wpAny_Assign_stores (thn (he pins s σ H _ I h) fun v s1 ⟨x, H1, I1, r1, q1⟩ => ?_) hs hw
  rw [h1]
  exact thn (hg pins s1 σ H1 x v _ I1 r1 q1) fun _ s2 q => q
/-- name = value -/
theorem ps_set {i : Nat} {x : Str} {e : Expr} {te : TE} {pos' : Pos} (hN : X.N.Nodup) (hi : X.N[i]? = some x) (hx : Loc X.env.scope x) (he : PE X e te) (hs : swapsWith e (some (.Name x pos')) pos.line X.env = pure false := by rfl) (hf : X.fn x = true ∨ X.env.scope.names.lookup x = some .local := by first | exact .inl rfl | exact .inr rfl | assumption) :
    PS X (.Assign [.Name x pos'] e pos) (tAsg te (gName i)) := by
  intro pins s σ H D I h
  refine wpAny_Assign_Name (thn (he pins s σ H _ I h) fun v s1 ⟨y, H1, I1, r1, q1⟩ => ?_) hs
  exact store_ok I1 hN hi hx r1 (fun s2 I2 => ⟨_, H1, I2, q1⟩) hf
end

/-! ### while -/
section
variable {X : Cx} {pos : Pos}
/-- the invariant W with its measure -/
def tWhile (c : TT) (tb : TS) : TS := fun D σ H => ∃ W : Nat → St → Hp → Prop, (∃ m, W m σ H) ∧ ∀ m σ H, W m σ H →
  c σ H fun b H1 => if b = true then ∃ N : St → Hp → Prop, (∀ σ' H', N σ' H' → ∃ m', m' < m ∧ W m' σ' H') ∧ tb { D with nx := N, ct := N, bk := D.nx } σ H1 else D.nx σ H1
theorem ps_while {c : Expr} {body : List Stmt} {tc : TT} {tb : TS} (hp : PassesOwn (model X.prog X.w) X.A X.env X.xe) (hc : PT X c tc) (hb : PSs X body tb) : PS X (.While c body [] pos) (tWhile tc tb) := by
  intro pins s σ H D I h
  obtain ⟨W, ⟨m0, w0⟩, turn⟩ := h
  refine wpAny_While (codeAny_whileLoop (fun n s' => ∃ σ' H', Inv X pins σ' H' s' ∧ W n σ' H') ?_ m0 ⟨σ, H, I, w0⟩)
  rintro n s1 ⟨σ1, H1, I1, w1⟩
  refine wpAny_passesOwn hp (thn (hc pins s1 σ1 H1 _ I1 (turn n σ1 H1 w1)) fun b s2 ⟨H2, I2, q2⟩ => ?_)
  cases b with
  | true =>
    obtain ⟨N, hN, q2⟩ := q2
    rw [if_pos rfl]
    refine wpAny_passesOwn hp (thn (hb pins s2 σ1 H2 _ I2 q2) fun f s3 q3 => ?_)
    cases f with
    | next =>
      obtain ⟨σ3, H3, I3, n3⟩ := q3
      obtain ⟨m', hm, w3⟩ := hN σ3 H3 n3
      exact ⟨m', hm, σ3, H3, I3, w3⟩
    | cont =>
      obtain ⟨σ3, H3, I3, n3⟩ := q3
      obtain ⟨m', hm, w3⟩ := hN σ3 H3 n3
      exact ⟨m', hm, σ3, H3, I3, w3⟩
    | brk => exact q3
    | ret v => exact q3
  | false =>
    rw [if_neg Bool.false_ne_true]
    exact wpAny_execs_nil ⟨σ1, H2, I2, q2⟩
end

/-! ### what a loop or a comprehension walks -/
/-- at turn i: it yields x (the heap may grow), or it stops -/
structure It where
  go : Nat → Hp → Prop
  yld : Nat → Hp → V → Hp → Prop
  stop : Nat → Hp → Prop
/-- the iterator's own objects may turn: they are not the frame's, not pinned, younger than the entry (or a comprehension's own) -/
def FpOk (X : Cx) (pins : List (Addr × Obj)) (H : Hp) (b : Addr) : Prop :=
  H b = none ∧ b ≠ X.env.locals ∧ b ∉ X.fs ∧ (b ∈ X.ex ∨ X.s₀.heap.objs.size ≤ b) ∧ (∀ x c, X.env.cells.lookup x = some c → c ≠ b) ∧ ∀ p ∈ X.pn ++ pins, p.1 ≠ b
theorem Inv.fpOk {X : Cx} {pins : List (Addr × Obj)} {σ : St} {H H' : Hp} {s : Shared} {b : Addr} (I : Inv X pins σ H s) (hb : s.heap.objs.size ≤ b) (hn : H' b = none) : FpOk X pins H' b := by
  refine ⟨hn, Nat.ne_of_gt (Nat.lt_of_lt_of_le I.lt hb), I.nofs hb, .inr (Nat.le_trans I.sz hb), fun x c e z => ?_, fun p hp z => ?_⟩
  · obtain ⟨v, q⟩ := I.cell x c e
    exact absurd (Nat.lt_of_lt_of_le q.lt (by rw [z]; exact hb)) (Nat.lt_irrefl _)
  · exact absurd (Nat.lt_of_lt_of_le (Heap.lt_size (I.pin p hp).1) (by rw [z]; exact hb)) (Nat.lt_irrefl _)
structure Turn (P : Program) (w : World) (K : PySem.W.Frag) (tg : Expr) (J : It) (fp : List Addr) (it : Addr) (tn : Nat → Heap → Prop) : Prop where
  mem : it ∈ fp
  obj : ∀ i h, tn i h → ∀ b ∈ fp, ∃ o, h.get? b = some o ∧ ∀ v, o.data ≠ .cell v
  keep : ∀ i h h', tn i h → (∀ b ∈ fp, ∀ o, h.get? b = some o → h'.get? b = some o) → tn i h'
  item : ∀ (X : Cx), X.prog = P → X.w = w → X.K = K → X.calm = true → ∀ (i : Nat) (pins : List (Addr × Obj)) (s : Shared) (σ : St) (H : Hp) (E : Value → Shared → Prop), Inv X pins σ H s → (∀ b ∈ fp, FpOk X pins H b) → tn i s.heap → J.go i H →
    wpAny (model P w) X.A (pyNext (.ref it)) (fun r s1 => ∃ u, r = some u ∧
      wpAny (model P w) X.A (letOwnedTupleGo tg (.ref it) u) (fun _ s2 => ∃ x H', Inv X pins σ H' s2 ∧ RelV x u ∧ J.yld i H x H' ∧ tn (i + 1) s2.heap ∧ ∀ b ∈ fp, H' b = none) E s1) E s
  done : ∀ (X : Cx), X.prog = P → X.w = w → X.K = K → X.calm = true → ∀ (i : Nat) (pins : List (Addr × Obj)) (s : Shared) (σ : St) (H : Hp) (E : Value → Shared → Prop), Inv X pins σ H s → (∀ b ∈ fp, FpOk X pins H b) → tn i s.heap → J.stop i H →
    wpAny (model P w) X.A (pyNext (.ref it)) (fun r s1 => r = none ∧ Inv X pins σ H s1) E s
  self : ∀ (A : Around) (i : Nat) (s : Shared) (Q : Value → Shared → Prop) (E : Value → Shared → Prop), tn i s.heap → Q (.ref it) s → wpAny (model P w) A (pyIter (.ref it)) Q E s
abbrev TI := St → Hp → (It → Hp → Prop) → Prop
/-- an iterator has come -/
def PIE (X : Cx) (pins : List (Addr × Obj)) (σ : St) (tg : Expr) (R : It → Hp → Prop) (itv : Value) (s2 : Shared) : Prop :=
  ∃ (it : Addr) (fp : List Addr) (tn : Nat → Heap → Prop) (J : It) (H' : Hp), itv = .ref it ∧ Inv X pins σ H' s2 ∧ Turn X.prog X.w X.K tg J fp it tn ∧ tn 0 s2.heap ∧ (∀ b ∈ fp, FpOk X pins H' b) ∧ R J H'
def PI (X : Cx) (tg iter : Expr) (wi : TI) : Prop :=
  ∀ (pins : List (Addr × Obj)) (s : Shared) (σ : St) (H : Hp) (R : It → Hp → Prop), Inv X pins σ H s → wi σ H R →
    wpAny (model X.prog X.w) X.A (eval iter X.env) (fun v s1 => wpAny (model X.prog X.w) X.A (pyIter v) (PIE X pins σ tg R) X.xe s1) X.xe s

/-- the step ahead of the store is nothing for an iterator that keeps no tuple -/
theorem go_of {M : Model} {A : Around} {E : Value → Shared → Prop} {s : Shared} {tg : Expr} {it : Addr} {u : Value} {o : Obj} {n : String} {vs : Array Value} {Q : Unit → Shared → Prop} (ho : s.heap.get? it = some o) (hc : o.cls = .type n) (hd : o.data = .fields vs)
    (hn : ["enumerate", "zip", "dict_itemiterator", "dict_reverseitemiterator", "odict_iterator", "itertools.zip_longest", "itertools.pairwise"].contains n = false) (hQ : Q () s) : wpAny M A (letOwnedTupleGo tg (.ref it) u) Q E s := by
  unfold letOwnedTupleGo
  cases tg <;> first
    | exact wpAny_pure hQ
    | (cases u <;> first
        | exact wpAny_pure hQ
        | (refine wpAny_bind (wpAny_load ho ?_)
           rw [hc, hd]
           show wpAny M A (if (["enumerate", "zip", "dict_itemiterator", "dict_reverseitemiterator", "odict_iterator", "itertools.zip_longest", "itertools.pairwise"].contains n && vs[0]? == some (rawInt _)) = true then _ else _) Q E s
           rw [if_neg (by intro h; rw [hn, Bool.false_and] at h; cases h)]
           exact wpAny_pure hQ))

/-- the list at a, as it stands at each turn (a loop may append to it) -/
def Itl (K : PySem.W.Frag) (a : Addr) : It :=
  ⟨fun i H => ∃ xs x, SqL K H a xs ∧ xs[i]? = some x, fun i H x H' => H' = H ∧ ∀ xs, SqL K H a xs → xs[i]? = some x, fun i H => ∃ xs, SqL K H a xs ∧ xs.length ≤ i⟩
def Itt (K : PySem.W.Frag) (a : Addr) : It :=
  ⟨fun i H => ∃ xs x, SqT K H a xs ∧ xs[i]? = some x, fun i H x H' => H' = H ∧ ∀ xs, SqT K H a xs → xs[i]? = some x, fun i H => ∃ xs, SqT K H a xs ∧ xs.length ≤ i⟩
/-- lo, lo + 1, .. (n of them) -/
def Itr (lo : Int) (n : Nat) : It := ⟨fun i _ => i < n, fun i H x H' => H' = H ∧ x = .int (lo + i), fun i _ => n ≤ i⟩
theorem turn_list {P : Program} {w : World} {K : PySem.W.Frag} {tg : Expr} (a it : Addr) : Turn P w K tg (Itl K a) [it] it (fun i h => h.IsListIter it a i) where
  mem := by simp
  obj := fun i h st b hb => by
    have e : b = it := by simpa using hb
    subst e
    obtain ⟨o, e, c, d⟩ := st
    exact ⟨o, e, fun v z => by rw [d] at z; cases z⟩
  keep := fun i h h' st k => st.at fun o e => k it (by simp) o e
  item := by
    intro X hP hw hK hc i pins s σ H E I hf st hg
    subst hP hw hK
    obtain ⟨xs, x, hq, hx⟩ := hg
    obtain ⟨its, rv, p, hz⟩ := I.list hq
    obtain ⟨u, hu, ru⟩ := rv.get hx
    obtain ⟨f0, f1, f2, f3, f4, f5⟩ := hf it (by simp)
    refine wpAny_pyNext_list_item st p.isList (x := u) (by simpa using hu) fun h' st' sb => ?_
    have I1 : Inv X pins σ H { s with heap := h' } := I.turned (t' := s.toks) (fun b o hb e => (sb.2 b hb).trans e) f0 f1 f3 f4 f5
    obtain ⟨o, e, c, d⟩ := id st'
    exact ⟨u, rfl, go_of (s := { s with heap := h' }) e c d (by decide) ⟨x, H, I1, ru, ⟨rfl, fun ys hy => by rw [I.list_inj hy hq]; exact hx⟩, st', fun b hb => (hf b hb).1⟩⟩
  done := by
    intro X hP hw hK hc i pins s σ H E I hf st hg
    subst hP hw hK
    obtain ⟨xs, hq, hx⟩ := hg
    obtain ⟨its, rv, p, hz⟩ := I.list hq
    obtain ⟨f0, f1, f2, f3, f4, f5⟩ := hf it (by simp)
    have hl := rv.length
    exact wpAny_pyNext_list_end (I.ok.hd hc) st p.isList (by simp; omega) fun h' eb => ⟨rfl, I.turned (t' := s.toks) (fun b o hb e => eb b o hb e) f0 f1 f3 f4 f5⟩
  self := fun _ _ _ _ _ st h => wpAny_pyIter_listiter st h
theorem turn_tuple {P : Program} {w : World} {K : PySem.W.Frag} {tg : Expr} (a it : Addr) : Turn P w K tg (Itt K a) [it] it (fun i h => h.IsTupleIter it a i) where
  mem := by simp
  obj := fun i h st b hb => by
    have e : b = it := by simpa using hb
    subst e
    obtain ⟨o, e, c, d⟩ := st
    exact ⟨o, e, fun v z => by rw [d] at z; cases z⟩
  keep := fun i h h' st k => st.at fun o e => k it (by simp) o e
  item := by
    intro X hP hw hK hc i pins s σ H E I hf st hg
    subst hP hw hK
    obtain ⟨xs, x, hq, hx⟩ := hg
    obtain ⟨its, rv, p, hz⟩ := I.tuple hq
    obtain ⟨u, hu, ru⟩ := rv.get hx
    obtain ⟨f0, f1, f2, f3, f4, f5⟩ := hf it (by simp)
    refine wpAny_pyNext_tuple_item st (show s.heap.IsTuple a its.toArray from p) (x := u) (by simpa using hu) fun h' st' sb => ?_
    have I1 : Inv X pins σ H { s with heap := h' } := I.turned (t' := s.toks) (fun b o hb e => (sb.2 b hb).trans e) f0 f1 f3 f4 f5
    obtain ⟨o, e, c, d⟩ := id st'
    exact ⟨u, rfl, go_of (s := { s with heap := h' }) e c d (by decide) ⟨x, H, I1, ru, ⟨rfl, fun ys hy => by rw [I.tuple_inj hy hq]; exact hx⟩, st', fun b hb => (hf b hb).1⟩⟩
  done := by
    intro X hP hw hK hc i pins s σ H E I hf st hg
    subst hP hw hK
    obtain ⟨xs, hq, hx⟩ := hg
    obtain ⟨its, rv, p, hz⟩ := I.tuple hq
    obtain ⟨f0, f1, f2, f3, f4, f5⟩ := hf it (by simp)
    have hl := rv.length
    exact wpAny_pyNext_tuple_end (I.ok.hd hc) st (show s.heap.IsTuple a its.toArray from p) (by simp; omega) fun h' eb => ⟨rfl, I.turned (t' := s.toks) (fun b o hb e => eb b o hb e) f0 f1 f3 f4 f5⟩
  self := fun _ _ _ _ _ st h => wpAny_pyIter_tupleiter st h
theorem turn_range {P : Program} {w : World} {K : PySem.W.Frag} {tg : Expr} (it : Addr) (lo : Int) (n : Nat) : Turn P w K tg (Itr lo n) [it] it (fun i h => IsRangeIter h it (lo + (i : Nat) * 1) ((n : Int) - (i : Nat)) 1) where
  mem := by simp
  obj := fun i h st b hb => by
    have e : b = it := by simpa using hb
    subst e
    exact ⟨_, st, fun v z => by
      have z' : Data.fields _ = Data.cell v := z
      cases z'⟩
  keep := fun i h h' st k => k it (by simp) _ st
  item := by
    intro X hP hw hK hc i pins s σ H E I hf st hg
    subst hP hw hK
    obtain ⟨f0, f1, f2, f3, f4, f5⟩ := hf it (by simp)
    have W := Walks.range (prog := X.prog) (w := X.w) (I.ok.hd hc) it lo 1 n
    refine W.item i s _ _ hg st fun v h' tk hv st' kk => ?_
    obtain ⟨t, rfl⟩ := hv
    have I1 : Inv X pins σ H { s with heap := h', toks := tk } := I.turned (fun b o hb e => kk b o (by simpa using hb) e) f0 f1 f3 f4 f5
    refine ⟨_, rfl, go_of (s := { s with heap := h', toks := tk }) (n := "range_iterator") st' rfl rfl (by decide) ⟨.int (lo + i), H, I1, ⟨t, ?_⟩, ⟨rfl, rfl⟩, st', fun b hb => (hf b hb).1⟩⟩
    rw [Int.mul_one]
  done := by
    intro X hP hw hK hc i pins s σ H E I hf st hg
    subst hP hw hK
    obtain ⟨f0, f1, f2, f3, f4, f5⟩ := hf it (by simp)
    exact wpAny_pyNext_range_end (I.ok.hd hc) st (by have : n ≤ i := hg; omega) fun h' eb => ⟨rfl, I.turned (t' := s.toks) (fun b o hb e => eb b o hb e) f0 f1 f3 f4 f5⟩
  self := fun _ _ _ _ _ st h => wpAny_pyIter_rangeiter st h
end L2

namespace L2
open PySem PySem.Spec PyProof.Rows
section
variable {X : Cx} {tg : Expr}
def iList (K : PySem.W.Frag) (tl : TE) : TI := fun σ H R => tl σ H fun x H1 => ∃ a, x = .ref a ∧ (∃ xs, SqL K H1 a xs) ∧ R (Itl K a) H1
def iTup (K : PySem.W.Frag) (tl : TE) : TI := fun σ H R => tl σ H fun x H1 => ∃ a, x = .ref a ∧ (∃ xs, SqT K H1 a xs) ∧ R (Itt K a) H1
theorem pi_list {l : Expr} {tl : TE} (hl : PE X l tl) : PI X tg l (iList X.K tl) := by
  intro pins s σ H R I h
  refine thn (hl pins s σ H _ I h) fun v s1 ⟨x, H1, I1, r1, q1⟩ => ?_
  obtain ⟨a, e, ⟨xs, hq⟩, q⟩ := q1
  subst e
  cases r1
  obtain ⟨its, rv, p, hz⟩ := I1.list hq
  refine wpAny_pyIter_list p.isList ?_
  refine ⟨s1.heap.objs.size, [s1.heap.objs.size], _, _, H1, rfl, I1.kept (t' := s1.toks) fun b o e => Heap.get?_push_of_some _ e, turn_list a _, ⟨_, Heap.get?_push_size _ rfl, rfl, rfl⟩, fun b hb => ?_, q⟩
  have e : b = s1.heap.objs.size := by simpa using hb
  subst e
  exact I1.fpOk (Nat.le_refl _) (I1.hok.fresh (Nat.le_refl _))
theorem pi_tup {l : Expr} {tl : TE} (hl : PE X l tl) : PI X tg l (iTup X.K tl) := by
  intro pins s σ H R I h
  refine thn (hl pins s σ H _ I h) fun v s1 ⟨x, H1, I1, r1, q1⟩ => ?_
  obtain ⟨a, e, ⟨xs, hq⟩, q⟩ := q1
  subst e
  cases r1
  obtain ⟨its, rv, p, hz⟩ := I1.tuple hq
  refine wpAny_pyIter_tuple (show s1.heap.IsTuple a its.toArray from p) ?_
  refine ⟨s1.heap.objs.size, [s1.heap.objs.size], _, _, H1, rfl, I1.kept (t' := s1.toks) fun b o e => Heap.get?_push_of_some _ e, turn_tuple a _, ⟨_, Heap.get?_push_size _ rfl, rfl, rfl⟩, fun b hb => ?_, q⟩
  have e : b = s1.heap.objs.size := by simpa using hb
  subst e
  exact I1.fpOk (Nat.le_refl _) (I1.hok.fresh (Nat.le_refl _))
/-- a range object just made, walked -/
theorem range_it {pins : List (Addr × Obj)} {σ : St} {H : Hp} {s : Shared} {R : It → Hp → Prop} {E : Value → Shared → Prop} {lo hi : Int} {t u v : Tok} {tk : Nat} (I : Inv X pins σ H s) (h1 : -(2 ^ 62) ≤ lo) (h2 : lo < 2 ^ 62) (h3 : -(2 ^ 62) ≤ hi) (h4 : hi < 2 ^ 62)
    (q : R (Itr lo (hi - lo).toNat) H) : wpAny (model X.prog X.w) X.A (pyIter (.ref s.heap.objs.size)) (PIE X pins σ tg R) E { s with heap := s.heap.push { cls := .type "range", data := .fields #[.int lo t, .int hi u, .int 1 v] }, toks := tk } := by
  refine wpAny_pyIter_range (IsRange.new ..) (small_one h1 h2 h3 h4) ?_
  have I1 : Inv X pins σ H { s with heap := s.heap.push { cls := .type "range", data := .fields #[.int lo t, .int hi u, .int 1 v] }, toks := tk } := I.kept fun b o e => Heap.get?_push_of_some _ e
  refine ⟨(s.heap.push { cls := .type "range", data := .fields #[.int lo t, .int hi u, .int 1 v] }).objs.size, [(s.heap.push { cls := .type "range", data := .fields #[.int lo t, .int hi u, .int 1 v] }).objs.size], _, _, H, rfl,
    I1.kept (t' := tk) fun b o e => Heap.get?_push_of_some _ e, turn_range _ lo (hi - lo).toNat, ?_, fun b hb => ?_, q⟩
  · have e1 : lo + ((0 : Nat) : Int) * 1 = lo := by simp
    have e2 : (((hi - lo).toNat : Nat) : Int) - ((0 : Nat) : Int) = Builtin.Range.rangeSize lo hi 1 := by rw [rangeSize_one]; split <;> omega
    show IsRangeIter _ _ (lo + ((0 : Nat) : Int) * 1) ((((hi - lo).toNat : Nat) : Int) - ((0 : Nat) : Int)) 1
    rw [e1, e2]
    exact Heap.get?_push_size _ rfl
  · have e : b = (s.heap.push { cls := .type "range", data := .fields #[.int lo t, .int hi u, .int 1 v] }).objs.size := by simpa using hb
    subst e
    exact I1.fpOk (Nat.le_refl _) (I1.hok.fresh (Nat.le_refl _))
def iRng1 (ta : TA) : TI := fun σ H R => ta σ H fun vs H1 => ∃ j : Int, vs = [.int j] ∧ -(2 ^ 62) ≤ j ∧ j < 2 ^ 62 ∧ R (Itr 0 j.toNat) H1
theorem pi_range1 {a : Expr} {ta : TA} {p pos : Pos} (hg : Gl X "range") (hm : X.mg "range" = none) (ha : PA X [a] ta) (hs : starEach [a] X.env = [(false, eval a X.env)] := by rfl) : PI X tg (.Call (.Name "range" p) [a] [] pos) (iRng1 ta) := by
  intro pins s σ H R I h
  refine Call_ (ld_blt I hg hm boot_range (PyProof.Rows.callWith_type1 (thn (ha pos pins s σ H _ I h) fun us s1 ⟨vs, H1, I1, r1, q1⟩ => ?_) hs rfl))
  obtain ⟨j, e, q1, q2, q⟩ := q1
  subst e
  cases r1 with
  | cons r rr =>
    cases rr
    obtain ⟨t, rfl⟩ := r
    exact call_range_1 (range_it I1 (by omega) (by omega) q1 q2 (by simpa using q))

/-! ### for -/
/-- W: the invariant by the turn and a measure; N: what the body is to reach -/
def tFor (wi : TI) (g : TG) (tb : TS) : TS := fun D σ H => wi σ H fun J H1 => ∃ W : Nat → Nat → St → Hp → Prop, (∃ m, W 0 m σ H1) ∧ ∀ i m σ H, W i m σ H →
  (J.stop i H ∧ D.nx σ H) ∨ (J.go i H ∧ ∃ N : St → Hp → Prop, (∀ σ' H', N σ' H' → ∃ m', m' < m ∧ W (i + 1) m' σ' H') ∧ ∀ x H', J.yld i H x H' → g x σ H' fun σ2 H2 => tb { D with nx := N, ct := N, bk := D.nx } σ2 H2)
/-- the records at fp as they stand -/
def pinsAt (fp : List Addr) (h : Heap) : List (Addr × Obj) := fp.filterMap fun b => (h.get? b).map fun o => (b, o)
theorem mem_pinsAt {fp : List Addr} {h : Heap} {b : Addr} {o : Obj} (hb : b ∈ fp) (e : h.get? b = some o) : (b, o) ∈ pinsAt fp h := List.mem_filterMap.mpr ⟨b, hb, by rw [e]; rfl⟩
theorem of_pinsAt {fp : List Addr} {h : Heap} {p : Addr × Obj} (hp : p ∈ pinsAt fp h) : p.1 ∈ fp ∧ h.get? p.1 = some p.2 := by
  obtain ⟨b, hb, e⟩ := List.mem_filterMap.mp hp
  cases q : h.get? b with
  | none => rw [q] at e; cases e
  | some o =>
    rw [q] at e
    have e' : (b, o) = p := Option.some.inj e
    subst e'
    exact ⟨hb, q⟩
theorem Inv.pinned {pins : List (Addr × Obj)} {σ : St} {H : Hp} {s : Shared} {fp : List Addr} (I : Inv X pins σ H s) (hf : ∀ b ∈ fp, FpOk X pins H b) (ho : ∀ b ∈ fp, ∃ o, s.heap.get? b = some o ∧ ∀ v, o.data ≠ .cell v) : Inv X (pins ++ pinsAt fp s.heap) σ H s :=
  I.pins_of fun p hp => (List.mem_append.mp hp).elim (fun z => I.pin p (List.mem_append_right _ z)) fun z => by
    obtain ⟨hb, e⟩ := of_pinsAt z
    obtain ⟨f0, f1, f2, _⟩ := hf p.1 hb
    obtain ⟨o, e', d⟩ := ho p.1 hb
    rw [e] at e'; cases e'
    exact ⟨e, f0, f1, f2, d⟩
theorem Inv.unpinned {pins pl : List (Addr × Obj)} {σ : St} {H : Hp} {s : Shared} (I : Inv X (pins ++ pl) σ H s) : Inv X pins σ H s := I.pins_of fun p hp => I.pin p (List.mem_append_right _ (List.mem_append_left _ hp))
theorem ps_for {iter : Expr} {body : List Stmt} {wi : TI} {g : TG} {tb : TS} {pos : Pos} (hp : PassesOwn (model X.prog X.w) X.A X.env X.xe) (hc : X.calm = true) (hi : PI X tg iter wi) (hg : PG X tg g) (hb : PSs X body tb)
    (hs : ∀ x, foldedSetIterable iter X.env x = pure x := by intro _; rfl) : PS X (.For tg iter body [] pos) (tFor wi g tb) := by
  intro pins s σ H D I h
  refine wpAny_For (thn (hi pins s σ H _ I h) fun v s1 h1 => thn h1 fun itv s2 h2 => ?_) hs
  obtain ⟨it, fp, tn, J, H2, e, I2, T, st2, f2, W, ⟨m0, w0⟩, turn⟩ := h2
  subst e
  -- what stays true of the iterator's objects through the loop
  have stat : ∀ {H' : Hp}, (∀ b ∈ fp, H' b = none) → ∀ b ∈ fp, FpOk X pins H' b := fun hn b hb => ⟨hn b hb, (f2 b hb).2⟩
  refine codeAny_forLoop_any (fun n s' => ∃ i σ' H', Inv X pins σ' H' s' ∧ tn i s'.heap ∧ (∀ b ∈ fp, H' b = none) ∧ W i n σ' H') ?_ m0 ⟨0, σ, H2, I2, st2, fun b hb => (f2 b hb).1, w0⟩
  rintro n s3 ⟨i, σ3, H3, I3, st3, fr3, w3⟩
  rcases turn i n σ3 H3 w3 with ⟨stop, qn⟩ | ⟨go, N, hN, step⟩
  · refine wpAny_passesOwn hp (thn (T.done X rfl rfl rfl hc i pins s3 σ3 H3 X.xe I3 (stat fr3) st3 stop) fun r s4 ⟨hr, I4⟩ => ?_)
    subst hr
    exact wpAny_execs_nil ⟨σ3, H3, I4, qn⟩
  · refine wpAny_passesOwn hp (thn (T.item X rfl rfl rfl hc i pins s3 σ3 H3 X.xe I3 (stat fr3) st3 go) fun r s4 ⟨u, hr, h4⟩ => ?_)
    subst hr
    refine wpAny_passesOwn hp (thn h4 fun _ s5 ⟨x, H5, I5, r5, y5, st5, fr5⟩ => ?_)
    have I5' := I5.pinned (stat fr5) (T.obj _ _ st5)
    refine wpAny_passesOwn hp (thn (hg _ s5 σ3 H5 x u _ I5' r5 (step x H5 y5)) fun _ s6 ⟨σ6, H6, I6, q6⟩ => ?_)
    refine wpAny_passesOwn hp (thn (hb _ s6 σ6 H6 _ I6 q6) fun f s7 q7 => ?_)
    have again : ∀ {σ7 : St} {H7 : Hp}, Inv X (pins ++ pinsAt fp s5.heap) σ7 H7 s7 → N σ7 H7 → ∃ m, m < n ∧ ∃ i σ' H', Inv X pins σ' H' s7 ∧ tn i s7.heap ∧ (∀ b ∈ fp, H' b = none) ∧ W i m σ' H' := fun {σ7 H7} I7 n7 => by
      obtain ⟨m', hm, w7⟩ := hN σ7 H7 n7
      refine ⟨m', hm, i + 1, σ7, H7, I7.unpinned, T.keep _ _ _ st5 fun b hb o e => (I7.pin (b, o) (List.mem_append_right _ (List.mem_append_right _ (mem_pinsAt hb e)))).1, fun b hb => ?_, w7⟩
      obtain ⟨o, e, d⟩ := T.obj _ _ st5 b hb
      exact (I7.pin (b, o) (List.mem_append_right _ (List.mem_append_right _ (mem_pinsAt hb e)))).2.1
    cases f with
    | next => obtain ⟨σ7, H7, I7, n7⟩ := q7; exact again I7 n7
    | cont => obtain ⟨σ7, H7, I7, n7⟩ := q7; exact again I7 n7
    | brk => obtain ⟨σ7, H7, I7, q7⟩ := q7; exact ⟨σ7, H7, I7.unpinned, q7⟩
    | ret v => obtain ⟨x7, σ7, H7, I7, r7, q7⟩ := q7; exact ⟨x7, σ7, H7, I7.unpinned, r7, q7⟩
end

/-! ### the forms one uses -/
/-- over a list that the body leaves as it is -/
theorem for_list {K : PySem.W.Frag} {a : Addr} {xs : List V} {g : TG} {tb : TS} {D : Ends} {σ : St} {H : Hp} (Pv : Nat → St → Hp → Prop) (h0 : Pv 0 σ H) (hl : ∀ i σ H, i ≤ xs.length → Pv i σ H → SqL K H a xs)
    (hs : ∀ i x σ H, xs[i]? = some x → Pv i σ H → g x σ H fun σ2 H2 => tb { D with nx := Pv (i + 1), ct := Pv (i + 1), bk := D.nx } σ2 H2) (hd : ∀ σ H, Pv xs.length σ H → D.nx σ H) :
    ∃ W : Nat → Nat → St → Hp → Prop, (∃ m, W 0 m σ H) ∧ ∀ i m σ H, W i m σ H →
      ((Itl K a).stop i H ∧ D.nx σ H) ∨ ((Itl K a).go i H ∧ ∃ N : St → Hp → Prop, (∀ σ' H', N σ' H' → ∃ m', m' < m ∧ W (i + 1) m' σ' H') ∧ ∀ x H', (Itl K a).yld i H x H' → g x σ H' fun σ2 H2 => tb { D with nx := N, ct := N, bk := D.nx } σ2 H2) := by
  refine ⟨fun i m σ H => m = xs.length - i ∧ i ≤ xs.length ∧ Pv i σ H, ⟨xs.length, by simp, Nat.zero_le _, h0⟩, ?_⟩
  rintro i m σ H ⟨rfl, hi, p⟩
  have q := hl i σ H hi p
  by_cases hlt : i < xs.length
  · refine .inr ⟨⟨xs, xs[i], q, by simp [hlt]⟩, Pv (i + 1), fun σ' H' p' => ⟨xs.length - (i + 1), by omega, rfl, hlt, p'⟩, fun x H' y => ?_⟩
    obtain ⟨e, y⟩ := y
    subst e
    exact hs i x σ _ (y xs q) p
  · have e : i = xs.length := by omega
    subst e
    exact .inl ⟨⟨xs, q, Nat.le_refl _⟩, hd σ H p⟩
theorem for_range {lo : Int} {n : Nat} {g : TG} {tb : TS} {D : Ends} {σ : St} {H : Hp} (Pv : Nat → St → Hp → Prop) (h0 : Pv 0 σ H)
    (hs : ∀ i σ H, i < n → Pv i σ H → g (.int (lo + i)) σ H fun σ2 H2 => tb { D with nx := Pv (i + 1), ct := Pv (i + 1), bk := D.nx } σ2 H2) (hd : ∀ σ H, Pv n σ H → D.nx σ H) :
    ∃ W : Nat → Nat → St → Hp → Prop, (∃ m, W 0 m σ H) ∧ ∀ i m σ H, W i m σ H →
      ((Itr lo n).stop i H ∧ D.nx σ H) ∨ ((Itr lo n).go i H ∧ ∃ N : St → Hp → Prop, (∀ σ' H', N σ' H' → ∃ m', m' < m ∧ W (i + 1) m' σ' H') ∧ ∀ x H', (Itr lo n).yld i H x H' → g x σ H' fun σ2 H2 => tb { D with nx := N, ct := N, bk := D.nx } σ2 H2) := by
  refine ⟨fun i m σ H => m = n - i ∧ i ≤ n ∧ Pv i σ H, ⟨n, by simp, Nat.zero_le _, h0⟩, ?_⟩
  rintro i m σ H ⟨rfl, hi, p⟩
  by_cases hlt : i < n
  · refine .inr ⟨hlt, Pv (i + 1), fun σ' H' p' => ⟨n - (i + 1), by omega, rfl, hlt, p'⟩, fun x H' y => ?_⟩
    obtain ⟨e, y⟩ := y
    subst e y
    exact hs i σ _ hlt p
  · have e : i = n := by omega
    subst e
    exact .inl ⟨Nat.le_refl _, hd σ H p⟩
end L2

namespace L2
open PySem PySem.Spec PyProof.Rows

abbrev R2 := V → V → Hp → VK → Prop
/-- a two-place operation on values: f is binaryOp op, inplaceOp op or compareOp op -/
def OpR (X : Cx) (f : Value → Value → Sem Value) (r : R2) : Prop :=
  ∀ (pins : List (Addr × Obj)) (s : Shared) (σ : St) (H : Hp) (x y : V) (v u : Value) (Q : VK), Inv X pins σ H s → RelV x v → RelV y u → r x y H Q →
    wpAny (model X.prog X.w) X.A (f v u) (EP X pins σ Q) X.xe s
/-- a one-place operation -/
def UnR (X : Cx) (f : Value → Sem Value) (r : V → Hp → VK → Prop) : Prop :=
  ∀ (pins : List (Addr × Obj)) (s : Shared) (σ : St) (H : Hp) (x : V) (v : Value) (Q : VK), Inv X pins σ H s → RelV x v → r x H Q →
    wpAny (model X.prog X.w) X.A (f v) (EP X pins σ Q) X.xe s
/-- a call of a value that is known (a builtin, a type) with values -/
def CallR (X : Cx) (f : Value) (r : List V → Hp → VK → Prop) : Prop :=
  ∀ (pins : List (Addr × Obj)) (s : Shared) (σ : St) (H : Hp) (xs : List V) (us : List Value) (Q : VK), Inv X pins σ H s → Vals xs us → r xs H Q →
    wpAny (model X.prog X.w) X.A (call f us) (EP X pins σ Q) X.xe s

def tOp (r : R2) (ta tb : TE) : TE := fun σ H Q => ta σ H fun x H1 => tb σ H1 fun y H2 => r x y H2 Q
def tUn (r : V → Hp → VK → Prop) (ta : TE) : TE := fun σ H Q => ta σ H fun x H1 => r x H1 Q
/-- ints in, under C, and a value out -/
def rI (C : Int → Int → Prop) (g : Int → Int → V) : R2 := fun x y H Q => ∃ i j, x = .int i ∧ y = .int j ∧ C i j ∧ Q (g i j) H
def rI0 (g : Int → Int → V) : R2 := fun x y H Q => ∃ i j, x = .int i ∧ y = .int j ∧ Q (g i j) H
def rU (g : Int → V) : V → Hp → VK → Prop := fun x H Q => ∃ i, x = .int i ∧ Q (g i) H

section
variable {X : Cx} {a b c : Expr} {ta tb tc : TE} {pos : Pos}

theorem binT (ha : PE X a ta) (hb : PE X b tb) {pins : List (Addr × Obj)} {s : Shared} {σ : St} {H : Hp} {R : V → V → Hp → Prop} (I : Inv X pins σ H s)
    (h : ta σ H fun x H1 => tb σ H1 fun y H2 => R x y H2) {Q : Value → Shared → Prop} {f : Value → Value → Sem Value}
    (hf : ∀ v u s2 x y H2, Inv X pins σ H2 s2 → RelV x v → RelV y u → R x y H2 → wpAny (model X.prog X.w) X.A (f v u) Q X.xe s2) :
    wpAny (model X.prog X.w) X.A (eval a X.env) (fun v s₁ => wpAny (model X.prog X.w) X.A (eval b X.env) (fun u s₂ => wpAny (model X.prog X.w) X.A (f v u) Q X.xe s₂) X.xe s₁) X.xe s := by
  refine thn (ha pins s σ H _ I h) fun v s1 ⟨x, H1, I1, r1, q1⟩ => ?_
  refine thn (hb pins s1 σ H1 _ I1 q1) fun u s2 ⟨y, H2, I2, r2, q2⟩ => ?_
  exact hf v u s2 x y H2 I2 r1 r2 q2

theorem pe_op {op : Operator} {r : R2} (ho : OpR X (binaryOp op) r) (ha : PE X a ta) (hb : PE X b tb) : PE X (.BinOp a op b pos) (tOp r ta tb) := by
  intro pins s σ H Q I h
  exact wpAny_BinOp (binT ha hb I h fun v u s2 x y H2 I2 rx ry q => ho pins s2 σ H2 x y v u Q I2 rx ry q)
theorem pe_un {op : UnaryOp} {r : V → Hp → VK → Prop} (ho : UnR X (unaryOp op) r) (ha : PE X a ta) : PE X (.UnaryOp op a pos) (tUn r ta) := by
  intro pins s σ H Q I h
  exact UnaryOp_ (thn (ha pins s σ H _ I h) fun v s1 ⟨x, H1, I1, r1, q1⟩ => ho pins s1 σ H1 x v Q I1 r1 q1)

/-! ### ints -/
theorem opI {f : Value → Value → Sem Value} {C : Int → Int → Prop} {g : Int → Int → Int}
    (rule : ∀ (i j : Int) (t u : Tok) (s : Shared) (Q : Value → Shared → Prop) (E : Value → Shared → Prop), C i j → Q (.int (g i j) s.toks) { s with toks := s.toks + 1 } → wpAny (model X.prog X.w) X.A (f (.int i t) (.int j u)) Q E s) :
    OpR X f (rI C fun i j => .int (g i j)) := by
  intro pins s σ H x y v u Q I rx ry h
  obtain ⟨i, j, rfl, rfl, hc, q⟩ := h
  obtain ⟨t, rfl⟩ := rx
  obtain ⟨t', rfl⟩ := ry
  exact rule i j t t' s _ _ hc ⟨.int (g i j), H, I.tok _, ⟨_, rfl⟩, q⟩
theorem opI0 {f : Value → Value → Sem Value} {g : Int → Int → Int}
    (rule : ∀ (i j : Int) (t u : Tok) (s : Shared) (Q : Value → Shared → Prop) (E : Value → Shared → Prop), Q (.int (g i j) s.toks) { s with toks := s.toks + 1 } → wpAny (model X.prog X.w) X.A (f (.int i t) (.int j u)) Q E s) :
    OpR X f (rI0 fun i j => .int (g i j)) := by
  intro pins s σ H x y v u Q I rx ry h
  obtain ⟨i, j, rfl, rfl, q⟩ := h
  obtain ⟨t, rfl⟩ := rx
  obtain ⟨t', rfl⟩ := ry
  exact rule i j t t' s _ _ ⟨.int (g i j), H, I.tok _, ⟨_, rfl⟩, q⟩
theorem opB0 {f : Value → Value → Sem Value} {g : Int → Int → Bool}
    (rule : ∀ (i j : Int) (t u : Tok) (s : Shared) (Q : Value → Shared → Prop) (E : Value → Shared → Prop), Q (.bool (g i j)) s → wpAny (model X.prog X.w) X.A (f (.int i t) (.int j u)) Q E s) :
    OpR X f (rI0 fun i j => .bl (g i j)) := by
  intro pins s σ H x y v u Q I rx ry h
  obtain ⟨i, j, rfl, rfl, q⟩ := h
  obtain ⟨t, rfl⟩ := rx
  obtain ⟨t', rfl⟩ := ry
  exact rule i j t t' s _ _ ⟨.bl (g i j), H, I, rfl, q⟩

def CPow (i j : Int) : Prop := 0 ≤ j ∧ j ≤ 1000000 ∧ i.natAbs < 2 ^ 64
def CMul (i j : Int) : Prop := (-(2 ^ 64) < i ∧ i < 2 ^ 64) ∨ (-(2 ^ 64) < j ∧ j < 2 ^ 64)
theorem CMul.ok {i j : Int} (h : CMul i j) : IntMulOk i j := by
  rcases h with ⟨h1, h2⟩ | ⟨h1, h2⟩
  · exact .of_left (intBits_le_64 h1 h2)
  · exact .of_right (intBits_le_64 h1 h2)

theorem op_add : OpR X (binaryOp .Add) (rI0 fun i j => .int (i + j)) := opI0 fun _ _ _ _ _ _ _ q => add_int q
theorem op_sub : OpR X (binaryOp .Sub) (rI0 fun i j => .int (i - j)) := opI0 fun _ _ _ _ _ _ _ q => sub_int q
theorem op_mul : OpR X (binaryOp .Mult) (rI CMul fun i j => .int (i * j)) := opI fun _ _ _ _ _ _ _ hc q => mul_int q hc.ok
/-- % by a positive divisor of any size -/
theorem op_mod : OpR X (binaryOp .Mod) (rI (fun _ j => 0 < j) fun i j => .int (i % j)) := opI fun i j _ _ _ _ _ hc q => by
  have h1 : (0 : Int) < j := hc
  exact mod_int' (by omega) (by rw [Int.fmod_eq_emod_of_nonneg i (by omega)]; exact q)
theorem op_pow : OpR X (binaryOp .Pow) (rI CPow fun i j => .int (i ^ j.toNat)) := opI fun _ _ _ _ _ _ _ hc q => pow_int_small hc.1 hc.2.1 hc.2.2 q


theorem unI {f : Value → Sem Value} {g : Int → Int}
    (rule : ∀ (i : Int) (t : Tok) (s : Shared) (Q : Value → Shared → Prop) (E : Value → Shared → Prop), Q (.int (g i) s.toks) { s with toks := s.toks + 1 } → wpAny (model X.prog X.w) X.A (f (.int i t)) Q E s) :
    UnR X f (rU fun i => .int (g i)) := by
  intro pins s σ H x v Q I rx h
  obtain ⟨i, rfl, q⟩ := h
  obtain ⟨t, rfl⟩ := rx
  exact rule i t s _ _ ⟨.int (g i), H, I.tok _, ⟨_, rfl⟩, q⟩
theorem un_neg : UnR X (unaryOp .USub) (rU fun i => .int (-i)) := unI fun _ _ _ _ _ q => neg_int q

/-! ### bools among ints: n += (a < b) -/
end

/-! ### comparisons -/
/-- the scalars that == tells apart as data does -/
def scal : V → V → Bool
  | .non, .non => true | .non, .int _ => true | .int _, .non => true | .non, .bl _ => true | .bl _, .non => true | .non, .str _ => true | .str _, .non => true
  | .int _, .int _ => true | .bl _, .bl _ => true | .str _, .str _ => true | .byt _, .byt _ => true
  | .int _, .str _ => true | .str _, .int _ => true | .bl _, .str _ => true | .str _, .bl _ => true
  | _, _ => false
def rEq : R2 := fun x y H Q => scal x y = true ∧ Q (.bl (decide (x = y))) H
def rNe : R2 := fun x y H Q => scal x y = true ∧ Q (.bl (!decide (x = y))) H

theorem dec_int {i j : Int} : decide (V.int i = V.int j) = (i == j) := by
  rw [Bool.eq_iff_iff]
  simp
theorem dec_bl {i j : Bool} : decide (V.bl i = V.bl j) = (i == j) := by
  rw [Bool.eq_iff_iff]
  simp
theorem dec_str {i j : Str} : decide (V.str i = V.str j) = (i == j) := by
  rw [Bool.eq_iff_iff]
  simp
theorem dec_byt {i j : Array UInt8} : decide (V.byt i = V.byt j) = (i.toList == j.toList) := by
  rw [Bool.eq_iff_iff]
  cases i
  cases j
  simp

section
variable {X : Cx} {a b c : Expr} {ta tb tc : TE} {pos : Pos}
theorem fin_bl {pins : List (Addr × Obj)} {σ : St} {H : Hp} {s : Shared} {Q : VK} {k k' : Bool} (I : Inv X pins σ H s) (q : Q (.bl k) H) (e : k = k') : EP X pins σ Q (.bool k') s := by
  subst e
  exact ⟨.bl k, H, I, rfl, q⟩
theorem op_eq : OpR X (compareOp .Eq) rEq := by
  intro pins s σ H x y v u Q I rx ry h
  obtain ⟨hs, q⟩ := h
  cases x with
  | non =>
    cases rx
    cases y with
    | non => cases ry; exact PySem.EqNone.eq_none_none (fin_bl I q (by simp))
    | bl j => cases ry; exact PySem.EqNone.eq_none_bool (fin_bl I q (by simp))
    | int j => obtain ⟨t', rfl⟩ := ry; exact PySem.EqNone.eq_none_int (fin_bl I q (by simp))
    | str j => obtain ⟨t', rfl⟩ := ry; exact PySem.EqNone.eq_none_str (fin_bl I q (by simp))
    | _ => exact absurd (show false = true from hs) Bool.false_ne_true
  | bl i =>
    cases rx
    cases y with
    | non => cases ry; exact PySem.EqNone.eq_bool_none (fin_bl I q (by simp))
    | bl j => cases ry; exact eq_bool (fin_bl I q dec_bl)
    | str j => obtain ⟨t', rfl⟩ := ry; exact PySem.EqMixed.eq_bool_str (fin_bl I q (by simp))
    | _ => exact absurd (show false = true from hs) Bool.false_ne_true
  | int i =>
    obtain ⟨t, rfl⟩ := rx
    cases y with
    | non => cases ry; exact PySem.EqNone.eq_int_none (fin_bl I q (by simp))
    | int j => obtain ⟨t', rfl⟩ := ry; exact eq_int (fin_bl I q dec_int)
    | str j => obtain ⟨t', rfl⟩ := ry; exact PySem.EqMixed.eq_int_str (fin_bl I q (by simp))
    | _ => exact absurd (show false = true from hs) Bool.false_ne_true
  | str i =>
    obtain ⟨t, rfl⟩ := rx
    cases y with
    | non => cases ry; exact PySem.EqNone.eq_str_none (fin_bl I q (by simp))
    | bl j => cases ry; exact PySem.EqMixed.eq_str_bool (fin_bl I q (by simp))
    | int j => obtain ⟨t', rfl⟩ := ry; exact PySem.EqMixed.eq_str_int (fin_bl I q (by simp))
    | str j => obtain ⟨t', rfl⟩ := ry; exact eq_str (fin_bl I q dec_str)
    | _ => exact absurd (show false = true from hs) Bool.false_ne_true
  | byt i =>
    obtain ⟨t, rfl⟩ := rx
    cases y with
    | byt j => obtain ⟨t', rfl⟩ := ry; exact PySem.W.eq_bytes (fin_bl I q dec_byt)
    | _ => exact absurd (show false = true from hs) Bool.false_ne_true
  | _ => cases y <;> exact absurd (show false = true from hs) Bool.false_ne_true
theorem op_ne : OpR X (compareOp .NotEq) rNe := by
  intro pins s σ H x y v u Q I rx ry h
  obtain ⟨hs, q⟩ := h
  cases x with
  | non =>
    cases rx
    cases y with
    | non => cases ry; exact PySem.EqNone.ne_none_none (fin_bl I q (by simp))
    | bl j => cases ry; exact PySem.EqNone.ne_none_bool (fin_bl I q (by simp))
    | int j => obtain ⟨t', rfl⟩ := ry; exact PySem.EqNone.ne_none_int (fin_bl I q (by simp))
    | str j => obtain ⟨t', rfl⟩ := ry; exact PySem.EqNone.ne_none_str (fin_bl I q (by simp))
    | _ => exact absurd (show false = true from hs) Bool.false_ne_true
  | bl i =>
    cases rx
    cases y with
    | non => cases ry; exact PySem.EqNone.ne_bool_none (fin_bl I q (by simp))
    | bl j => cases ry; exact ne_bool (fin_bl I q (congrArg not dec_bl))
    | str j => obtain ⟨t', rfl⟩ := ry; exact PySem.EqMixed.ne_bool_str (fin_bl I q (by simp))
    | _ => exact absurd (show false = true from hs) Bool.false_ne_true
  | int i =>
    obtain ⟨t, rfl⟩ := rx
    cases y with
    | non => cases ry; exact PySem.EqNone.ne_int_none (fin_bl I q (by simp))
    | int j => obtain ⟨t', rfl⟩ := ry; exact ne_int (fin_bl I q (congrArg not dec_int))
    | str j => obtain ⟨t', rfl⟩ := ry; exact PySem.EqMixed.ne_int_str (fin_bl I q (by simp))
    | _ => exact absurd (show false = true from hs) Bool.false_ne_true
  | str i =>
    obtain ⟨t, rfl⟩ := rx
    cases y with
    | non => cases ry; exact PySem.EqNone.ne_str_none (fin_bl I q (by simp))
    | bl j => cases ry; exact PySem.EqMixed.ne_str_bool (fin_bl I q (by simp))
    | int j => obtain ⟨t', rfl⟩ := ry; exact PySem.EqMixed.ne_str_int (fin_bl I q (by simp))
    | str j => obtain ⟨t', rfl⟩ := ry; exact ne_str (fin_bl I q (congrArg not dec_str))
    | _ => exact absurd (show false = true from hs) Bool.false_ne_true
  | byt i =>
    obtain ⟨t, rfl⟩ := rx
    cases y with
    | byt j => obtain ⟨t', rfl⟩ := ry; exact PySem.W.ne_bytes (fin_bl I q (congrArg not dec_byt))
    | _ => exact absurd (show false = true from hs) Bool.false_ne_true
  | _ => cases y <;> exact absurd (show false = true from hs) Bool.false_ne_true

theorem op_lt : OpR X (compareOp .Lt) (rI0 fun i j => .bl (decide (i < j))) := opB0 fun _ _ _ _ _ _ _ q => lt_int q
theorem op_le : OpR X (compareOp .LtE) (rI0 fun i j => .bl (decide (i ≤ j))) := opB0 fun _ _ _ _ _ _ _ q => le_int q
theorem op_gt : OpR X (compareOp .Gt) (rI0 fun i j => .bl (decide (j < i))) := opB0 fun _ _ _ _ _ _ _ q => gt_int q
theorem op_ge : OpR X (compareOp .GtE) (rI0 fun i j => .bl (decide (j ≤ i))) := opB0 fun _ _ _ _ _ _ _ q => ge_int q

/-- is None, is not None: the right side a value none -/
theorem op_isN : OpR X (compareOp .Is) (fun x y H Q => y = .non ∧ Q (.bl (decide (x = .non))) H) := by
  intro pins s σ H x y v u Q I rx ry h
  obtain ⟨rfl, q⟩ := h
  cases ry
  refine is_none_gen (fin_bl I q ?_)
  cases x <;> first
    | (cases rx; rfl)
    | (obtain ⟨t, rfl⟩ := rx; rfl)



theorem nomark (b : Expr) {op : CmpOp} (h : op ≠ .In := by decide) (h2 : op ≠ .NotIn := by decide) : behindInMarks op b = false := by
  have e1 : (op == CmpOp.In) = false := by cases op <;> first | rfl | exact absurd rfl h
  have e2 : (op == CmpOp.NotIn) = false := by cases op <;> first | rfl | exact absurd rfl h2
  cases b <;> simp [behindInMarks, e1, e2]
/-- a comparison as a value; hm: nomark b, or (for in, not in) by with_unfolding_all rfl -/
theorem pe_cmpR {op : CmpOp} {r : R2} (ho : OpR X (compareOp op) r) (ha : PE X a ta) (hb : PE X b tb) (hm : behindInMarks op b = false) : PE X (.Compare a [op] [b] pos) (tOp r ta tb) := by
  intro pins s σ H Q I h
  exact wpAny_Compare1 (binT ha hb I h fun v u s2 x y H2 I2 rx ry q => ho pins s2 σ H2 x y v u Q I2 rx ry q) hm
/-- a reading of a value as a test -/
def tTest (t : TE) : TT := fun σ H Q => t σ H fun x H' => ∃ k, x = .bl k ∧ Q k H'
theorem pt_cmpR {op : CmpOp} {r : R2} (ho : OpR X (compareOp op) r) (ha : PE X a ta) (hb : PE X b tb) (hm : behindInMarks op b = false) : PT X (.Compare a [op] [b] pos) (tTest (tOp r ta tb)) := by
  intro pins s σ H Q I h
  refine wpAny_isTrue_Compare1 (thn (ha pins s σ H _ I h) fun v s1 ⟨x, H1, I1, r1, q1⟩ => thn (hb pins s1 σ H1 _ I1 q1) fun u s2 ⟨y, H2, I2, r2, q2⟩ =>
    thn (ho pins s2 σ H2 x y v u _ I2 r1 r2 q2) fun c s3 ⟨z, H3, I3, r3, k, e, q3⟩ => ?_) hm
  subst e
  cases r3
  exact wpAny_truthy_bool ⟨H3, I3, q3⟩
/-- a op1 b op2 c -/
def tChain (r r' : R2) (ta tb tc : TE) : TE := fun σ H Q => ta σ H fun x H1 => tb σ H1 fun y H2 => r x y H2 fun z H3 => ∃ k, z = .bl k ∧
  (if k = true then tc σ H3 fun w' H4 => r' y w' H4 Q else Q (.bl false) H3)
theorem pe_chain {op op' : CmpOp} {r r' : R2} (ho : OpR X (compareOp op) r) (ho' : OpR X (compareOp op') r') (ha : PE X a ta) (hb : PE X b tb) (hc : PE X c tc)
    (hm : lastMarks [op, op'] [b, c] = false := by with_unfolding_all rfl) : PE X (.Compare a [op, op'] [b, c] pos) (tChain r r' ta tb tc) := by
  intro pins s σ H Q I h
  refine Compare_chain (thn (ha pins s σ H _ I h) fun v s1 ⟨x, H1, I1, r1, q1⟩ => chain_link (thn (hb pins s1 σ H1 _ I1 q1) fun u s2 ⟨y, H2, I2, r2, q2⟩ =>
    thn (ho pins s2 σ H2 x y v u _ I2 r1 r2 q2) fun d s3 ⟨z, H3, I3, r3, k, e, q3⟩ => ?_)) hm
  subst e
  cases r3
  refine wpAny_truthy_bool ?_
  cases k with
  | false => exact ite_ff ⟨.bl false, H3, I3, rfl, q3⟩
  | true => exact ite_tt (chain_last (thn (hc pins s3 σ H3 _ I3 q3) fun w' s4 ⟨z', H4, I4, r4, q4⟩ => ho' pins s4 σ H4 y z' u w' Q I4 r2 r4 q4))
theorem pt_chain {op op' : CmpOp} {r r' : R2} (ho : OpR X (compareOp op) r) (ho' : OpR X (compareOp op') r') (ha : PE X a ta) (hb : PE X b tb) (hc : PE X c tc)
    (hm : lastMarks [op, op'] [b, c] = false := by with_unfolding_all rfl) : PT X (.Compare a [op, op'] [b, c] pos) (tTest (tChain r r' ta tb tc)) := by
  intro pins s σ H Q I h
  refine isTrue_chain (thn (ha pins s σ H _ I h) fun v s1 ⟨x, H1, I1, r1, q1⟩ => test_link (thn (hb pins s1 σ H1 _ I1 q1) fun u s2 ⟨y, H2, I2, r2, q2⟩ =>
    thn (ho pins s2 σ H2 x y v u _ I2 r1 r2 q2) fun d s3 ⟨z, H3, I3, r3, k, e, q3⟩ => ?_)) hm
  subst e
  cases r3
  refine wpAny_truthy_bool ?_
  cases k with
  | false =>
    obtain ⟨k', e', q'⟩ := q3
    cases e'
    exact ite_ff ⟨H3, I3, q'⟩
  | true =>
    refine ite_tt (test_last (thn (hc pins s3 σ H3 _ I3 q3) fun w' s4 ⟨z', H4, I4, r4, q4⟩ => thn (ho' pins s4 σ H4 y z' u w' _ I4 r2 r4 q4) fun d' s5 ⟨z2, H5, I5, r5, k2, e2, q5⟩ => ?_))
    subst e2
    cases r5
    exact wpAny_truthy_bool ⟨H5, I5, q5⟩

/-! ### truth -/
theorem line63 : (sizeLine : Nat) < 2 ^ 63 := by rw [sizeLine_eq]; decide

/-! ### strs and bytes -/


/-! ### scalar builtins, by CallR -/
theorem vals1 {x : V} {us : List Value} (r : Vals [x] us) : ∃ u, us = [u] ∧ RelV x u := by
  cases r with
  | cons r1 r2 => cases r2; exact ⟨_, rfl, r1⟩
theorem vals2 {x y : V} {us : List Value} (r : Vals [x, y] us) : ∃ u w', us = [u, w'] ∧ RelV x u ∧ RelV y w' := by
  cases r with
  | cons r1 r2 =>
    cases r2 with
    | cons r3 r4 => cases r4; exact ⟨_, _, rfl, r1, r3⟩
theorem call_int1 : CallR X (.type "int") (fun xs H Q => (∃ i, xs = [.int i] ∧ Q (.int i) H) ∨ ∃ k, xs = [.bl k] ∧ Q (.int (if k then 1 else 0)) H) := by
  intro pins s σ H xs us Q I r h
  rcases h with ⟨i, rfl, q⟩ | ⟨k, rfl, q⟩
  · obtain ⟨u, rfl, t, rfl⟩ := vals1 r
    exact call_int_int ⟨.int i, H, I, ⟨_, rfl⟩, q⟩
  · obtain ⟨u, rfl, r1⟩ := vals1 r
    cases r1
    exact call_int_bool ⟨.int (if k then 1 else 0), H, I.tok _, ⟨_, rfl⟩, q⟩
end
end L2

namespace L2
open PySem PySem.Spec PyProof.Rows

/-! ### an instance, its attributes a map -/
structure ObjM (h : Heap) (x dx C : Addr) (mA : Str → Option Value) : Prop where
  obj : h.get? x = some (PySem.W.instObj C dx)
  ns : h.Ns1 dx mA
  ne : dx ≠ x

theorem lookIn_ns {h : Heap} {dx : Addr} {mA : Str → Option Value} (n : h.Ns1 dx mA) : ∃ od, h.get? dx = some od ∧ ∀ name, PySem.W.lookIn name od = some (mA name) := by
  obtain ⟨o, es, ep, ho, hd, hk, _, hm⟩ := n
  refine ⟨o, ho, fun name => ?_⟩
  have e := hm name
  unfold nsFind findBy at e
  rw [← Array.find?_toList] at e
  unfold PySem.W.lookIn
  rw [hd]
  dsimp only
  split
  · rename_i y q
    rw [q] at e
    exact congrArg some e
  · rename_i q
    rw [q] at e
    have a : es.toList.any (·.refKey) = false := by
      rw [List.any_eq_false]
      intro y hy
      obtain ⟨z, t, hkey⟩ := hk y (Array.mem_toList_iff.mp hy)
      simp [DictEntry.refKey, hkey]
    have a' : ¬ es.toList.any (·.refKey) = true := by rw [a]; exact Bool.false_ne_true
    rw [if_neg a']
    exact congrArg some e

theorem ObjM.look {h : Heap} {x dx C : Addr} {mA : Str → Option Value} (I : ObjM h x dx C mA) : ∃ od, PySem.W.InstAt h x (PySem.W.instObj C dx) C (some od) ∧ ∀ name, PySem.W.lookIn name od = some (mA name) :=
  let ⟨od, ho, hl⟩ := lookIn_ns I.ns
  ⟨od, ⟨I.obj, rfl, rfl, ho⟩, hl⟩

section
variable {prog : Program} {w : World} {A : Around} {E : Value → Shared → Prop} {s : Shared} {K : PySem.W.Frag} {x dx C f : Addr} {mA : Str → Option Value} {name : Str} {v : Value}





end

/-! ### the attributes as a list of pairs -/

theorem RelO.some_of {v : V} {o : Option Value} (r : RelO (some v) o) : ∃ u, o = some u ∧ RelV v u := by
  cases o with
  | none => exact (show False from r).elim
  | some u => exact ⟨u, rfl, r⟩

section
variable {P : Program} {w : World} {H H' : Hp} {h h' : Heap} {a C dx : Addr} {fs fs' : List (Str × V)}
theorem ins_get (hok : HOk P w H h) (e : H a = some (.ins C dx fs)) : ∃ mA, ObjM h a dx C mA ∧ (∀ f, RelO (fs.lookup f) (mA f)) ∧ PySem.Within mA (fs.map (·.1)) ∧ fs.length ≤ 1000 ∧ H dx = some (.own a) := by
  obtain ⟨d, z, ne, ob, mA, n, r, q⟩ := (show ObjOk P w H h a (.ins C dx fs) from hok a _ e)
  exact ⟨mA, ⟨ob, n, ne⟩, r, q, z, d⟩
end

/-! ### what of the text a class must have -/
structure Cls (K : PySem.W.Frag) (C : Addr) : Prop where
  pg : PySem.W.plainGet K C Str.empty = true
  hd : PySem.W.hasDictIn K C = true
  po : PySem.W.plainOver K C = true
  sa : PySem.W.findIn K (.ref C) "__setattr__" = some (some (.builtin "object.__setattr__"))
theorem Cls.get {K : PySem.W.Frag} {C : Addr} (c : Cls K C) (f : Str) : PySem.W.plainGet K C f = true := c.pg

section
variable {X : Cx} {pins : List (Addr × Obj)} {σ : St} {H : Hp} {s : Shared} {a C dx : Addr} {fs : List (Str × V)} {f : Str} {v : V} {A : Around} {E : Value → Shared → Prop}






/-- e.f where nothing but the object is asked: through attributeBase (super) and the last hold -/
theorem attr_of {prog : Program} {w : World} {env : Env} {e : Expr} {f : Str} {pos : Pos} {s : Shared} {Q : Value → Shared → Prop} (hb : attributeBase e f env (eval e env) = eval e env)
    (h : wpAny (model prog w) A (eval e env) (fun o s₁ => wpAny (model prog w) A (getAttr o f true) Q E s₁) E s) : wpAny (model prog w) A (eval (.Attribute e f pos) env) Q E s :=
  Attribute_any_ h (by rw [arm_eval_Attribute, hb])
end

/-! ### readings and rules -/

section
variable {X : Cx} {o e value : Expr} {f : Str} {pos pos' tpos : Pos} {ta tv : TE}

end

/-! ### isinstance -/
section
variable {X : Cx} {pins : List (Addr × Obj)} {σ : St} {H : Hp} {s : Shared} {A : Around} {E : Value → Shared → Prop} {Q : Value → Shared → Prop} {c : Value} {b : Bool}
/-- the type of a value, as the fragment's deciders take it; for an instance its class -/
inductive TyOf (K : PySem.W.Frag) (H : Hp) : V → Value → Prop where
  | non : TyOf K H .non (.type "NoneType")
  | bl (x : Bool) : TyOf K H (.bl x) (.type "bool")
  | int (i : Int) : TyOf K H (.int i) (.type "int")
  | str (x : Str) : TyOf K H (.str x) (.type "str")
  | flt (x : UInt64) : TyOf K H (.flt x) (.type "float")
  | lst {a : Addr} {xs : List V} (e : H a = some (.lst xs)) : TyOf K H (.ref a) (.type "list")
  | frz {a : Addr} {o : Obj} {xs : List V} (e : H a = some (.frz o (.lst xs))) : TyOf K H (.ref a) (.type "list")
  | tup {a : Addr} {xs : List V} (e : H a = some (.tup xs)) : TyOf K H (.ref a) (.type "tuple")
  | dK {a : Addr} {kvs : List (Key × V)} (e : H a = some (.dK kvs)) : TyOf K H (.ref a) (.type "dict")
  | dT {a : Addr} {kvs : List (List Key × V)} (e : H a = some (.dT kvs)) : TyOf K H (.ref a) (.type "dict")
  | ins {a C dx : Addr} {fs : List (Str × V)} (e : H a = some (.ins C dx fs)) (cl : Cls K C) (ha : PySem.W.findIn K (.ref C) "__class__" = some (some (.builtin "object.__class__")))
      (hn : PySem.W.specialIn K (.builtin "object.__class__") "__get__" = some (some (.builtin "getset_descriptor.__get__"))) (htk : PySem.W.takesIn K (.builtin "object.__class__") = some true)
      (hm : PySem.W.mroIn K C (.type "object") = some true) : TyOf K H (.ref a) (.ref C)
/-- isinstance(x, c) for one class c, a built-in or an own one: kitOne's answer -/
theorem isinst_ok {x : V} {u t : Value} (I : Inv X pins σ H s) (rx : RelV x u) (ty : TyOf X.K H x t) (e : PySem.W.kitOne X.K t c = some b) (h : ∀ tk, Q (.bool b) { s with toks := tk }) :
    wpAny (model X.prog X.w) A (call (.builtin "isinstance") [u, c]) Q E s := by
  cases ty with
  | non => cases (show u = Value.none from rx); exact PySem.W.kia_one PySem.W.kitx_none I.kIn True.intro e (fun z => nomatch z) h
  | bl y => cases (show u = Value.bool y from rx); exact PySem.W.kia_one PySem.W.kitx_bool I.kIn True.intro e (fun z => nomatch z) h
  | int i => obtain ⟨t, q⟩ := (show ∃ t, u = Value.int i t from rx); cases q; exact PySem.W.kia_one PySem.W.kitx_int I.kIn True.intro e (fun z => nomatch z) h
  | str y => obtain ⟨t, q⟩ := (show ∃ t, u = Value.str y t from rx); cases q; exact PySem.W.kia_one PySem.W.kitx_str I.kIn True.intro e (fun z => nomatch z) h
  | flt y => obtain ⟨t, q⟩ := (show ∃ t, u = Value.float y t from rx); cases q; exact PySem.W.kia_one PySem.W.kitx_float I.kIn True.intro e (fun z => nomatch z) h
  | @lst a xs ea =>
    cases (show u = Value.ref a from rx)
    obtain ⟨_, _, n, _, h1⟩ := (show ObjOk X.prog X.w H s.heap a (.lst xs) from I.hok a _ ea)
    exact PySem.W.kia_one PySem.W.kitx_list I.kIn ⟨_, h1, rfl⟩ e (fun z => nomatch z) h
  | @frz a ob xs ea =>
    cases (show u = Value.ref a from rx)
    obtain ⟨_, _, _, n, _, h1⟩ := (show ObjOk X.prog X.w H s.heap a (.frz ob (.lst xs)) from I.hok a _ ea)
    exact PySem.W.kia_one PySem.W.kitx_list I.kIn ⟨_, h1, rfl⟩ e (fun z => nomatch z) h
  | @tup a xs ea =>
    cases (show u = Value.ref a from rx)
    obtain ⟨_, _, _, p⟩ := (show ObjOk X.prog X.w H s.heap a (.tup xs) from I.hok a _ ea)
    obtain ⟨o, h1, h2, _⟩ := p
    exact PySem.W.kia_one PySem.W.kitx_tuple I.kIn ⟨o, h1, h2⟩ e (fun z => nomatch z) h
  | @dK a kvs ea =>
    cases (show u = Value.ref a from rx)
    obtain ⟨_, _, vs, _, p⟩ := (show ObjOk X.prog X.w H s.heap a (.dK kvs) from I.hok a _ ea)
    obtain ⟨o, es, ep, h1, h2, _⟩ := p
    exact PySem.W.kia_one PySem.W.kitx_dict I.kIn ⟨o, h1, h2.1⟩ e (fun z => nomatch z) h
  | @dT a kvs ea =>
    cases (show u = Value.ref a from rx)
    obtain ⟨_, _, xs, _, o, es, ep, h1, h2, _⟩ := (show ObjOk X.prog X.w H s.heap a (.dT kvs) from I.hok a _ ea)
    exact PySem.W.kia_one PySem.W.kitx_dict I.kIn ⟨o, h1, h2.1⟩ e (fun z => nomatch z) h
  | @ins a C dx fs ea cl ha hn htk hm =>
    cases (show u = Value.ref a from rx)
    obtain ⟨mA, O, _⟩ := ins_get I.hok ea
    obtain ⟨od, J, _⟩ := O.look
    exact PySem.W.kia_one (PySem.W.kitx_own (cl.get _) cl.hd ha hn htk hm) I.kIn J e (fun z => nomatch z) h
end
end L2

namespace L2
open PySem PySem.Spec PyProof.Rows

/-! ### room -/
structure Room (k : Nat) (A : Around) : Prop where
  hd : A.handled = none
  dp : A.depth + 3 * k + 5 < recursionLimit
  un : A.units + 16 * k + 200 < cLine
theorem Room.mono {j k : Nat} {A : Around} (r : Room k A) (h : j ≤ k) : Room j A := ⟨r.hd, by have := r.dp; omega, by have := r.un; omega⟩
theorem Room.deeper {k : Nat} {A : Around} (r : Room (k + 1) A) (env : Env) : Room k (A.deeper env) :=
  ⟨r.hd, by have := r.dp; show A.depth + 1 + 3 * k + 5 < _; omega, by have := r.un; show A.units + 3 + 16 * k + 200 < _; omega⟩
theorem make_depth {A : Around} {C : Addr} {us : List Value} {kw : List (Str × Value)} : (A.under (.builtin "type.__call__" ⟨.ref C :: us, kw⟩)).depth = A.depth + 1 := by
  first | rfl | simp [Around.under, Code.weight, Code.isCreation, Code.isGuard, Code.isCaller, Code.frames, Code.isFrame, guardIds]
theorem make_units {A : Around} {C : Addr} {us : List Value} {kw : List (Str × Value)} : (A.under (.builtin "type.__call__" ⟨.ref C :: us, kw⟩)).units = A.units + 1 := by
  first | rfl | simp [Around.under, Code.cUnits, Code.frames, Code.isFrame]
theorem Room.make {k : Nat} {A : Around} (r : Room (k + 1) A) (C : Addr) (us : List Value) (kw : List (Str × Value)) : Room k (A.under (.builtin "type.__call__" ⟨.ref C :: us, kw⟩)) :=
  ⟨r.hd, by have := r.dp; rw [make_depth]; omega, by have := r.un; rw [make_units]; omega⟩
theorem Room.depth {k : Nat} {A : Around} (r : Room k A) : A.depth < recursionLimit := by have := r.dp; omega
theorem Room.units {k : Nat} {A : Around} (r : Room k A) : A.units + 64 < cLine := by have := r.un; omega

/-! ### argument lists and displays -/
def tNil : TA := fun _ H Q => Q [] H
def tCons (ta : TE) (tr : TA) : TA := fun σ H Q => ta σ H fun x H1 => tr σ H1 fun xs H2 => Q (x :: xs) H2
section
variable {X : Cx} {e : Expr} {es : List Expr} {te : TE} {t : TA} {pos : Pos}
theorem pa_nil : PA X [] tNil := fun _ _ _ _ H Q I h => Calls.spliced_nil ⟨[], H, I, .nil, h⟩
theorem pa_cons (ha : PE X e te) (hr : PA X es t) (hs : starEach (e :: es) X.env = (false, eval e X.env) :: starEach es X.env := by rfl) : PA X (e :: es) (tCons te t) := by
  intro pos pins s σ H Q I h
  rw [hs]
  show wpAny _ _ (spliced ((false, eval e X.env) :: backTo pos (starEach es X.env))) _ _ s
  refine Calls.spliced_cons (thn (ha pins s σ H _ I h) fun u s1 ⟨x, H1, I1, r1, q1⟩ => ?_)
  exact thn (hr pos pins s1 σ H1 _ I1 q1) fun us s2 ⟨xs, H2, I2, r2, q2⟩ => ⟨x :: xs, H2, I2, .cons r1 r2, q2⟩

/-- a tuple, a list of written items -/
def tTup (t : TA) : TE := fun σ H Q => t σ H fun xs H1 => xs.length ≤ sizeLine ∧ ∀ p, H1 p = none → Q (.ref p) (upd H1 p (.tup xs))
def tLst (t : TA) : TE := fun σ H Q => t σ H fun xs H1 => xs.length ≤ sizeLine ∧ ∀ p, H1 p = none → Q (.ref p) (upd H1 p (.lst xs))
theorem pe_tup {x1} (h : PA X es t) : PE X (.Tuple es x1 pos) (tTup t) := by
  intro pins s σ H Q I hq
  refine wpAny_Tuple_spliced (thn (h pos pins s σ H _ I hq) fun us s1 ⟨xs, H1, I1, r, z, q⟩ => ⟨by rw [← r.length]; exact z, ?_⟩)
  have hf : H1 s1.heap.objs.size = none := I1.hok.fresh (Nat.le_refl _)
  refine ⟨.ref s1.heap.objs.size, upd H1 s1.heap.objs.size (.tup xs), I1.laid (t' := s1.toks) (fun b u e => Heap.get?_push_of_some _ e) (Nat.le_refl _) ?_, rfl, q _ hf⟩
  exact ⟨z, us, r, ⟨_, Heap.get?_push_size _ rfl, rfl, _, rfl⟩⟩
theorem pe_lst (h : PA X es t) : PE X (.List es pos) (tLst t) := by
  intro pins s σ H Q I hq
  refine wpAny_List_spliced (thn (h pos pins s σ H _ I hq) fun us s1 ⟨xs, H1, I1, r, z, q⟩ => ⟨by rw [← r.length]; exact z, ?_⟩)
  have hf : H1 s1.heap.objs.size = none := I1.hok.fresh (Nat.le_refl _)
  refine ⟨.ref s1.heap.objs.size, upd H1 s1.heap.objs.size (.lst xs), I1.laid (t' := s1.toks) (fun b u e => Heap.get?_push_of_some _ e) (Nat.le_refl _) ?_, rfl, q _ hf⟩
  exact ⟨z, us, 0, r, Heap.get?_push_size _ rfl⟩
end

/-! ### what a def promises -/
/-- a def's promise: the bound arguments in the parameters' order, the heap, the wanted end, the wanted exception -/
abbrev Sp := List V → Hp → VK → XK → Prop
/-- how an exception lies behind a call (file 08 gives it): the callers' frames, abstract heap and state ahead of the call, the wish, the exception, the state -/
abbrev CXT := List Env → Hp → Shared → XK → Value → Shared → Prop

/-- the state at a call -/
structure Env0 (P : Program) (w : World) (K : PySem.W.Frag) (mg : Str → Option Value) (base : Heap) (A : Around) (outer : List Env) (s : Shared) (H : Hp) : Prop where
  frames : A.frames = some outer
  mod : Mod K mg base
  bs : ∀ b o, base.get? b = some o → s.heap.get? b = some o ∧ H b = none
  bsz : base.objs.size ≤ s.heap.objs.size
  funs : s.heap.FunFrames base outer
  frf : ∀ b ∈ frs outer, H b = none
  hok : HOk P w H s.heap
  bare : AllBare s.gens
/-- a call's end -/
def CE (outer : List Env) (P : Program) (w : World) (H : Hp) (s : Shared) (Q : VK) (u : Value) (s' : Shared) : Prop :=
  ∃ v H', s'.os = s.os ∧ AllBare s'.gens ∧ Un (frs outer) [] H H' s.heap s'.heap ∧ HOk P w H' s'.heap ∧ RelV v u ∧ Q v H'
def CR (CX : CXT) (outer : List Env) (P : Program) (w : World) (H : Hp) (s : Shared) (Q : VK) (E : XK) (r : Result) (s' : Shared) : Prop :=
  match r with
  | .ok (.ret u) => CE outer P w H s Q u s'
  | .ok _ => False
  | .error e => CX outer H s E e s'
structure FnOk (P : Program) (w : World) (K : PySem.W.Frag) (mg : Str → Option Value) (base : Heap) (CX : CXT) (k : Nat) (f : Addr) (fd : FuncData) (ps : List Str) (sp : Sp) : Prop where
  len : ∀ vs H Q E, sp vs H Q E → vs.length = ps.length
  run : ∀ (A : Around) (outer : List Env) (s : Shared) (H : Hp) (args : Args) (us : List Value) (vs : List V) (Q : VK) (E : XK), Room k A → Env0 P w K mg base A outer s H → BindsTo s fd args (ps.zip us) → Vals vs us → sp vs H Q E →
    codeAny (model P w) A (.call (.ref f) args) (CR CX outer P w H s Q E) s

theorem Env0.make {P : Program} {w : World} {K : PySem.W.Frag} {mg : Str → Option Value} {base : Heap} {A : Around} {outer : List Env} {s : Shared} {H : Hp} (e : Env0 P w K mg base A outer s H) (C : Addr) (us : List Value) (kw : List (Str × Value)) :
    Env0 P w K mg base (A.under (.builtin "type.__call__" ⟨.ref C :: us, kw⟩)) outer s H := ⟨by first | exact e.frames | (simpa [Around.under, Code.envs, Code.isFrame, pushEnvs] using e.frames), e.mod, e.bs, e.bsz, e.funs, e.frf, e.hok, e.bare⟩

section
variable {X : Cx} {pins : List (Addr × Obj)} {σ : St} {H : Hp} {s s' : Shared}
/-- from a body: what a callee wants -/
theorem Inv.env0 (I : Inv X pins σ H s) : Env0 X.prog X.w X.K X.mg X.base X.A X.stack s H :=
  ⟨I.ok.frames, I.ok.mod, I.bs, Nat.le_trans I.ok.bsz I.sz, I.stack, I.stkFree, I.hok, I.bare⟩
/-- behind a call -/
theorem Inv.after {Q : VK} {u : Value} (I : Inv X pins σ H s) (h : CE X.stack X.prog X.w H s Q u s') : EP X pins σ Q u s' := by
  obtain ⟨v, H', os, bare, un, hok, r, q⟩ := h
  obtain ⟨hh, g, d, t, os'⟩ := s'
  obtain rfl : os' = s.os := os
  exact ⟨v, H', I.call (h' := hh) (g' := g) (d' := d) (t' := t) (ch := []) un hok bare (fun b z => absurd z (by simp)), r, q⟩
end

/-! ### calls -/
/-- f(..): the written arguments, then the defaults dvs; E: what is wanted of an exception -/
def tCall (sp : Sp) (dvs : List V) (E : XK) (t : TA) : TE := fun σ H Q => t σ H fun vs H1 => sp (vs ++ dvs) H1 Q E

/-- how the parameters are bound: us the positional arguments, kw the keywords' values by name, ds the defaults that fill up -/
def Binds (K : PySem.W.Frag) (fd : FuncData) (ps : List Str) (ds : List Value) : Prop :=
  ∀ (s : Shared) (us : List Value), K.In s.heap → (us ++ ds).length = ps.length → BindsTo s fd ⟨us, []⟩ (ps.zip (us ++ ds))
/-- every parameter is given -/
theorem Binds.all {K : PySem.W.Frag} {fd : FuncData} {ps : List Str} (h : ∀ us : List Value, us.length = ps.length → bindArgs fd ⟨us, []⟩ = pure (ps.zip us)) : Binds K fd ps [] := fun s us _ hl => by
  rw [List.append_nil] at hl ⊢
  exact .of_eq (h us hl)

/-- an exception of a callee reaches what this body wants of exceptions -/
def Passes (CX : CXT) (X : Cx) (E : XK) : Prop := ∀ (pins : List (Addr × Obj)) (σ : St) (H : Hp) (s : Shared) (e : Value) (s' : Shared), Inv X pins σ H s → CX X.stack H s E e s' → X.xe e s'

section
variable {X : Cx} {CX : CXT} {k : Nat} {f C : Addr} {fd : FuncData} {ps : List Str} {sp : Sp} {dvs : List V} {ds : List Value} {E : XK} {x m : Str} {p pos apos : Pos} {e o : Expr} {es : List Expr} {ta : TE} {t : TA}

/-- the callee runs -/
theorem run_fn {pins : List (Addr × Obj)} {σ : St} {H : Hp} {s : Shared} {Q : VK} {us : List Value} {vs : List V} (F : FnOk X.prog X.w X.K X.mg X.base CX k f fd ps sp) (hr : Room k X.A) (hb : Binds X.K fd ps ds) (hd : Vals dvs ds) (hx : Passes CX X E)
    (I : Inv X pins σ H s) (r : Vals vs us) (h : sp (vs ++ dvs) H Q E) : wpAny (model X.prog X.w) X.A (call (.ref f) us) (EP X pins σ Q) X.xe s := by
  have r2 : Vals (vs ++ dvs) (us ++ ds) := r.append hd
  have hl : (us ++ ds).length = ps.length := by rw [← r2.length]; exact F.len _ _ _ _ h
  refine wpAny_call (codeAny_mono (F.run X.A X.stack s H ⟨us, []⟩ (us ++ ds) (vs ++ dvs) Q E hr I.env0 (hb s us I.kIn hl) r2 h) fun r s' hq => ?_)
  cases r with
  | error e => exact hx pins σ H s e s' I hq
  | ok fl =>
    cases fl with
    | ret u => exact I.after hq
    | next => exact False.elim hq
    | brk => exact False.elim hq
    | cont => exact False.elim hq

theorem pe_call (F : FnOk X.prog X.w X.K X.mg X.base CX k f fd ps sp) (hr : Room k X.A) (hg : Gl X x) (hm : X.mg x = some (.ref f)) (hk : PySem.W.keepIn X.K (.ref f) = true) (hb : Binds X.K fd ps ds) (hd : Vals dvs ds) (hx : Passes CX X E)
    (ha : PA X (e :: es) t) (hdb : (x == ("__debug__" : Str)) = false := by decide) (he : starEach (e :: es) X.env = (false, eval e X.env) :: starEach es X.env := by rfl) (hpl : (backTo pos (starEach es X.env)).any (·.1) = false := by rfl) :
    PE X (.Call (.Name x p) (e :: es) [] pos) (tCall sp dvs E t) := by
  intro pins s σ H Q I h
  refine wpAny_Call_Name_kw (ld_glob I hg hm ?_ hdb)
  refine PySem.W.callWith_K (h₀ := X.base) I.ok.mod.kin hk (thn (ha pos pins s σ H _ I h) fun us s1 ⟨vs, H1, I1, r, q⟩ => ⟨I1.kIn, ?_⟩) he hpl
  exact run_fn F hr hb hd hx I1 r q



end

/-! ### keywords -/
section
variable {X : Cx} {CX : CXT} {k : Nat} {f C : Addr} {fd : FuncData} {ps ks : List Str} {sp : Sp} {E : XK} {x m : Str} {p pos apos kpos : Pos} {e o : Expr} {es : List Expr} {kws : List Keyword} {te ta : TE} {t tk : TA} {nm : Option Str}

variable {g : List Value → List Value → List Value} {gV : List V → List V → List V}
end

/-! ### a def's body keeps its promise -/
/-- names: the parameters first -/
structure FnScope (N P : List Str) (sc : Scope) : Prop where
  kind : sc.kind = .function
  co : sc.isCoroutine = false
  gen : sc.isGenerator = false
  nd : N.Nodup
  pre : N.take P.length = P
  par : ∀ x ∈ P, sc.names.lookup x = some .local ∨ sc.names.lookup x = some .cell
  nofree : ∀ y ∈ sc.names, y.2 ≠ .free

theorem bindL_out {kindOf : Str → Option NameKind} {x : Str} : ∀ {binds : List (Str × Value)} {m : Str → Option Value}, (∀ v, (x, v) ∉ binds) → bindL kindOf binds m x = m x
  | [], _, _ => rfl
  | (n, v) :: r, m, h => by
    unfold bindL
    rw [bindL_out fun w hw => h w (List.mem_cons_of_mem _ hw)]
    split
    · have : x ≠ n := by rintro rfl; exact h v List.mem_cons_self
      simp [this]
    · rfl
theorem bindC_out {kindOf : Str → Option NameKind} {x : Str} : ∀ {binds : List (Str × Value)} {m : Str → Option Value}, (∀ v, (x, v) ∉ binds) → bindC kindOf binds m x = m x
  | [], _, _ => rfl
  | (n, v) :: r, m, h => by
    unfold bindC
    rw [bindC_out fun w hw => h w (List.mem_cons_of_mem _ hw)]
    split
    · rfl
    · have : x ≠ n := by rintro rfl; exact h v List.mem_cons_self
      simp [this]
theorem bindL_get {kindOf : Str → Option NameKind} {x : Str} {v : Value} : ∀ {P : List Str} {vs : List Value} {i : Nat} {m : Str → Option Value}, P.Nodup → P[i]? = some x → vs[i]? = some v → kindOf x = some .local →
    bindL kindOf (P.zip vs) m x = some v
  | [], _, _, _, _, h, _, _ => by simp at h
  | _ :: _, [], _, _, _, _, h, _ => by simp at h
  | p :: P, w :: vs, 0, m, nd, h1, h2, hk => by
    simp at h1 h2; subst h1; subst h2
    show bindL kindOf ((p, w) :: P.zip vs) m p = _
    unfold bindL
    rw [bindL_out fun v hv => (List.nodup_cons.mp nd).1 (List.of_mem_zip hv).1, if_pos hk]
    simp
  | p :: P, w :: vs, i + 1, m, nd, h1, h2, hk => by
    show bindL kindOf ((p, w) :: P.zip vs) m x = _
    unfold bindL
    exact bindL_get (i := i) (List.nodup_cons.mp nd).2 (by simpa using h1) (by simpa using h2) hk
theorem bindC_get {kindOf : Str → Option NameKind} {x : Str} {v : Value} : ∀ {P : List Str} {vs : List Value} {i : Nat} {m : Str → Option Value}, P.Nodup → P[i]? = some x → vs[i]? = some v → kindOf x ≠ some .local →
    bindC kindOf (P.zip vs) m x = some v
  | [], _, _, _, _, h, _, _ => by simp at h
  | _ :: _, [], _, _, _, _, h, _ => by simp at h
  | p :: P, w :: vs, 0, m, nd, h1, h2, hk => by
    simp at h1 h2; subst h1; subst h2
    show bindC kindOf ((p, w) :: P.zip vs) m p = _
    unfold bindC
    rw [bindC_out fun v hv => (List.nodup_cons.mp nd).1 (List.of_mem_zip hv).1, if_neg hk]
    simp
  | p :: P, w :: vs, i + 1, m, nd, h1, h2, hk => by
    show bindC kindOf ((p, w) :: P.zip vs) m x = _
    unfold bindC
    exact bindC_get (i := i) (List.nodup_cons.mp nd).2 (by simpa using h1) (by simpa using h2) hk

/-- the names' values at the entry -/
def start (N : List Str) (vs : List V) : St := vs.map some ++ List.replicate (N.length - vs.length) none

/-- the context of a def's body, at its entry; an exception leaves the frame, then lies as CX says -/
def cxOf (CX : CXT) (P : Program) (w : World) (K : PySem.W.Frag) (mg : Str → Option Value) (base : Heap) (N : List Str) (qual : Str) (scope : Scope) (f : Addr) (cd : Value) (A : Around) (outer : List Env) (s : Shared) (H : Hp) (E : XK) : Cx where
  prog := P
  w := w
  K := K
  mg := mg
  base := base
  A := A.deeper (envOfC qual scope s.heap.objs.size f cd)
  N := N
  s₀ := s
  H₀ := H
  env := envOfC qual scope s.heap.objs.size f cd
  outer := outer
  stack := envOfC qual scope s.heap.objs.size f cd :: outer
  ex := []
  calm := true
  fn := fun _ => true
  pn := []
  xe := fun e s' => wpAny (model P w) (A.deeper (envOfC qual scope s.heap.objs.size f cd)) (leaving (envOfC qual scope s.heap.objs.size f cd) e) (fun _ s'' => CX outer H s E e s'') (fun e' s'' => CX outer H s E e' s'') s'

theorem cell_has {sc : Scope} {n : Nat} {x : Str} (h : sc.names.lookup x = some .cell) : ∃ c, (cellsFrom n sc.names []).lookup x = some c := by
  have q := PySem.W.cellsFrom_some sc.names n [] (.inl h)
  exact Option.isSome_iff_exists.mp q

theorem inv_start {CX : CXT} {P : Program} {w : World} {K : PySem.W.Frag} {mg : Str → Option Value} {base : Heap} {N ps : List Str} {qual : Str} {scope : Scope} {f : Addr} {cd : Value} {A : Around} {outer : List Env} {s s1 : Shared} {H : Hp} {E : XK} {us : List Value} {vs : List V}
    (S : FnScope N ps scope) (hd : A.handled = none) (e0 : Env0 P w K mg base A outer s H) (hl : vs.length = ps.length) (r : Vals vs us)
    (x : InCallC s s.heap.objs.size (bindL (envOfC qual scope s.heap.objs.size f cd).kindOf (ps.zip us) fun _ => none) (cellsFrom (s.heap.objs.size + 1) scope.names []) (bindC (envOfC qual scope s.heap.objs.size f cd).kindOf (ps.zip us) fun _ => none) s1) :
    Inv (cxOf CX P w K mg base N qual scope f cd A outer s H E) [] (start N vs) H s1 := by
  have hpl : ps.length ≤ N.length := by have := congrArg List.length S.pre; rw [List.length_take] at this; omega
  obtain ⟨h1, tk, rfl, hk⟩ := x.done
  have noA : ∀ b : Addr, b ∉ (cxOf CX P w K mg base N qual scope f cd A outer s H E).ex := fun b z => absurd (show b ∈ ([] : List Addr) from z) (by simp)
  refine ⟨⟨e0.mod, S.kind, rfl, rfl, Nat.le_refl _, fun y z c h1 h2 => ?_, fun y hy => ?_, fun y c _ h => ?_, fun _ => hd, Around.frames_deeper e0.frames, .inr ⟨rfl, rfl⟩, fun b z => absurd z (noA b), e0.bs, e0.bsz, fun b _ _ => noA b, fun b z => absurd z (noA b), e0.funs, e0.frf⟩,
    rfl, e0.bare, Un.kept hk, ⟨_, x.toInCall.ns, fun i y v h1 h2 h3 => ?_⟩, fun y c h => ⟨_, x.cell y c h⟩, e0.hok.fresh (Nat.le_refl _), fun y c h => ?_, fun p hp => absurd (show p ∈ ([] : List (Addr × Obj)) from hp) (by simp), e0.hok.kept hk, ?_⟩
  · exact name_of_addr x.apart (PySem.mem_of_lookup h1) (PySem.mem_of_lookup h2)
  · have hy : scope.names.lookup y = some .cell ∨ scope.names.lookup y = some .free := hy
    rcases hy with hy | hy
    · exact cell_has hy
    · exact absurd rfl (S.nofree _ (PySem.mem_of_lookup hy))
  · exact Nat.le_of_lt (x.above y c (PySem.mem_of_lookup h))
  · have hi : i < vs.length := by
      unfold start at h2
      by_cases hi : i < vs.length
      · exact hi
      · rw [List.getElem?_append_right (by simpa using hi)] at h2
        rw [List.getElem?_replicate] at h2
        split at h2 <;> cases h2
    have ha : vs[i]? = some v := by
      unfold start at h2
      rw [List.getElem?_append_left (by simpa using hi), List.getElem?_map] at h2
      cases e : vs[i]? with
      | none => rw [e] at h2; cases h2
      | some a => rw [e] at h2; cases h2; rfl
    obtain ⟨u, hu, rv⟩ := r.get ha
    have hp : ps[i]? = some y := by
      rw [← S.pre, List.getElem?_take_of_lt (by omega)]; exact h1
    have ndP : ps.Nodup := by rw [← S.pre]; exact S.nd.sublist (List.take_sublist _ _)
    refine ⟨u, rv, ?_⟩
    rcases S.par y (List.mem_of_getElem? hp) with k | k
    · exact .inl ⟨k, bindL_get ndP hp hu k⟩
    · obtain ⟨c, e⟩ := cell_has (n := s.heap.objs.size + 1) k
      refine .inr ⟨.inl k, c, e, ?_⟩
      have q := x.cell y c e
      rw [bindC_get ndP hp hu (by show scope.names.lookup y ≠ _; rw [k]; decide)] at q
      exact q
  · exact e0.hok.fresh (Nat.le_of_lt (x.above y c (PySem.mem_of_lookup h)))
  · unfold start
    show _ = N.length
    rw [List.length_append, List.length_map, List.length_replicate]
    omega

/-- THE RULE: a def (or a method) of the text, by its body. The body's reading t is chosen for each entry; it is run at the parameters' values -/
theorem fn_of {CX : CXT} {P : Program} {w : World} {K : PySem.W.Frag} {mg : Str → Option Value} {base : Heap} {k : Nat} {f : Addr} {name qual : Str} {params : Arguments} {body : List Stmt} {scope : Scope} {dV kV doc pm cdv ct oc : Value} {an od : Option Addr}
    {osl : Array (Option Value)} {N ps : List Str} {sp : Sp} (lk : K.lookup f = some ⟨oc, od, .func (PySem.W.fnOf name qual params body scope dV kV doc pm an cdv ct), osl⟩) (hcd : PySem.W.codeIn K cdv qual = true) (S : FnScope N ps scope)
    (len : ∀ vs H Q E, sp vs H Q E → vs.length = ps.length)
    (hbody : ∀ (A : Around) (outer : List Env) (s : Shared) (H : Hp) (vs : List V) (Q : VK) (E : XK), Room k (A.deeper (envOfC qual scope s.heap.objs.size f cdv)) → sp vs H Q E →
      ∃ t, PSs (cxOf CX P w K mg base N qual scope f cdv A outer s H E) body t ∧ t { nx := fun _ H' => Q .non H', rt := Q } (start N vs) H) :
    FnOk P w K mg base CX (k + 1) f (PySem.W.fnOf name qual params body scope dV kV doc pm an cdv ct) ps sp := by
  refine ⟨len, fun A outer s H args us vs Q E hr e0 hb r hsp => ?_⟩
  have hl := len _ _ _ _ hsp
  have KX : K.In s.heap := e0.mod.kin.keeps fun b o e => (e0.bs b o e).1
  have lim : s.heap.NoLimit := e0.mod.nolimit.keeps fun b o e => (e0.bs b o e).1
  have hkind : ∀ y ∈ ps.zip us, scope.names.lookup y.1 = some .local ∨ (scope.names.lookup y.1 = some .cell ∧ ((cellsFrom (s.heap.objs.size + 1) scope.names []).lookup y.1).isSome = true) := fun ⟨n, v⟩ hy => by
    rcases S.par n (List.of_mem_zip hy).1 with q | q
    · exact .inl q
    · exact .inr ⟨q, PySem.W.cellsFrom_some _ _ _ (.inl q)⟩
  refine codeAny_call_function hr.depth (KX _ _ lk) rfl S.co S.gen rfl (PySem.W.codeRec_of KX hcd) (hb _ _ _ _ ?_)
  refine wpAny_newFunctionEnv_cells S.kind hkind fun env he s1 x => ?_
  subst he
  refine ⟨lim.keeps x.toInCall.keep, codeAny_func ?_⟩
  obtain ⟨t, ht, hq⟩ := hbody A outer s H vs Q E (hr.deeper _) hsp
  have I : Inv (cxOf CX P w K mg base N qual scope f cdv A outer s H E) [] (start N vs) H s1 := inv_start S hr.hd e0 hl r x
  refine wpAny_mono (ht [] s1 (start N vs) H _ I hq) (fun fl s' hs => ?_) fun e s' hs => hs
  have fin : ∀ {σ' : St} {H' : Hp} {v : V} {u : Value}, Inv (cxOf CX P w K mg base N qual scope f cdv A outer s H E) [] σ' H' s' → RelV v u → Q v H' → CE outer P w H s Q u s' :=
    fun {σ' H' v u} J rv q => ⟨v, H', J.os, J.bare, J.base, J.hok, rv, q⟩
  cases fl with
  | ret u =>
    obtain ⟨v, σ', H', J, rv, q⟩ := hs
    exact fin J rv q
  | next =>
    obtain ⟨σ', H', J, q⟩ := hs
    exact fin (v := V.non) (u := Value.none) J rfl q
  | brk =>
    obtain ⟨_, _, _, q⟩ := hs
    exact False.elim q
  | cont =>
    obtain ⟨_, _, _, q⟩ := hs
    exact False.elim q
end L2

namespace L2
open PySem PySem.Spec PyProof.Rows
section
variable {X : Cx} {x : Str} {p pos : Pos} {e : Expr} {es : List Expr} {t : TA} {id T : String} {r : List V → Hp → VK → Prop}

def tCB (r : List V → Hp → VK → Prop) (t : TA) : TE := fun σ H Q => t σ H fun vs H1 => r vs H1 Q
/-- f(e, ..), f a built-in function -/
theorem pe_callB (hc : CallR X (.builtin id) r) (hg : Gl X x) (hm : X.mg x = none) (hv : bootBuiltins x = some (.builtin id)) (ha : PA X (e :: es) t) (hn : x ≠ "__name__" := by decide) (hdb : (x == ("__debug__" : Str)) = false := by decide)
    (he : starEach (e :: es) X.env = (false, eval e X.env) :: starEach es X.env := by rfl) (hpl : (backTo pos (starEach es X.env)).any (·.1) = false := by rfl) : PE X (.Call (.Name x p) (e :: es) [] pos) (tCB r t) := by
  intro pins s σ H Q I h
  refine wpAny_Call_Name_kw (ld_blt I hg hm hv ?_ hn hdb)
  exact PyProof.Rows.callWith_builtin1 (thn (ha pos pins s σ H _ I h) fun us s1 ⟨vs, H1, I1, r1, q1⟩ => hc pins s1 σ H1 vs us Q I1 r1 q1) he hpl
/-- T(e, ..), T a built-in type -/
theorem pe_callTy (hc : CallR X (.type T) r) (hg : Gl X x) (hm : X.mg x = none) (hv : bootBuiltins x = some (.type T)) (ha : PA X (e :: es) t) (hn : x ≠ "__name__" := by decide) (hdb : (x == ("__debug__" : Str)) = false := by decide)
    (he : starEach (e :: es) X.env = (false, eval e X.env) :: starEach es X.env := by rfl) (hpl : (backTo pos (starEach es X.env)).any (·.1) = false := by rfl) : PE X (.Call (.Name x p) (e :: es) [] pos) (tCB r t) := by
  intro pins s σ H Q I h
  refine wpAny_Call_Name_kw (ld_blt I hg hm hv ?_ hn hdb)
  exact PyProof.Rows.callWith_type1 (thn (ha pos pins s σ H _ I h) fun us s1 ⟨vs, H1, I1, r1, q1⟩ => hc pins s1 σ H1 vs us Q I1 r1 q1) he hpl
end
end L2

namespace HT
open PySem PyProof.Rows



section
open PySem.SeqAt
open PySem.AutoSeq1 (wpAny_loadPart')
open PySem.MeetsSeq PySem.MeetsSeq2 PySem.MeetsSeq3

end

section
variable {prog : Program} {w : World} {A : Around} {E : Value → Shared → Prop} {s : Shared}


/-- t + u, t not empty -/
theorem cat_tup {t b : Addr} {vs ws : List Value} {Q : Value → Shared → Prop} (ht : IsTup s.heap t vs.toArray) (hb : IsTup s.heap b ws.toArray) (hv : vs ≠ [])
    (h1 : ws = [] → Q (.ref t) s) (h2 : ws ≠ [] → Q (.ref s.heap.objs.size) { s with heap := s.heap.push { cls := .type "tuple", data := .seq (vs ++ ws).toArray } })
    (hsz : vs.length + ws.length ≤ sizeLine) : wpAny (model prog w) A (binaryOp .Add (.ref t) (.ref b)) Q E s := by
  obtain ⟨⟨cls, dd, data, sl⟩, ho, hc, n, hd⟩ := id ht
  obtain ⟨⟨cls2, dd2, data2, sl2⟩, ho2, hc2, n2, hd2⟩ := id hb
  simp only at hc hd hc2 hd2
  subst hc hd hc2 hd2
  have e : vs.toArray ++ ws.toArray = (vs ++ ws).toArray := by simp
  by_cases hw : ws = []
  · exact concat_meets ⟨_, ho, rfl⟩ ⟨_, ho2, rfl⟩ noFill_tuple_add seq_tuple_add PySem.F.slot_tuple_add PySem.F.entry_tuple_add (PySem.F.args_tuple_add_2 _ _)
      (tuple_addW1 t b vs.toArray ws.toArray n n2 dd dd2 sl sl2 (by simpa using hv) (by simp [hw])) ⟨ho, ho2, h1 hw⟩
  · refine concat_meets ⟨_, ho, rfl⟩ ⟨_, ho2, rfl⟩ noFill_tuple_add seq_tuple_add PySem.F.slot_tuple_add PySem.F.entry_tuple_add (PySem.F.args_tuple_add_2 _ _)
      (tuple_addW2 t b vs.toArray ws.toArray n n2 dd dd2 sl sl2 (by simpa using hv) (by simpa using hw) (by rw [List.size_toArray, List.size_toArray]; exact hsz)) ⟨ho, ho2, ?_⟩
    rw [e]
    exact h2 hw

/-! ### t[a:b], not the whole -/
/-- a slice's bound as a place among n (d where it is left out) -/
def sIx (n d : Nat) : Option Int → Nat
  | none => d
  | some v => if v < 0 then (v + (n : Int)).toNat else min v.toNat n
theorem sIx_nat (n d k : Nat) : sIx n d (some (k : Int)) = min k n := by
  show (if (k : Int) < 0 then ((k : Int) + (n : Int)).toNat else min (k : Int).toNat n) = min k n
  rw [if_neg (by omega), Int.toNat_natCast]
theorem sIx_le (n d : Nat) (hd : d ≤ n) (o : Option Int) : sIx n d o ≤ n := by
  cases o with
  | none => exact hd
  | some v =>
    show (if v < 0 then (v + (n : Int)).toNat else min v.toNat n) ≤ n
    by_cases hv : v < 0
    · rw [if_pos hv]; omega
    · rw [if_neg hv]; exact Nat.min_le_right _ _
theorem clip_eq (v : Int) (n d : Nat) : (if v < 0 then max (v + (n : Int)) 0 else min v (n : Int)) = ((sIx n d (some v) : Nat) : Int) := by
  show (if v < 0 then max (v + (n : Int)) 0 else min v (n : Int)) = (((if v < 0 then (v + (n : Int)).toNat else min v.toNat n) : Nat) : Int)
  by_cases hv : v < 0
  · simp only [if_pos hv]; omega
  · simp only [if_neg hv]; omega
theorem adjust_gen (lo hi : Option Int) (n : Nat) : Builtin.Slice.sliceAdjust lo hi 1 (n : Int) = (((sIx n 0 lo : Nat) : Int), ((sIx n n hi : Nat) : Int)) := by
  have h1 : ¬ ((1 : Int) < 0) := by omega
  unfold Builtin.Slice.sliceAdjust
  simp only [h1, if_false]
  refine Prod.ext ?_ ?_
  · cases lo with
    | none => rfl
    | some v => exact clip_eq v n 0
  · cases hi with
    | none => rfl
    | some v => exact clip_eq v n n
theorem places_gen (i j : Nat) : Builtin.Slice.slicePlaces (i : Int) (j : Int) 1 = j - i := by
  unfold Builtin.Slice.slicePlaces
  have h1 : (1 : Int) > 0 := by omega
  simp only [h1, if_true, Int.ediv_one]
  split <;> omega
theorem slicePart_ {v : Value} {o : Option Int} {Q : Option Int → Shared → Prop} (p : IsPart v o) (h : Q o s) : wpAny (model prog w) A (Builtin.Slice.slicePartIndex v) Q E s := by
  cases p with
  | none => exact slicePart_none h
  | int i t => exact slicePart_int h
theorem sliceApplied_gen {sl : Addr} {vl vu : Value} {lo hi : Option Int} {n : Nat} {Q : Int × Int × Nat → Shared → Prop} (hs : s.heap.IsSliceOf sl vl vu .none) (pl : IsPart vl lo) (pu : IsPart vu hi)
    (h : Q (((sIx n 0 lo : Nat) : Int), 1, sIx n n hi - sIx n 0 lo) s) : wpAny (model prog w) A (Builtin.Slice.sliceApplied (.ref sl) (pure (n : Int))) Q E s := by
  obtain ⟨os, hos, hcs, hds⟩ := id hs
  unfold Builtin.Slice.sliceApplied Builtin.Slice.sliceFields
  refine wpAny_bind (wpAny_bind (wpAny_field hos hds (x := vl) rfl (wpAny_bind (wpAny_field hos hds (x := vu) rfl (wpAny_bind (wpAny_field hos hds (x := .none) rfl (wpAny_pure ?_)))))))
  refine wpAny_bind (slicePart_none ?_)
  show wpAny _ _ (if ((1 : Int) == 0) = true then _ else _) _ _ s
  rw [if_neg (by decide)]
  refine wpAny_bind (slicePart_ pl (wpAny_bind (slicePart_ pu (wpAny_bind (wpAny_pure ?_)))))
  show wpAny _ _ (match Builtin.Slice.sliceAdjust lo hi 1 (n : Int) with | (lo, hi) => pure (lo, (1 : Int), Builtin.Slice.slicePlaces lo hi 1)) _ _ s
  rw [adjust_gen lo hi n]
  show wpAny _ _ (pure (((sIx n 0 lo : Nat) : Int), (1 : Int), Builtin.Slice.slicePlaces ((sIx n 0 lo : Nat) : Int) ((sIx n n hi : Nat) : Int) 1)) _ _ s
  rw [places_gen]
  exact wpAny_pure h
theorem pick_gen (xs : Array Value) (i k : Nat) : ((List.range k).filterMap fun (m : Nat) => xs[((i : Int) + (m : Int) * 1).toNat]?).toArray = ((xs.toList.drop i).take k).toArray := by
  have e : (fun (m : Nat) => xs[((i : Int) + (m : Int) * 1).toNat]?) = fun m => xs[i + m]? := by
    funext m
    have : ((i : Int) + (m : Int) * 1).toNat = i + m := by omega
    rw [this]
  rw [e]
  have := pick_run xs i k
  rw [List.filterMap_map] at this
  have e2 : ((fun x => xs[x]?) ∘ fun x => i + x) = fun m => xs[i + m]? := rfl
  rw [e2] at this
  rw [this]

theorem getItem_tuple_cut {t sl : Addr} {items : Array Value} {vl vu : Value} {lo hi : Option Int} {Q : Value → Shared → Prop} (ht : IsTup s.heap t items) (hs : s.heap.IsSliceOf sl vl vu .none) (pl : IsPart vl lo) (pu : IsPart vu hi)
    (hw : ¬ (sIx items.size 0 lo = 0 ∧ sIx items.size items.size hi = items.size))
    (h : Q (.ref s.heap.objs.size) { s with heap := s.heap.push { cls := .type "tuple", data := .seq ((items.toList.drop (sIx items.size 0 lo)).take (sIx items.size items.size hi - sIx items.size 0 lo)).toArray } })
    (hsz : items.size ≤ sizeLine) : wpAny (model prog w) A (getItem (.ref t) (.ref sl)) Q E s := by
  have htake : sizeOk (.seq ((items.toList.drop (sIx items.size 0 lo)).take (sIx items.size items.size hi - sIx items.size 0 lo)).toArray) := by
    show ((items.toList.drop (sIx items.size 0 lo)).take (sIx items.size items.size hi - sIx items.size 0 lo)).toArray.size ≤ sizeLine
    rw [List.size_toArray, List.length_take, List.length_drop, Array.length_toList]
    omega
  have hj : sIx items.size items.size hi ≤ items.size := sIx_le _ _ (Nat.le_refl _) hi
  obtain ⟨os, hos, hcs, hds⟩ := id hs
  have hTs : s.TypeIs (.ref sl) "slice" := ⟨os, hos, hcs⟩
  unfold getItem
  try with_reducible refine wpAny_holding ?_
  first | refine wpAny_bind (wpAny_pure ?_) | skip
  refine wpAny_bind (wpAny_sequenceKey ht.typeIs (by decide) ?_)
  refine wpAny_bind (wpAny_callSpecial?_slot (name := Str.ofString "__getitem__") ht.typeIs PyProof.Rows.slot_tuple_getitem
    (wpAny_call_entry PyProof.Rows.slot_tuple_getitem ht.typeIs entry_tuple_getitem ?_ (args_tuple_getitem _ _)))
  show wpAny _ _ (Builtin.Tuple.tupleItemsOf (.ref t) >>= _) _ _ s
  refine wpAny_bind (tupleItemsOf_ ht ?_)
  refine wpAny_bind (wpAny_typeOf hTs ?_)
  rw [if_pos (by decide)]
  refine wpAny_bind (sliceApplied_gen hs pl pu ?_)
  have hno : ¬ ((((sIx items.size 0 lo : Nat) : Int) == 0 && (1 : Int) == 1 && (sIx items.size items.size hi - sIx items.size 0 lo) == items.size) = true) := by
    intro q
    rw [Bool.and_eq_true, Bool.and_eq_true] at q
    have q1 : ((sIx items.size 0 lo : Nat) : Int) = 0 := eq_of_beq q.1.1
    have q2 : sIx items.size items.size hi - sIx items.size 0 lo = items.size := eq_of_beq q.2
    exact hw ⟨by omega, by omega⟩
  show wpAny _ _ (if (((sIx items.size 0 lo : Nat) : Int) == 0 && (1 : Int) == 1 && (sIx items.size items.size hi - sIx items.size 0 lo) == items.size) = true then _ else _) _ _ s
  rw [if_neg hno, pick_gen]
  first
    | exact wpAny_bind (m := Builtin.Tuple.tupleExact _) (wpAny_newObj_type (wpAny_pure ⟨_, rfl, wpAny_pure h⟩) htake)
    | exact wpAny_bind (m := Builtin.Tuple.tupleExact _) (wpAny_newObj_type (wpAny_bind (wpAny_pure (wpAny_pure ⟨_, rfl, wpAny_pure h⟩))) htake)
    | exact wpAny_bind (wpAny_bind (m := Builtin.Tuple.tupleExact _) (wpAny_newObj_type (wpAny_pure (wpAny_pure ⟨_, rfl, wpAny_pure h⟩)) htake))
    | exact wpAny_bind (wpAny_bind (m := Builtin.Tuple.tupleExact _) (wpAny_newObj_type (wpAny_pure ⟨_, rfl, wpAny_pure h⟩) htake))
end
end HT

namespace L2
open PySem PySem.Spec PyProof.Rows

/-! ### the parts of a slice -/
abbrev TO := St → Hp → (Option Int → Hp → Prop) → Prop
/-- a slice's part (left out, or an int) -/
def PO (X : Cx) (e : Option Expr) (t : TO) : Prop :=
  ∀ (pins : List (Addr × Obj)) (s : Shared) (σ : St) (H : Hp) (Q : Option Int → Hp → Prop), Inv X pins σ H s → t σ H Q →
    wpAny (model X.prog X.w) X.A (evalPart e X.env) (fun u s' => ∃ o H', Inv X pins σ H' s' ∧ IsPart u o ∧ Q o H') X.xe s
def tNoPart : TO := fun _ H Q => Q none H
def tPart (t : TE) : TO := fun σ H Q => t σ H fun x H1 => ∃ i, x = .int i ∧ Q (some i) H1


section
variable {X : Cx} {e : Expr} {te : TE} {lo hi : Option Expr} {tl th : TO} {pos p2 : Pos}

theorem po_none : PO X none tNoPart := by
  intro pins s σ H Q I h
  rw [evalPart_none]
  exact wpAny_pure ⟨none, H, I, .none, h⟩
theorem po_some (h : PE X e te) : PO X (some e) (tPart te) := by
  intro pins s σ H Q I hw
  rw [evalPart_some]
  refine thn (h pins s σ H _ I hw) fun u s1 ⟨x, H1, I1, r1, q1⟩ => ?_
  obtain ⟨i, rfl, q⟩ := q1
  obtain ⟨t, rfl⟩ := r1
  exact ⟨some i, H1, I1, .int i t, q⟩

/-- what a slice of a value is, by values: the slice object stands at sl -/
def SlR (X : Cx) (r : V → Option Int → Option Int → Hp → VK → Prop) : Prop :=
  ∀ (pins : List (Addr × Obj)) (s : Shared) (σ : St) (H : Hp) (x : V) (v vl vu : Value) (lo hi : Option Int) (sl : Addr) (Q : VK), Inv X pins σ H s → RelV x v → s.heap.IsSliceOf sl vl vu .none → IsPart vl lo → IsPart vu hi → r x lo hi H Q →
    ∃ T id, typeLookup (.type T) "__getitem__" = pure (some (.builtin id)) ∧ s.TypeIs v T ∧ wpAny (model X.prog X.w) X.A (getItem v (.ref sl)) (EP X pins σ Q) X.xe s
def tSl (r : V → Option Int → Option Int → Hp → VK → Prop) (te : TE) (tl th : TO) : TE := fun σ H Q => te σ H fun x H1 => tl σ H1 fun l H2 => th σ H2 fun u H3 => r x l u H3 Q
/-- a[lo:hi], any a -/
theorem pe_slice {r : V → Option Int → Option Int → Hp → VK → Prop} (hr : SlR X r) (he : PE X e te) (hl : PO X lo tl) (hu : PO X hi th) : PE X (.Subscript e (.Slice lo hi none p2) pos) (tSl r te tl th) := by
  intro pins s σ H Q I h
  refine Subscript_ (thn (he pins s σ H _ I h) fun v s1 ⟨x, H1, I1, r1, q1⟩ => ?_)
  refine wpAny_Slice (thn (hl pins s1 σ H1 _ I1 q1) fun vl s2 ⟨l, H2, I2, pl, q2⟩ => thn (hu pins s2 σ H2 _ I2 q2) fun vu s3 ⟨u, H3, I3, pu, q3⟩ => ?_)
  rw [evalPart_none]
  refine wpAny_pure ?_
  have I4 : Inv X pins σ H3 { s3 with heap := s3.heap.push { cls := .type "slice", data := .fields #[vl, vu, .none] } } := I3.kept (t' := s3.toks) fun b ob q => Heap.get?_push_of_some _ q
  obtain ⟨T, id, hT, ht, hg⟩ := hr pins { s3 with heap := s3.heap.push { cls := .type "slice", data := .fields #[vl, vu, .none] } } σ H3 x v vl vu l u s3.heap.objs.size Q I4 r1 (Heap.IsSliceOf.new ..) pl pu q3
  show wpAny (model X.prog X.w) X.A (subscriptTail e (.Slice lo hi none p2) v (.ref s3.heap.objs.size)) (EP X pins σ Q) X.xe { s3 with heap := s3.heap.push { cls := .type "slice", data := .fields #[vl, vu, .none] } }
  exact tail_any (ops := [.ref s3.heap.objs.size, v]) ht hT hg (by with_unfolding_all rfl)

/-- the items of xs[lo:hi] -/
def cutV (xs : List V) (lo hi : Option Int) : List V := (xs.drop (HT.sIx xs.length 0 lo)).take (HT.sIx xs.length xs.length hi - HT.sIx xs.length 0 lo)
theorem cutV_length (xs : List V) (lo hi : Option Int) : (cutV xs lo hi).length ≤ xs.length := by
  unfold cutV
  rw [List.length_take, List.length_drop]
  omega
/-- t[lo:hi], not the whole of it (the whole would be t itself) -/
def rSlT (K : PySem.W.Frag) : V → Option Int → Option Int → Hp → VK → Prop := fun x lo hi H Q => ∃ a xs, x = .ref a ∧ SqT K H a xs ∧
  ¬ (HT.sIx xs.length 0 lo = 0 ∧ HT.sIx xs.length xs.length hi = xs.length) ∧ ∀ p, H p = none → Q (.ref p) (upd H p (.tup (cutV xs lo hi)))
theorem sl_tup : SlR X (rSlT X.K) := by
  intro pins s σ H x v vl vu lo hi sl Q I rx hs pl pu h
  obtain ⟨a, xs, rfl, hx, hw, q⟩ := h
  cases rx
  obtain ⟨its, r, ht, hz⟩ := I.tuple hx
  have hlen : its.toArray.size = xs.length := by rw [List.size_toArray]; exact r.length.symm
  refine ⟨"tuple", _, PyProof.Rows.slot_tuple_getitem.lookup, ht.typeIs, ?_⟩
  refine HT.getItem_tuple_cut ht hs pl pu (by rw [hlen]; exact hw) ?_ (by rw [hlen]; exact hz)
  rw [hlen]
  refine ⟨.ref s.heap.objs.size, _, I.laid (t' := s.toks) (o := .tup (cutV xs lo hi)) (fun b ob q => Heap.get?_push_of_some _ q) (Nat.le_refl _) ?_, rfl, q _ (I.hok.fresh (Nat.le_refl _))⟩
  exact ⟨Nat.le_trans (cutV_length xs lo hi) hz, _, (r.drop (HT.sIx xs.length 0 lo)).take (HT.sIx xs.length xs.length hi - HT.sIx xs.length 0 lo), IsTup.new _ _⟩

/-! ### t < u, t + u -/
/-- t + u, t not empty: u empty gives t itself -/
def rCatT (K : PySem.W.Frag) : R2 := fun x y H Q => ∃ a b xs ys, x = .ref a ∧ y = .ref b ∧ SqT K H a xs ∧ SqT K H b ys ∧ xs ≠ [] ∧ xs.length + ys.length ≤ sizeLine ∧
  (ys = [] → Q (.ref a) H) ∧ (ys ≠ [] → ∀ p, H p = none → Q (.ref p) (upd H p (.tup (xs ++ ys))))
theorem Vals.nil_iff {xs : List V} {us : List Value} (r : Vals xs us) : us = [] ↔ xs = [] := by
  cases r with
  | nil => simp
  | cons _ _ => simp
theorem op_catT : OpR X (binaryOp .Add) (rCatT X.K) := by
  intro pins s σ H x y v u Q I rx ry h
  obtain ⟨a, b, xs, ys, rfl, rfl, ha, hb, hx, hz, q1, q2⟩ := h
  cases rx
  cases ry
  obtain ⟨its, r1, p1, _⟩ := I.tuple ha
  obtain ⟨its2, r2, p2, _⟩ := I.tuple hb
  refine HT.cat_tup p1 p2 (fun z => hx (r1.nil_iff.mp z)) (fun z => ⟨.ref a, H, I, rfl, q1 (r2.nil_iff.mp z)⟩) (fun z => ?_) (by rw [← r1.length, ← r2.length]; exact hz)
  refine ⟨.ref s.heap.objs.size, _, I.laid (t' := s.toks) (o := .tup (xs ++ ys)) (fun b ob q => Heap.get?_push_of_some _ q) (Nat.le_refl _) ?_, rfl, q2 (fun w => z (r2.nil_iff.mpr w)) _ (I.hok.fresh (Nat.le_refl _))⟩
  exact ⟨by rw [List.length_append]; exact hz, _, r1.append r2, IsTup.new _ _⟩
end
end L2

namespace L2
open PySem PySem.Spec PyProof.Rows

/-! ### places -/
/-- the place that an index of any sign means -/
def ixN (n : Nat) (i : Int) : Option Nat := if 0 ≤ i then (if i < n then some i.toNat else none) else if -(n : Int) ≤ i then some (i + n).toNat else none
def atI {α : Type} (xs : List α) (i : Int) : Option α := (ixN xs.length i).bind fun j => xs[j]?
theorem ixN_seq {n : Nat} {i : Int} {j : Nat} (h : ixN n i = some j) : seqIndex? i n = some j ∧ j < n ∧ -(n : Int) ≤ i ∧ i < n := by
  unfold ixN at h
  by_cases h0 : 0 ≤ i
  · rw [if_pos h0] at h
    by_cases h1 : i < n
    · rw [if_pos h1] at h
      have e : i.toNat = j := Option.some.inj h
      exact ⟨by rw [seqIndex_of h0 h1, e], by omega, by omega, h1⟩
    · rw [if_neg h1] at h; cases h
  · rw [if_neg h0] at h
    by_cases h1 : -(n : Int) ≤ i
    · rw [if_pos h1] at h
      have e : (i + n).toNat = j := Option.some.inj h
      exact ⟨by rw [seqIndex_neg (by omega) h1, e], by omega, h1, by omega⟩
    · rw [if_neg h1] at h; cases h
theorem atI_get {α : Type} {xs : List α} {i : Int} {v : α} (h : atI xs i = some v) : ∃ j, seqIndex? i xs.length = some j ∧ xs[j]? = some v ∧ j < xs.length ∧ -(xs.length : Int) ≤ i ∧ i < xs.length := by
  unfold atI at h
  cases e : ixN xs.length i with
  | none => rw [e] at h; cases h
  | some j =>
    rw [e] at h
    obtain ⟨h1, h2, h3, h4⟩ := ixN_seq e
    exact ⟨j, h1, h, h2, h3, h4⟩
theorem atI_nat {α : Type} {xs : List α} {j : Nat} {v : α} (h : xs[j]? = some v) : atI xs (j : Int) = some v := by
  have hj : j < xs.length := (List.getElem?_eq_some_iff.mp h).1
  have e : ixN xs.length (j : Int) = some j := by
    unfold ixN
    rw [if_pos (by omega), if_pos (by omega)]; simp
  unfold atI; rw [e]; exact h

/-! ### what may be subscripted -/
/-- what stands as an index of a plain subscript -/
def PlainIx (b : Expr) : Prop := ∀ o i, subscripted b false o i = operate [o, i] (getItem o i)
/-- a subscript by values -/
def IxR (X : Cx) (r : R2) : Prop :=
  ∀ (value slice : Expr) (pins : List (Addr × Obj)) (s : Shared) (σ : St) (H : Hp) (x y : V) (v u : Value) (Q : VK), Inv X pins σ H s → RelV x v → RelV y u → r x y H Q →
    subscripted slice false v u = operate [v, u] (getItem v u) → wpAny (model X.prog X.w) X.A (subscriptTail value slice v u) (EP X pins σ Q) X.xe s
/-- a call of a builtin's method by values: the receiver, the arguments -/
def MtR (X : Cx) (id : String) (r : V → List V → Hp → VK → Prop) : Prop :=
  ∀ (pins : List (Addr × Obj)) (s : Shared) (σ : St) (H : Hp) (x : V) (xs : List V) (v : Value) (us : List Value) (Q : VK), Inv X pins σ H s → RelV x v → Vals xs us → r x xs H Q →
    wpAny (model X.prog X.w) X.A (call (.builtin id) (v :: us)) (EP X pins σ Q) X.xe s
section
variable {X : Cx} {a b : Expr} {ta tb : TE} {pos : Pos}
/-- a[b] -/
theorem pe_ix {r : R2} (hr : IxR X r) (ha : PE X a ta) (hb : PE X b tb) (hs : PlainIx b) : PE X (.Subscript a b pos) (tOp r ta tb) := by
  intro pins s σ H Q I h
  exact Subscript_ (binT ha hb I h fun v u s2 x y H2 I2 rx ry q => hr a b pins s2 σ H2 x y v u Q I2 rx ry q (hs _ _))

def rIxL (K : PySem.W.Frag) : R2 := fun x y H Q => ∃ p xs i v, x = .ref p ∧ y = .int i ∧ SqL K H p xs ∧ atI xs i = some v ∧ Q v H
def rIxT (K : PySem.W.Frag) : R2 := fun x y H Q => ∃ p xs i v, x = .ref p ∧ y = .int i ∧ SqT K H p xs ∧ atI xs i = some v ∧ Q v H
theorem ix_list : IxR X (rIxL X.K) := by
  intro value slice pins s σ H x y v u Q I rx ry h hs
  obtain ⟨p, xs, i, z, rfl, rfl, hq, he, q⟩ := h
  cases rx
  obtain ⟨t, rfl⟩ := ry
  obtain ⟨its, r, pl, hz⟩ := I.list hq
  obtain ⟨j, h1, h2, h3, h4, h5⟩ := atI_get he
  obtain ⟨w, ew, rw'⟩ := r.get h2
  have hl := r.length
  have hn := line63
  have fin : EP X pins σ Q w s := ⟨z, H, I, rw', q⟩
  by_cases h0 : 0 ≤ i
  · have hj : i.toNat = j := by
      rw [seqIndex_of h0 h5] at h1
      exact Option.some.inj h1
    exact item_listR pl.isList h0 (by omega) (by rw [hj]; simpa using ew) fin hs
  · have hj : (i + (its.toArray.size : Int)).toNat = j := by
      rw [seqIndex_neg (by omega) h4] at h1
      rw [List.size_toArray, ← hl]
      exact Option.some.inj h1
    exact subscriptTail_builtinR (x := w) pl.isList.typeIs slot_list_getitem.lookup
      (wpAny_getItem_list_neg (Q := fun r s' => r = w ∧ EP X pins σ Q r s') pl.isList (by omega) (by rw [List.size_toArray] <;> omega) (by omega) (by rw [hj]; simpa using ew) ⟨rfl, fin⟩) hs
theorem ix_tup : IxR X (rIxT X.K) := by
  intro value slice pins s σ H x y v u Q I rx ry h hs
  obtain ⟨p, xs, i, z, rfl, rfl, hq, he, q⟩ := h
  cases rx
  obtain ⟨t, rfl⟩ := ry
  obtain ⟨its, r, pl, hz⟩ := I.tuple hq
  obtain ⟨j, h1, h2, h3, h4, h5⟩ := atI_get he
  obtain ⟨w, ew, rw'⟩ := r.get h2
  have hl := r.length
  have hn := line63
  have fin : EP X pins σ Q w s := ⟨z, H, I, rw', q⟩
  exact subscriptTail_builtinR (x := w) pl.typeIs slot_tuple_getitem.lookup
    (getItem_tuple (j := j) (Q := fun r s' => r = w ∧ EP X pins σ Q r s') pl (by omega) (by omega) (by rw [List.size_toArray, ← hl]; exact h1) (by simpa using ew) ⟨rfl, fin⟩) hs

/-! ### xs[i] = v, any sign -/

/-! ### slices -/
theorem slice_bounds (lo hi : Option Int) (n : Nat) : (sliceBounds lo hi none n).1 = ((HT.sIx n 0 lo : Nat) : Int) ∧ (sliceBounds lo hi none n).2.1 = ((HT.sIx n n hi : Nat) : Int) ∧ (sliceBounds lo hi none n).2.2 = 1 := by
  refine ⟨?_, ?_, rfl⟩
  · cases lo with
    | none => simp [sliceBounds, HT.sIx]
    | some i =>
      simp only [sliceBounds, HT.sIx, Option.getD_none, show (1 : Int) > 0 by decide, if_true]
      by_cases h : i < 0
      · simp only [h, if_true] <;> omega
      · simp only [h, if_false] <;> omega
  · cases hi with
    | none => simp [sliceBounds, HT.sIx]
    | some i =>
      simp only [sliceBounds, HT.sIx, Option.getD_none, show (1 : Int) > 0 by decide, if_true]
      by_cases h : i < 0
      · simp only [h, if_true] <;> omega
      · simp only [h, if_false] <;> omega
theorem slicePick_cut (its : List Value) (lo hi : Option Int) : slicePick its.toArray lo hi none = ((its.drop (HT.sIx its.length 0 lo)).take (HT.sIx its.length its.length hi - HT.sIx its.length 0 lo)).toArray := by
  obtain ⟨h1, h2, h3⟩ := slice_bounds lo hi its.toArray.size
  unfold slicePick
  rw [h1, h2, h3]
  simp only [sliceRange_one, pick_run, List.size_toArray] <;> rfl
/-- xs[lo:hi] of a list: a new list -/
def rSlL (K : PySem.W.Frag) : V → Option Int → Option Int → Hp → VK → Prop := fun x lo hi H Q => ∃ a xs, x = .ref a ∧ SqL K H a xs ∧ ∀ p, H p = none → Q (.ref p) (upd H p (.lst (cutV xs lo hi)))
theorem sl_list : SlR X (rSlL X.K) := by
  intro pins s σ H x v vl vu lo hi sl Q I rx hs pl pu h
  obtain ⟨a, xs, rfl, hx, q⟩ := h
  cases rx
  obtain ⟨its, r, ht, hz⟩ := I.list hx
  have hlen := r.length
  refine ⟨"list", _, slot_list_getitem.lookup, ht.isList.typeIs, ?_⟩
  refine wpAny_getItem_list_slice ht.isList hs pl pu .none (by simp) ?_ (by rw [List.size_toArray] <;> omega)
  rw [slicePick_cut, ← hlen]
  refine ⟨.ref s.heap.objs.size, _, I.laid (t' := s.toks) (o := .lst (cutV xs lo hi)) (fun b ob q => Heap.get?_push_of_some _ q) (Nat.le_refl _) ?_, rfl, q _ (I.hok.fresh (Nat.le_refl _))⟩
  exact ⟨Nat.le_trans (cutV_length xs lo hi) hz, _, 0, (r.drop (HT.sIx xs.length 0 lo)).take (HT.sIx xs.length xs.length hi - HT.sIx xs.length 0 lo), Heap.get?_push_size _ rfl⟩

/-! ### in, not in: flat items -/
def flatV : V → Bool
  | .non => true
  | .bl _ => true
  | .int _ => true
  | .str _ => true
  | _ => false
/-- == of flat values -/
def eqV : V → V → Bool
  | .non, .non => true
  | .bl a, .bl b => a == b
  | .bl a, .int b => (if a then 1 else 0) == b
  | .int a, .bl b => a == (if b then 1 else 0)
  | .int a, .int b => a == b
  | .str a, .str b => a == b
  | _, _ => false
theorem eqAt_V {A : Around} {s : Shared} {y x : V} {u v : Value} (ry : RelV y u) (rx : RelV x v) (fy : flatV y = true) (fx : flatV x = true) : SeqAt.EqAt A s u v (eqV y x) := by
  cases y with
  | non =>
    cases ry
    cases x with
    | non => cases rx; exact SeqAt.EqAt.same _
    | bl b => cases rx; exact SeqAt.EqAt.none_bool b
    | int b => obtain ⟨t, rfl⟩ := rx; exact SeqAt.EqAt.none_int b t
    | str b => obtain ⟨t, rfl⟩ := rx; exact SeqAt.EqAt.none_str b t
    | _ => exact absurd (show false = true from fx) Bool.false_ne_true
  | bl a =>
    cases ry
    cases x with
    | non => cases rx; exact SeqAt.EqAt.bool_none a
    | bl b => cases rx; exact SeqAt.EqAt.bool_bool a b
    | int b => obtain ⟨t, rfl⟩ := rx; exact SeqAt.EqAt.bool_int a b t
    | str b => obtain ⟨t, rfl⟩ := rx; exact SeqAt.EqAt.bool_str a b t
    | _ => exact absurd (show false = true from fx) Bool.false_ne_true
  | int a =>
    obtain ⟨t', rfl⟩ := ry
    cases x with
    | non => cases rx; exact SeqAt.EqAt.int_none a t'
    | bl b => cases rx; exact SeqAt.EqAt.int_bool a t' b
    | int b => obtain ⟨t, rfl⟩ := rx; exact SeqAt.EqAt.int_int a t' b t
    | str b => obtain ⟨t, rfl⟩ := rx; exact SeqAt.EqAt.int_str a t' b t
    | _ => exact absurd (show false = true from fx) Bool.false_ne_true
  | str a =>
    obtain ⟨t', rfl⟩ := ry
    cases x with
    | non => cases rx; exact SeqAt.EqAt.str_none a t'
    | bl b => cases rx; exact SeqAt.EqAt.str_bool a t' b
    | int b => obtain ⟨t, rfl⟩ := rx; exact SeqAt.EqAt.str_int a t' b t
    | str b => obtain ⟨t, rfl⟩ := rx; exact SeqAt.EqAt.str_str a t' b t
    | _ => exact absurd (show false = true from fx) Bool.false_ne_true
  | _ => exact absurd (show false = true from fy) Bool.false_ne_true
/-- the items' answers, read off the values (a value's own answer does not lean on its token) -/
def eqU (x : V) (u : Value) : Bool := match u with
  | .none => eqV .non x
  | .bool b => eqV (.bl b) x
  | .int i _ => eqV (.int i) x
  | .str z _ => eqV (.str z) x
  | _ => false
theorem eqU_of {x y : V} {u : Value} (r : RelV y u) (f : flatV y = true) : eqU x u = eqV y x := by
  cases y with
  | non => cases r; rfl
  | bl b => cases r; rfl
  | int i => obtain ⟨t, rfl⟩ := r; rfl
  | str z => obtain ⟨t, rfl⟩ := r; rfl
  | _ => exact absurd (show false = true from f) Bool.false_ne_true
theorem any_eqU {x : V} : ∀ {xs : List V} {us : List Value}, Vals xs us → xs.all flatV = true → us.any (eqU x) = xs.any fun y => eqV y x
  | _, _, .nil, _ => rfl
  | y :: xs, u :: us, .cons r t, f => by
    rw [List.all_cons, Bool.and_eq_true] at f
    rw [List.any_cons, List.any_cons, eqU_of r f.1, any_eqU t f.2]
theorem mem_eqAt {A : Around} {s : Shared} {x : V} {v : Value} (rx : RelV x v) (fx : flatV x = true) : ∀ {xs : List V} {us : List Value}, Vals xs us → xs.all flatV = true → ∀ u ∈ us, SeqAt.EqAt A s u v (eqU x u)
  | _, _, .nil, _ => fun u hu => by cases hu
  | y :: xs, u :: us, .cons r t, f => fun u' hu => by
    rw [List.all_cons, Bool.and_eq_true] at f
    rcases List.mem_cons.mp hu with rfl | hu
    · rw [eqU_of r f.1]; exact eqAt_V r rx f.1 fx
    · exact mem_eqAt rx fx t f.2 u' hu
def inV (x : V) (xs : List V) : Bool := xs.any fun y => eqV y x
/-- x in a list or tuple of flat items -/
def rIn (K : PySem.W.Frag) (neg : Bool) : R2 := fun x y H Q => ∃ p xs, y = .ref p ∧ (SqL K H p xs ∨ SqT K H p xs) ∧ flatV x = true ∧ xs.all flatV = true ∧ Q (.bl (if neg then !inV x xs else inV x xs)) H
theorem op_in_seq : OpR X (compareOp .In) (rIn X.K false) := by
  intro pins s σ H x y v u Q I rx ry h
  obtain ⟨p, xs, rfl, hq, fx, fs, q⟩ := h
  cases ry
  rcases hq with hq | hq
  · obtain ⟨its, r, pl, hz⟩ := I.list hq
    refine SeqAt.in_listAt (eqU x) pl.isList (fun w hw => mem_eqAt rx fx r fs w (by simpa using hw)) ⟨.bl _, H, I, rfl, ?_⟩
    rw [show its.toArray.any (eqU x) = its.any (eqU x) by simp, any_eqU r fs]
    exact q
  · obtain ⟨its, r, pl, hz⟩ := I.tuple hq
    refine SeqAt.in_tupleAt (eqU x) pl (fun w hw => mem_eqAt rx fx r fs w (by simpa using hw)) ⟨.bl _, H, I, rfl, ?_⟩
    rw [show its.toArray.any (eqU x) = its.any (eqU x) by simp, any_eqU r fs]
    exact q
theorem op_notIn_seq : OpR X (compareOp .NotIn) (rIn X.K true) := by
  intro pins s σ H x y v u Q I rx ry h
  obtain ⟨p, xs, rfl, hq, fx, fs, q⟩ := h
  cases ry
  rcases hq with hq | hq
  · obtain ⟨its, r, pl, hz⟩ := I.list hq
    refine SeqAt.notIn_listAt (eqU x) pl.isList (fun w hw => mem_eqAt rx fx r fs w (by simpa using hw)) ⟨.bl _, H, I, rfl, ?_⟩
    rw [show its.toArray.any (eqU x) = its.any (eqU x) by simp, any_eqU r fs]
    exact q
  · obtain ⟨its, r, pl, hz⟩ := I.tuple hq
    refine SeqAt.notIn_tupleAt (eqU x) pl (fun w hw => mem_eqAt rx fx r fs w (by simpa using hw)) ⟨.bl _, H, I, rfl, ?_⟩
    rw [show its.toArray.any (eqU x) = its.any (eqU x) by simp, any_eqU r fs]
    exact q

/-! ### len, list(x), tuple(x) of any list or tuple that is read -/
theorem call_len_seq : CallR X (.builtin "len") (fun xs H Q => ∃ p ys, xs = [.ref p] ∧ (SqL X.K H p ys ∨ SqT X.K H p ys) ∧ Q (.int ys.length) H) := by
  intro pins s σ H xs us Q I r h
  obtain ⟨p, ys, rfl, hq, q⟩ := h
  obtain ⟨u, rfl, rx⟩ := vals1 r
  cases rx
  have hn := line63
  rcases hq with hq | hq
  · obtain ⟨its, r', pl, hz⟩ := I.list hq
    have hlen := r'.length
    exact Calls.call_len_list pl.isList (by simp only [List.size_toArray] <;> omega) ⟨.int ys.length, H, I.tok _, ⟨s.toks + 1, by rw [List.size_toArray, hlen]⟩, q⟩
  · obtain ⟨its, r', pl, hz⟩ := I.tuple hq
    have hlen := r'.length
    exact len_tuple pl (by simp only [List.size_toArray] <;> omega) ⟨.int ys.length, H, I.tok _, ⟨s.toks + 1, by rw [List.size_toArray, hlen]⟩, q⟩
theorem call_list_of : CallR X (.type "list") (fun xs H Q => ∃ p ys, xs = [.ref p] ∧ (SqL X.K H p ys ∨ SqT X.K H p ys) ∧ ∀ l, H l = none → Q (.ref l) (upd H l (.lst ys))) := by
  intro pins s σ H xs us Q I r h
  obtain ⟨p, ys, rfl, hq, q⟩ := h
  obtain ⟨u, rfl, rx⟩ := vals1 r
  cases rx
  have fin : ∀ (its : List Value), Vals ys its → ys.length ≤ sizeLine → ∀ (h' : Heap) (c' : Nat), (∀ b o', s.heap.get? b = some o' → h'.get? b = some o') →
      h'.get? s.heap.objs.size = some { cls := .type "list", dict := none, data := .seq its.toArray c', slots := #[] } → EP X pins σ Q (.ref s.heap.objs.size) { s with heap := h' } := fun its r' hz h' c' kp e =>
    ⟨.ref s.heap.objs.size, _, I.laid (t' := s.toks) kp (Nat.le_refl _) (show ObjOk X.prog X.w _ h' _ (.lst ys) from ⟨hz, its, c', r', e⟩), rfl, q _ (I.hok.fresh (Nat.le_refl _))⟩
  rcases hq with hq | hq
  · obtain ⟨its, r', pl, hz⟩ := I.list hq
    have hlen := r'.length
    obtain ⟨o, ho, hc, n, hd⟩ := pl.isList
    exact call_list_seq p (.inl rfl) ho hc hd (fun h' c' kp e => fin its r' hz h' c' kp e) (by simp only [List.size_toArray] <;> omega)
  · obtain ⟨its, r', pl, hz⟩ := I.tuple hq
    have hlen := r'.length
    obtain ⟨o, ho, hc, n, hd⟩ := pl
    exact call_list_seq p (.inr rfl) ho hc hd (fun h' c' kp e => fin its r' hz h' c' kp e) (by simp only [List.size_toArray] <;> omega)
theorem call_tuple_of : CallR X (.type "tuple") (fun xs H Q => ∃ p ys, xs = [.ref p] ∧ ((SqL X.K H p ys ∧ ∀ l, H l = none → Q (.ref l) (upd H l (.tup ys))) ∨ (SqT X.K H p ys ∧ Q (.ref p) H))) := by
  intro pins s σ H xs us Q I r h
  obtain ⟨p, ys, rfl, h⟩ := h
  obtain ⟨u, rfl, rx⟩ := vals1 r
  cases rx
  rcases h with ⟨hq, q⟩ | ⟨hq, q⟩
  · obtain ⟨its, r', pl, hz⟩ := I.list hq
    have hlen := r'.length
    refine call_tuple_list pl.isList (fun h' kp => ?_) (by simp only [List.size_toArray] <;> omega)
    have I1 : Inv X pins σ H { s with heap := h' } := I.kept (t' := s.toks) kp
    have I2 : Inv X pins σ (upd H h'.objs.size (.tup ys)) { s with heap := h'.push { cls := .type "tuple", data := .seq its.toArray } } :=
      I1.laid (t' := s.toks) (fun b o e => Heap.get?_push_of_some _ e) (Nat.le_refl _) (show ObjOk X.prog X.w _ _ _ (.tup ys) from ⟨hz, its, r', IsTup.new _ _⟩)
    exact ⟨.ref h'.objs.size, _, I2, rfl, q _ (I1.hok.fresh (Nat.le_refl _))⟩
  · obtain ⟨its, r', pl, hz⟩ := I.tuple hq
    exact call_tuple_same pl ⟨.ref p, H, I, rfl, q⟩

/-! ### the call of a builtin's method: o.m(..) -/
/-- the value is of that builtin type -/
def tyV (K : PySem.W.Frag) (T : String) (x : V) (H : Hp) : Prop := match x with
  | .str _ => T = "str"
  | .int _ => T = "int"
  | .ref p => (T = "list" ∧ ∃ xs, SqL K H p xs) ∨ (T = "tuple" ∧ ∃ o, K.lookup p = some o ∧ o.cls = .type "tuple" ∧ o.dict = none) ∨
      (T = "dict" ∧ ((∃ kvs, H p = some (.dK kvs)) ∨ ∃ kvs, H p = some (.dT kvs))) ∨ (T = "set" ∧ ∃ S n, H p = some (.set S n))
  | _ => False
theorem tyV_is {pins : List (Addr × Obj)} {σ : St} {H : Hp} {s : Shared} {T : String} {x : V} {v : Value} (I : Inv X pins σ H s) (r : RelV x v) (ty : tyV X.K T x H) :
    s.TypeIs v T ∧ ∀ a, v = .ref a → ∃ ob, s.heap.get? a = some ob ∧ ob.dict = none := by
  cases x with
  | str z =>
    obtain ⟨t, rfl⟩ := r
    cases (show T = "str" from ty)
    exact ⟨typeIs_str s z t, fun _ e => nomatch e⟩
  | int i =>
    obtain ⟨t, rfl⟩ := r
    cases (show T = "int" from ty)
    exact ⟨typeIs_int s i t, fun _ e => nomatch e⟩
  | ref p =>
    cases r
    rcases ty with ⟨rfl, xs, hq⟩ | ⟨rfl, o, hk, hc, hd⟩ | ⟨rfl, hk⟩ | ⟨rfl, S, n, hk⟩
    · obtain ⟨its, _, pl, _⟩ := I.list hq
      refine ⟨pl.isList.typeIs, fun a e => ?_⟩
      cases e
      obtain ⟨o, n, e, c, hd, _⟩ := pl
      exact ⟨o, e, hd⟩
    · refine ⟨⟨o, I.kIn p o hk, hc⟩, fun a e => ?_⟩
      cases e
      exact ⟨o, I.kIn _ o hk, hd⟩
    · have z : ∃ o, s.heap.get? p = some o ∧ o.ExactDict := by
        rcases hk with ⟨kvs, hk⟩ | ⟨kvs, hk⟩
        · obtain ⟨_, _, _, _, o, _, _, e, ex, _⟩ := I.hok p _ hk
          exact ⟨o, e, ex⟩
        · obtain ⟨_, _, _, _, o, _, _, e, ex, _⟩ := I.hok p _ hk
          exact ⟨o, e, ex⟩
      obtain ⟨o, e, ex⟩ := z
      refine ⟨⟨o, e, ex.1⟩, fun a e2 => ?_⟩
      cases e2
      exact ⟨o, e, ex.2.1⟩
    · obtain ⟨o, _, _, _, e, ex, _⟩ := I.hok p _ hk
      refine ⟨⟨o, e, ex.1⟩, fun a e2 => ?_⟩
      cases e2
      exact ⟨o, e, ex.2.1⟩
  | _ => exact False.elim ty
def tBM (K : PySem.W.Frag) (T : String) (r : V → List V → Hp → VK → Prop) (to : TE) (t : TA) : TE := fun σ H Q => to σ H fun x H1 => tyV K T x H1 ∧ t σ H1 fun xs H2 => r x xs H2 Q
variable {o e : Expr} {es : List Expr} {to : TE} {t : TA} {name : Str} {apos cpos : Pos} {T id : String} {r : V → List V → Hp → VK → Prop}
theorem pe_bm (pa : PlainAttrs T) (slot : Slot T name id) (hty : typeOf (.builtin id) = pure (.type "method_descriptor")) (hm : MtR X id r) (ho : PE X o to) (ha : PA X (e :: es) t)
    (hbase : attributeBase o name X.env (eval o X.env) = eval o X.env := by rfl)
    (hfew : ((backTo cpos (starEach (e :: es) X.env)).all (fun x => !x.1) && (backToKw cpos (keywordEach [] X.env)).all (fun x => x.1.isSome)
      && decide ((e :: es).length + ([] : List Keyword).length + (if ([] : List Keyword).isEmpty then 0 else 1) < 30)) = true := by rfl)
    (hline : (apos.endLine == cpos.line) = true := by rfl) (hs : starEach (e :: es) X.env = (false, eval e X.env) :: starEach es X.env := by rfl) (hplain : (backTo cpos (starEach es X.env)).any (·.1) = false := by rfl) :
    PE X (.Call (.Attribute o name apos) (e :: es) [] cpos) (tBM X.K T r to t) := by
  intro pins s σ H Q I h
  refine wpAny_Call_method_late hbase hfew hline rfl (thn (ho pins s σ H _ I h) fun v s1 ⟨x, H1, I1, r1, ty, q1⟩ => ?_)
  obtain ⟨h1, h2⟩ := tyV_is I1 r1 ty
  refine ⟨T, id, pa, slot, hty, h1, h2, ?_⟩
  have hA := ha cpos pins s1 σ H1 _ I1 q1
  rw [hs] at hA ⊢
  refine Calls.callWith_builtin (by show (false || (backTo cpos (starEach es X.env)).any (·.1)) = false; rw [hplain] <;> rfl) (Calls.evalArgs_plain ?_)
  exact thn hA fun us s2 ⟨vs, H2, I2, r2, q2⟩ => hm pins s2 σ H2 x vs v us Q I2 r1 r2 q2
/- xs.append(e), list.index on a module's tuple .. are MtR facts of 06m -/
end
end L2

namespace L2
open PySem PySem.Spec PyProof.Rows

def MtM (X : Cx) (id : String) (r : V → List V → Hp → VK → Prop) : Prop :=
  ∀ (pins : List (Addr × Obj)) (s : Shared) (σ : St) (H : Hp) (x : V) (xs : List V) (v : Value) (us : List Value) (Q : VK), Inv X pins σ H s → RelV x v → Vals xs us → r x xs H Q →
    wpAny (model X.prog X.w) X.A (call (.builtin id) (v :: us)) (EP X pins σ Q) X.xe s

/-! ### lists of values -/
theorem Vals.one : ∀ {x : V} {us : List Value}, Vals [x] us → ∃ u, us = [u] ∧ RelV x u
  | _, _, .cons r .nil => ⟨_, rfl, r⟩
theorem Vals.rep {xs : List V} {us : List Value} (h : Vals xs us) : ∀ k : Nat, Vals (List.replicate k xs).flatten (List.replicate k us).flatten
  | 0 => .nil
  | k + 1 => by
    rw [List.replicate_succ, List.replicate_succ, List.flatten_cons, List.flatten_cons]
    exact Vals.append h (Vals.rep h k)
theorem foldl_rep (its : List Value) : ∀ (k : Nat) (acc : List Value),
    List.foldl (fun x1 x2 => x1 ++ x2) acc.toArray (List.replicate k its.toArray) = (acc ++ (List.replicate k its).flatten).toArray
  | 0, acc => by simp
  | k + 1, acc => by
    have e : acc.toArray ++ its.toArray = (acc ++ its).toArray := by simp
    have e2 : (acc ++ its) ++ (List.replicate k its).flatten = acc ++ (List.replicate (k + 1) its).flatten := by
      rw [List.replicate_succ, List.flatten_cons, List.append_assoc]
    rw [← e2, ← foldl_rep its k (acc ++ its), ← e, List.replicate_succ, List.foldl_cons]

section
variable {X : Cx} {pins : List (Addr × Obj)} {σ : St} {H : Hp} {s : Shared} {l b : Addr} {xs ys zs : List V}

/-! ### the two steps: a tracked list is rewritten, a new list is laid -/
theorem Inv.lset {its its' : List Value} {n : Nat} {f : Array Value → Array Value} {t' : Nat} (I : Inv X pins σ H s) (hH : H l = some (.lst xs))
    (e : s.heap.get? l = some { cls := .type "list", data := .seq its.toArray n }) (hf : f its.toArray = its'.toArray) (hv : Vals ys its') (hz : ys.length ≤ sizeLine) :
    Inv X pins σ (upd H l (.lst ys)) { s with heap := s.heap.update l (Obj.mapSeq f), toks := t' } := by
  have q := PySem.IsL.update e f
  rw [hf] at q
  refine I.write (x := l) (e := l) (by rw [hH]; exact trivial) (.inl rfl) (fun b' u hb hu => (Heap.get?_update_other s.heap (Obj.mapSeq f) (Ne.symm hb)).trans hu) ⟨_, q⟩ ?_
  exact ⟨hz, its', _, hv, q⟩
theorem Inv.lnew {its : List Value} {t' : Nat} (I : Inv X pins σ H s) (hv : Vals ys its) (hz : ys.length ≤ sizeLine) :
    Inv X pins σ (upd H s.heap.objs.size (.lst ys)) { s with heap := s.heap.push { cls := .type "list", data := .seq its.toArray }, toks := t' } :=
  I.laid (fun _ _ q => Heap.get?_push_of_some _ q) (Nat.le_refl _) ⟨hz, its, 0, hv, Heap.get?_push_size _ rfl⟩
theorem Inv.fresh (I : Inv X pins σ H s) : H s.heap.objs.size = none := I.hok.fresh (Nat.le_refl _)
theorem Inv.lstM (I : Inv X pins σ H s) (hH : H l = some (.lst xs)) : xs.length ≤ sizeLine ∧ ∃ (its : List Value) (n : Nat), Vals xs its ∧ xs.length = its.length ∧ s.heap.get? l = some { cls := .type "list", data := .seq its.toArray n } := by
  obtain ⟨z, its, n, r, e⟩ := I.hok l _ hH
  exact ⟨z, its, n, r, r.length, e⟩

end

section
variable {X : Cx}

/-! ### methods -/
def rAppend : V → List V → Hp → VK → Prop := fun x vs H Q => ∃ l xs y, x = .ref l ∧ vs = [y] ∧ H l = some (.lst xs) ∧ xs.length < sizeLine ∧ Q .non (upd H l (.lst (xs ++ [y])))
theorem mt_append : MtM X "list.append" rAppend := by
  intro pins s σ H x vs v us Q I rx rv h
  obtain ⟨l, xs, y, rfl, rfl, hH, hz, q⟩ := h
  cases rx
  obtain ⟨u, rfl, ru⟩ := rv.one
  obtain ⟨z, its, n, r, hl, e⟩ := I.lstM hH
  refine call_meets F.slot_list_append ⟨_, e, rfl⟩ F.entry_list_append (F.args_list_append_2 _ _) (PySem.list_append l its.toArray n u (by rw [List.size_toArray]; omega)) ⟨e, ?_⟩
  refine ⟨.non, _, I.lset (its' := its ++ [u]) hH e (by simp) (r.append (.cons ru .nil)) ?_, rfl, q⟩
  rw [List.length_append, List.length_singleton]
  omega






/-! ### list + list, list += list, list * int -/
def rCat : R2 := fun x y H Q => ∃ l b xs zs, x = .ref l ∧ y = .ref b ∧ H l = some (.lst xs) ∧ H b = some (.lst zs) ∧ xs.length + zs.length ≤ sizeLine ∧ ∀ p, H p = none → Q (.ref p) (upd H p (.lst (xs ++ zs)))
theorem op_cat : OpR X (binaryOp .Add) rCat := by
  intro pins s σ H x y v u Q I rx ry h
  obtain ⟨l, b, xs, zs, rfl, rfl, hH, hB, hz, q⟩ := h
  cases rx
  cases ry
  obtain ⟨z, its, n, r, hl, e⟩ := I.lstM hH
  obtain ⟨z2, its2, n2, r2, hl2, e2⟩ := I.lstM hB
  refine PySem.P.add_list e e2 ?_ (by rw [List.size_toArray, List.size_toArray]; omega)
  have ea : its.toArray ++ its2.toArray = (its ++ its2).toArray := by simp
  rw [ea]
  exact ⟨.ref _, _, I.lnew (t' := s.toks) (r.append r2) (by rw [List.length_append]; omega), rfl, q _ I.fresh⟩
theorem len_rep {α : Type} (xs : List α) (k : Nat) : (List.replicate k xs).flatten.length = k * xs.length := by
  induction k with
  | zero => simp
  | succ k ih => rw [List.replicate_succ, List.flatten_cons, List.length_append, ih, Nat.succ_mul, Nat.add_comm]

/-! ### del xs[i] -/
end

/-! ### xs[a:b] = ys -/
section
variable {prog : Program} {w : World} {A : Around} {E : Value → Shared → Prop} {s : Shared}
set_option maxRecDepth 100000 in
end

section
variable {X : Cx}
end
end L2

namespace L2
open PySem PySem.Spec PyProof.Rows

/-! ### lists of pairs as tables -/
section
variable {κ : Type} [DecidableEq κ]
def valV (kvs : List (κ × V)) (k : κ) : Option V := (kvs.find? fun kv => decide (kv.1 = k)).map (·.2)
/-- in its place, or at the end -/
def putK (kvs : List (κ × V)) (k : κ) (v : V) : List (κ × V) :=
  if (kvs.any fun kv => decide (kv.1 = k)) = true then kvs.map (fun kv => if kv.1 = k then (kv.1, v) else kv) else kvs ++ [(k, v)]

theorem valV_pos {p : κ × V} {r : List (κ × V)} {k : κ} (e : p.1 = k) : valV (p :: r) k = some p.2 := by simp [valV, List.find?_cons, e]
theorem valV_neg {p : κ × V} {r : List (κ × V)} {k : κ} (e : ¬ p.1 = k) : valV (p :: r) k = valV r k := by simp [valV, List.find?_cons, e]
theorem valV_any (k : κ) : ∀ kvs : List (κ × V), (kvs.any fun kv => decide (kv.1 = k)) = (valV kvs k).isSome
  | [] => rfl
  | p :: r => by
    rw [List.any_cons]
    by_cases e : p.1 = k
    · simp only [valV_pos e, decide_eq_true e, Bool.true_or, Option.isSome_some]
    · rw [valV_neg e, decide_eq_false e, Bool.false_or]; exact valV_any k r
theorem valV_map (k j : κ) (y : V) : ∀ kvs : List (κ × V), valV (kvs.map fun kv => if kv.1 = k then (kv.1, y) else kv) j = (valV kvs j).map fun x => if j = k then y else x
  | [] => rfl
  | p :: r => by
    have ih := valV_map k j y r
    rw [List.map_cons]
    by_cases h : p.1 = k
    · rw [if_pos h]
      by_cases e : p.1 = j
      · rw [valV_pos (p := (p.1, y)) e, valV_pos e, Option.map_some, if_pos (e.symm.trans h)]
      · rw [valV_neg (p := (p.1, y)) e, valV_neg e, ih]
    · rw [if_neg h]
      by_cases e : p.1 = j
      · rw [valV_pos (p := p) e, valV_pos e, Option.map_some, if_neg (fun z => h (e.trans z))]
      · rw [valV_neg (p := p) e, valV_neg e, ih]
theorem valV_snoc (k j : κ) (y : V) : ∀ kvs : List (κ × V), valV kvs k = none → valV (kvs ++ [(k, y)]) j = if j = k then some y else valV kvs j
  | [], _ => by
    by_cases e : k = j
    · rw [if_pos e.symm]; exact valV_pos (p := (k, y)) e
    · rw [if_neg (fun z => e z.symm)]; exact valV_neg (p := (k, y)) e
  | p :: r, hn => by
    rw [List.cons_append]
    have hk : ¬ p.1 = k := fun z => by rw [valV_pos z] at hn; cases hn
    rw [valV_neg hk] at hn
    have ih := valV_snoc k j y r hn
    by_cases e : p.1 = j
    · rw [valV_pos e, valV_pos e, if_neg (fun z => hk (e.trans z))]
    · rw [valV_neg e, valV_neg e, ih]
theorem valV_put (kvs : List (κ × V)) (k j : κ) (y : V) : valV (putK kvs k y) j = if j = k then some y else valV kvs j := by
  unfold putK
  by_cases a : (kvs.any fun kv => decide (kv.1 = k)) = true
  · rw [if_pos a, valV_map]
    rw [valV_any] at a
    by_cases e : j = k
    · obtain ⟨x, hx⟩ := Option.isSome_iff_exists.mp a
      rw [if_pos e, e, hx, Option.map_some, if_pos rfl]
    · rw [if_neg e]
      cases valV kvs j with
      | none => rfl
      | some x => rw [Option.map_some, if_neg e]
  · rw [if_neg a]
    refine valV_snoc k j y kvs ?_
    rw [valV_any] at a
    cases q : valV kvs k with
    | none => rfl
    | some x => rw [q] at a; exact (a rfl).elim
theorem length_putK (kvs : List (κ × V)) (k : κ) (v : V) : (putK kvs k v).length ≤ kvs.length + 1 := by
  unfold putK
  split
  · rw [List.length_map]; omega
  · rw [List.length_append, List.length_cons, List.length_nil]; omega

theorem RelO.isSome_eq {o : Option V} {u : Option Value} (r : RelO o u) : o.isSome = u.isSome := by
  cases o with
  | none => cases u with
    | none => rfl
    | some _ => exact (show False from r).elim
  | some _ => cases u with
    | none => exact (show False from r).elim
    | some _ => rfl
theorem RelO.getD {o : Option V} {u : Option Value} {d : V} {d' : Value} (r : RelO o u) (rd : RelV d d') : RelV (o.getD d) (u.getD d') := by
  cases o with
  | none => cases u with
    | none => exact rd
    | some _ => exact (show False from r).elim
  | some _ => cases u with
    | none => exact (show False from r).elim
    | some _ => exact r

/-- raw tables of the same keys -/
theorem KV.val {kvs : List (κ × V)} {vs : List (κ × Value)} (r : KV kvs vs) (k : κ) : RelO (valV kvs k) (valueAt vs k) := by
  unfold KV at r
  induction r with
  | nil => exact True.intro
  | @cons p q ps qs h t ih =>
    obtain ⟨h1, h2⟩ := h
    by_cases e : p.1 = k
    · have e' : q.1 = k := h1.symm.trans e
      have b : valueAt (q :: qs) k = some q.2 := by simp [valueAt, List.find?_cons, e']
      rw [valV_pos e, b]; exact h2
    · have e' : ¬ q.1 = k := fun z => e (h1.trans z)
      have b : valueAt (q :: qs) k = valueAt qs k := by simp [valueAt, List.find?_cons, e']
      rw [valV_neg e, b]; exact ih
theorem KV.any {kvs : List (κ × V)} {vs : List (κ × Value)} (r : KV kvs vs) (k : κ) : (kvs.any fun kv => decide (kv.1 = k)) = vs.any fun kv => decide (kv.1 = k) := by
  unfold KV at r
  induction r with
  | nil => rfl
  | cons h t ih => rw [List.any_cons, List.any_cons, ih, h.1]
theorem KV.repl {kvs : List (κ × V)} {vs : List (κ × Value)} (r : KV kvs vs) (k : κ) {y : V} {u : Value} (ry : RelV y u) :
    KV (kvs.map fun kv => if kv.1 = k then (kv.1, y) else kv) (vs.map fun kv => if kv.1 = k then (kv.1, u) else kv) := by
  unfold KV at r ⊢
  induction r with
  | nil => exact .nil
  | @cons p q ps qs h t ih =>
    rw [List.map_cons, List.map_cons]
    refine .cons ?_ ih
    obtain ⟨h1, h2⟩ := h
    by_cases e : p.1 = k
    · rw [if_pos e, if_pos (h1.symm.trans e)]; exact ⟨h1, ry⟩
    · rw [if_neg e, if_neg (fun z => e (h1.trans z))]; exact ⟨h1, h2⟩
theorem KV.put {kvs : List (κ × V)} {vs : List (κ × Value)} (r : KV kvs vs) (k : κ) {y : V} {u : Value} (ry : RelV y u) : KV (putK kvs k y) (stored vs k u) := by
  unfold putK stored
  rw [r.any k]
  by_cases e : (vs.any fun kv => decide (kv.1 = k)) = true
  · rw [if_pos e, if_pos e]; exact r.repl k ry
  · rw [if_neg e, if_neg e]; exact Paired.snoc r ⟨rfl, ry⟩
theorem KV.length {kvs : List (κ × V)} {vs : List (κ × Value)} (r : KV kvs vs) : kvs.length = vs.length := Paired.length r
end


/-! ### a tracked dict, its keys ints and texts or tuples of these -/
theorem kV_is {P : Program} {w : World} {k : Key} {u : Value} (r : RelV (kV k) u) : (mixKind P w).is k u = true := by
  cases k with
  | inl i => obtain ⟨t, e⟩ := (show ∃ t, u = Value.int i t from r); subst e; exact mixKind_int P w i t
  | inr x => obtain ⟨t, e⟩ := (show ∃ t, u = Value.str x t from r); subst e; exact mixKind_str P w x t
theorem items_are {P : Program} {w : World} : ∀ {ks : List Key} {us : List Value}, Vals (ks.map kV) us → ItemsAre (mixKind P w) ks us
  | [], _, r => by rw [List.map_nil] at r; cases r; exact .nil
  | k :: ks, _, r => by
    rw [List.map_cons] at r
    cases r with
    | cons h t => exact .cons (kV_is h) (items_are t)

/-- raw entries of a dict with tuple keys -/
abbrev KT (H : Hp) : List (List Key × V) → List (List Key × Addr × Value) → Prop := Paired fun p q => p.1 = q.1 ∧ H q.2.1 = some (.tup (p.1.map kV)) ∧ RelV p.2 q.2.2
theorem KT.val {H : Hp} {kvs : List (List Key × V)} {xs : List (List Key × Addr × Value)} (r : KT H kvs xs) (k : List Key) : RelO (valV kvs k) ((atKey xs k).map (·.2)) := by
  induction r with
  | nil => exact True.intro
  | @cons p q ps qs h t ih =>
    obtain ⟨h1, _, h2⟩ := h
    by_cases e : p.1 = k
    · have e' : q.1 = k := h1.symm.trans e
      have b : atKey (q :: qs) k = some q.2 := by simp [atKey, List.find?_cons, e']
      rw [valV_pos e, b]; exact h2
    · have e' : ¬ q.1 = k := fun z => e (h1.trans z)
      have b : atKey (q :: qs) k = atKey qs k := by simp [atKey, List.find?_cons, e']
      rw [valV_neg e, b]; exact ih
theorem KT.repl {H : Hp} {kvs : List (List Key × V)} {xs : List (List Key × Addr × Value)} (r : KT H kvs xs) (k : List Key) {y : V} {u : Value} (ry : RelV y u) :
    KT H (kvs.map fun kv => if kv.1 = k then (kv.1, y) else kv) (xs.map (putAt k u)) := by
  induction r with
  | nil => exact .nil
  | @cons p q ps qs h t ih =>
    rw [List.map_cons, List.map_cons]
    refine .cons ?_ ih
    obtain ⟨h1, h2, h3⟩ := h
    unfold putAt
    by_cases e : p.1 = k
    · rw [if_pos e, if_pos (h1.symm.trans e)]; exact ⟨h1, h2, ry⟩
    · rw [if_neg e, if_neg (fun z => e (h1.trans z))]; exact ⟨h1, h2, h3⟩
theorem KT.put {H : Hp} {kvs : List (List Key × V)} {xs : List (List Key × Addr × Value)} (r : KT H kvs xs) (k : List Key) {b : Addr} {y : V} {u : Value} (hb : H b = some (.tup (k.map kV))) (ry : RelV y u) :
    KT H (putK kvs k y) (storedH xs k b u) := by
  have e : (kvs.any fun kv => decide (kv.1 = k)) = (atKey xs k).isSome := by
    rw [valV_any, (r.val k).isSome_eq, Option.isSome_map]
  unfold putK storedH
  rw [e]
  by_cases q : (atKey xs k).isSome = true
  · rw [if_pos q, if_pos q]; exact r.repl k ry
  · rw [if_neg q, if_neg q]; exact Paired.snoc r ⟨rfl, hb, ry⟩
theorem KT.keeps {H H' : Hp} {kvs : List (List Key × V)} {xs : List (List Key × Addr × Value)} (r : KT H kvs xs) (ht : ∀ b ys, H b = some (.tup ys) → H' b = some (.tup ys)) : KT H' kvs xs :=
  Paired.mapP r fun _ _ z => ⟨z.1, ht _ _ z.2.1, z.2.2⟩

section
variable {P : Program} {w : World} {H : Hp} {h : Heap} {a : Addr}
theorem rd_of {u : HO} (ok : HOk P w H h) (e : Rd H a u) : ObjOk P w H h a u := e.ok ok
theorem dk_rd {kvs : List (Key × V)} (ok : HOk P w H h) (e : Rd H a (.dK kvs)) : kvs.length ≤ sizeLine ∧ (a == sysModules) = false ∧ ∃ vs, KV kvs vs ∧ h.DictOf (mixKind P w) a vs :=
  show ObjOk P w H h a (.dK kvs) from rd_of ok e
theorem dk_of {kvs : List (Key × V)} (ok : HOk P w H h) (e : H a = some (.dK kvs)) : kvs.length ≤ sizeLine ∧ (a == sysModules) = false ∧ ∃ vs, KV kvs vs ∧ h.DictOf (mixKind P w) a vs := dk_rd ok (.inl e)
/-- a tracked tuple of ints and texts is a key -/
theorem key_of {ks : List Key} (ok : HOk P w H h) (e : H a = some (.tup (ks.map kV))) : (tupleKind (mixKind P w)).is h ks a := by
  obtain ⟨_, its, r, o, h1, h2, n, h3⟩ := (show ObjOk P w H h a (.tup (ks.map kV)) from ok a _ e)
  exact ⟨o, its.toArray, n, h1, h2, h3, by simpa using items_are r⟩
theorem dt_rd {kvs : List (List Key × V)} (ok : HOk P w H h) (e : Rd H a (.dT kvs)) : kvs.length ≤ sizeLine ∧ (a == sysModules) = false ∧
    ∃ xs, KT H kvs xs ∧ h.DictOfH (tupleKind (mixKind P w)) a xs := by
  obtain ⟨z, y, xs, r, o, es, ep, h1, h2, h3, h4, h5⟩ := (show ObjOk P w H h a (.dT kvs) from rd_of ok e)
  refine ⟨z, y, xs, r, o, es, ep, h1, h2, h3, h4, fun x hx => ?_, h5⟩
  have all : ∀ {l : List (List Key × V)} {m : List (List Key × Addr × Value)}, KT H l m → ∀ x ∈ m, (tupleKind (mixKind P w)).is h x.1 x.2.1 := by
    intro l m q
    induction q with
    | nil => intro x hx; exact nomatch hx
    | @cons p q ps qs hq t ih =>
      intro x hx
      rcases List.mem_cons.mp hx with e | hx
      · subst e
        exact key_of ok (by rw [← hq.1]; exact hq.2.1)
      · exact ih x hx
  exact all r x hx
theorem dt_of {kvs : List (List Key × V)} (ok : HOk P w H h) (e : H a = some (.dT kvs)) : kvs.length ≤ sizeLine ∧ (a == sysModules) = false ∧
    ∃ xs, KT H kvs xs ∧ h.DictOfH (tupleKind (mixKind P w)) a xs := dt_rd ok (.inl e)
end

/-- what the dict at a holds at the key y -/
def DGet (H : Hp) (a : Addr) (y : V) (r : Option V) : Prop :=
  (∃ kvs k, Rd H a (.dK kvs) ∧ y = kV k ∧ r = valV kvs k) ∨ ∃ kvs k b, Rd H a (.dT kvs) ∧ y = .ref b ∧ H b = some (.tup (k.map kV)) ∧ r = valV kvs k
/-- the heap behind a[y] = v -/
def DPut (H : Hp) (a : Addr) (y v : V) (H' : Hp) : Prop :=
  (∃ kvs k, H a = some (.dK kvs) ∧ y = kV k ∧ kvs.length < sizeLine ∧ H' = upd H a (.dK (putK kvs k v))) ∨
  ∃ kvs k b, H a = some (.dT kvs) ∧ y = .ref b ∧ H b = some (.tup (k.map kV)) ∧ kvs.length < sizeLine ∧ H' = upd H a (.dT (putK kvs k v))
theorem DGet.k {H : Hp} {a : Addr} {kvs : List (Key × V)} {k : Key} (e : H a = some (.dK kvs)) : DGet H a (kV k) (valV kvs k) := .inl ⟨kvs, k, .inl e, rfl, rfl⟩
theorem DPut.k {H : Hp} {a : Addr} {kvs : List (Key × V)} {k : Key} {v : V} (e : H a = some (.dK kvs)) (hl : kvs.length < sizeLine) : DPut H a (kV k) v (upd H a (.dK (putK kvs k v))) := .inl ⟨kvs, k, e, rfl, hl, rfl⟩


section
variable {X : Cx} {pins : List (Addr × Obj)} {σ : St} {H : Hp} {s : Shared} {a : Addr} {y v : V} {u r : Value} {o : Option V} {A : Around} {E : Value → Shared → Prop}

theorem Inv.big (I : Inv X pins σ H s) : sysModules < s.heap.objs.size := by
  have h : mainGlobals < s.heap.objs.size := (I.mod.glob.keeps I.bk).lt
  exact Nat.lt_trans (by decide) h

/-- a dict's object is replaced -/
theorem d_write {h' : Heap} {t' : Nat} {ob : HO} (I : Inv X pins σ H s) (mu : Mut (H a)) (hs : Heap.SameBut a s.heap h') (he : ∃ q, h'.get? a = some q) (new : ObjOk X.prog X.w (upd H a ob) h' a ob) :
    Inv X pins σ (upd H a ob) { s with heap := h', toks := t' } :=
  I.write (x := a) (e := a) mu (.inl rfl) (fun b q hb z => (hs.2 b hb).trans z) he new
theorem dk_new {P : Program} {w : World} {H' : Hp} {h' : Heap} {kvs : List (Key × V)} {vs : List (Key × Value)} (z : kvs.length ≤ sizeLine) (hd : (a == sysModules) = false) (rel : KV kvs vs) (dd : h'.DictOf (mixKind P w) a vs) :
    ObjOk P w H' h' a (.dK kvs) := ⟨z, hd, vs, rel, dd⟩
/-- d[y] = v -/
theorem d_setItem {H' : Hp} {Q : Unit → Shared → Prop} (hu : A.units + 1 < cLine) (I : Inv X pins σ H s) (g : DPut H a y v H') (ry : RelV y u) (rv : RelV v r) (h : ∀ s', Inv X pins σ H' s' → Q () s') :
    wpAny (model X.prog X.w) A (setItem (.ref a) u r) Q E s := by
  rcases g with ⟨kvs, k, e, ey, l, eH⟩ | ⟨kvs, k, b, e, ey, eb, l, eH⟩
  · subst ey eH
    obtain ⟨z, hd, vs, rel, dd⟩ := dk_of I.hok e
    have hz : vs.length ≤ sizeLine := by rw [← rel.length]; exact z
    have hl : (putK kvs k v).length ≤ sizeLine := by have := length_putK kvs k v; omega
    refine wpAny_setItem_pairs (hsz := hz) (kV_is ry) dd fun h' dd' hs => h _ ?_
    have he : ∃ q, h'.get? a = some q := let ⟨q, _, _, hq, _⟩ := dd'; ⟨q, hq⟩
    exact d_write I (by rw [e]; exact True.intro) hs he (dk_new hl hd (rel.put k rv) dd')
  · subst ey eH
    cases (show u = Value.ref b from ry)
    obtain ⟨z, hd, xs, rel, dd⟩ := dt_of I.hok e
    have hz : xs.length ≤ sizeLine := by rw [← Paired.length rel]; exact z
    have hl : (putK kvs k v).length ≤ sizeLine := by have := length_putK kvs k v; omega
    refine wpAny_setItem_heap (hsz := hz) (tupleKind_room_in1 hu) (key_of I.hok eb) dd fun h' dd' hs => h _ ?_
    obtain ⟨q, es, ep, hq, h2, h3, h4, _, h5⟩ := dd'
    refine d_write I (by rw [e]; exact True.intro) hs ⟨q, hq⟩ ⟨hl, hd, _, (rel.put k eb rv).keeps fun c ys ec => ?_, q, es, ep, hq, h2, h3, h4, h5⟩
    rw [upd_ne (ne_of ec e (fun z => nomatch z))]
    exact ec
end

section
variable {X : Cx} {pins : List (Addr × Obj)} {σ : St} {H : Hp} {s : Shared} {a : Addr} {kvs : List (Key × V)} {k : Key} {u : Value} {A : Around} {E : Value → Shared → Prop}
end


/-! ### readings and rules -/
/-- the element of a subscription, not a slice -/
def NoSl (i : Expr) : Prop := ∀ ov iv, subscripted i false ov iv = operate [ov, iv] (getItem ov iv)
theorem subD_of {prog : Program} {w : World} {A : Around} {E : Value → Shared → Prop} {s : Shared} {env : Env} {value slice : Expr} {pos : Pos} {T id : String} {Q : Value → Shared → Prop}
    (hl : typeLookup (.type T) "__getitem__" = pure (some (.builtin id))) (hs : NoSl slice)
    (h : wpAny (model prog w) A (eval value env) (fun o s₁ => wpAny (model prog w) A (eval slice env) (fun i s₂ => s₂.TypeIs o T ∧ wpAny (model prog w) A (getItem o i) Q E s₂) E s₁) E s) :
    wpAny (model prog w) A (eval (.Subscript value slice pos) env) Q E s := by
  refine Subscript_ (wpAny_mono h (fun o s₁ h₁ => wpAny_mono h₁ (fun i s₂ h₂ => ?_) fun _ _ x => x) fun _ _ x => x)
  obtain ⟨hT, h₂⟩ := h₂
  unfold subscriptTail
  refine wpAny_bind ?_
  rw [getitemInPython_of_ne hT.not_modules]
  refine wpAny_bind (wpAny_specialOf hT hl ?_)
  have fin : wpAny (model prog w) A (subscripted slice false o i) (fun r s₃ => wpAny (model prog w) A (letTemporaryGo value o r >>= fun _ => pure r) Q E s₃) E s₂ := by
    rw [hs o i]
    exact wpAny_operating (wpAny_mono h₂ (fun r s₃ h₃ => wpAny_bind (wpAny_letTemporaryGo (wpAny_pure h₃))) fun _ _ x => x)
  first
    | exact wpAny_pure (wpAny_bind fin)
    | exact wpAny_bind (wpAny_pure (wpAny_bind fin))
    | exact wpAny_bind fin


/-- d[y] = v -/
def sDPut (td ty tv : TE) : TS := fun D σ H => tv σ H fun v H1 => td σ H1 fun x H2 => ty σ H2 fun y H3 => ∃ a H4, x = .ref a ∧ DPut H3 a y v H4 ∧ D.nx σ H4

section
variable {X : Cx} {o i e value : Expr} {pos pos' tpos : Pos} {td ty tv : TE}
theorem ps_dput (hu : X.A.units + 1 < cLine) (ho : PE X o td) (hi : PE X i ty) (hv : PE X value tv) (hs : swapsWith value (some (.Subscript o i pos')) pos.line X.env = pure false) :
    PS X (.Assign [.Subscript o i pos'] value pos) (sDPut td ty tv) := by
  intro pins s σ H D I h
  refine wpAny_Assign_Subscript (thn (hv pins s σ H _ I h) fun r s1 ⟨v, H1, I1, rv, q1⟩ => thn (ho pins s1 σ H1 _ I1 q1) fun u s2 ⟨x, H2, I2, rx, q2⟩ => thn (hi pins s2 σ H2 _ I2 q2) fun iv s3 ⟨y, H3, I3, ry, a, H4, ex, g, q3⟩ => ?_) hs
  subst ex
  obtain rfl : u = Value.ref a := rx
  exact d_setItem hu I3 g ry rv fun s4 I4 => ⟨σ, H4, I4, q3⟩
end


/-! ### displays -/
theorem dk_empty {P : Program} {w : World} {H : Hp} (h : Heap) (hb : sysModules < h.objs.size) : ObjOk P w H (h.push { cls := .type "dict", data := .dict #[] }) h.objs.size (.dK []) :=
  ⟨Nat.zero_le _, beq_eq_false_iff_ne.mpr (Ne.symm (Nat.ne_of_lt hb)), [], .nil, Heap.DictOf.new h⟩
/-- {}, to be a dict of the kind that is wanted -/
def tDNewK : TE := fun _ H Q => ∀ p, H p = none → Q (.ref p) (upd H p (.dK []))
section
variable {X : Cx} {pos : Pos}
theorem pe_dnewK : PE X (.Dict [] [] pos) tDNewK := fun pins s σ H Q I h =>
  wpAny_Dict_empty ⟨.ref s.heap.objs.size, _, I.laid (a := s.heap.objs.size) (o := .dK []) (t' := s.toks) (fun _ _ q => Heap.get?_push_of_some _ q) (Nat.le_refl _) (dk_empty s.heap I.big), rfl, h _ (I.hok.fresh (Nat.le_refl _))⟩
end

/-- the pairs of a display, from the left -/
def tPairs : List (TE × TE) → St → Hp → (List (V × V) → Hp → Prop) → Prop
  | [], _, H, Q => Q [] H
  | (tk, tv) :: r, σ, H, Q => tk σ H fun x H1 => tv σ H1 fun y H2 => tPairs r σ H2 fun ps H3 => Q ((x, y) :: ps) H3
abbrev VV : List (V × V) → List (Value × Value) → Prop := Paired fun p q => RelV p.1 q.1 ∧ RelV p.2 q.2
def PPs (X : Cx) (pos : Pos) (keys : List (Option Expr)) (values : List Expr) (trs : List (TE × TE)) : Prop :=
  ∀ (pins : List (Addr × Obj)) (s : Shared) (σ : St) (H : Hp) (Q : List (V × V) → Hp → Prop), Inv X pins σ H s → tPairs trs σ H Q →
    wpAny (model X.prog X.w) X.A (evalPairs (pairTrees keys values X.env pos)) (fun vs s' => ∃ ps H', Inv X pins σ H' s' ∧ VV ps vs ∧ Q ps H') X.xe s
theorem pps_nil {X : Cx} {pos : Pos} : PPs X pos [] [] [] := fun pins s σ H Q I h => pairTrees_nil_walk ⟨[], H, I, .nil, h⟩
theorem pps_cons {X : Cx} {pos : Pos} {k v : Expr} {ks : List (Option Expr)} {vs : List Expr} {tk tv : TE} {trs : List (TE × TE)} (hk : PE X k tk) (hv : PE X v tv) (hr : PPs X pos ks vs trs) :
    PPs X pos (some k :: ks) (v :: vs) ((tk, tv) :: trs) := fun pins s σ H Q I h =>
  pairTrees_cons_walk (thn (hk pins s σ H _ I h) fun u s1 ⟨x, H1, I1, rx, q1⟩ => thn (hv pins s1 σ H1 _ I1 q1) fun w2 s2 ⟨y, H2, I2, ry, q2⟩ =>
    thn (hr pins s2 σ H2 _ I2 q2) fun ws s3 ⟨ps, H3, I3, rel, q3⟩ => ⟨(x, y) :: ps, H3, I3, .cons ⟨rx, ry⟩ rel, q3⟩)

def mergeK (kvs more : List (Key × V)) : List (Key × V) := more.foldl (fun acc kv => putK acc kv.1 kv.2) kvs
theorem KV.merge : ∀ {more : List (Key × V)} {rs : List (Key × Value)} {kvs : List (Key × V)} {vs : List (Key × Value)}, KV more rs → KV kvs vs → KV (mergeK kvs more) (merged vs rs) := by
  intro more rs kvs vs r
  unfold KV at r
  induction r generalizing kvs vs with
  | nil => intro q; exact q
  | @cons p q ps qs h t ih =>
    intro r0
    have e : KV (putK kvs p.1 p.2) (stored vs q.1 q.2) := by
      have := r0.put p.1 h.2
      rw [← h.1]; exact this
    exact ih e
theorem length_mergeK : ∀ (more kvs : List (Key × V)), (mergeK kvs more).length ≤ kvs.length + more.length
  | [], kvs => by show kvs.length ≤ kvs.length + 0; omega
  | p :: r, kvs => by
    have h1 := length_mergeK r (putK kvs p.1 p.2)
    have h2 := length_putK kvs p.1 p.2
    show (mergeK (putK kvs p.1 p.2) r).length ≤ _
    rw [List.length_cons]; omega
theorem carries_of {P : Program} {w : World} : ∀ {kvs : List (Key × V)} {ws : List (Value × Value)}, VV (kvs.map fun kv => (kV kv.1, kv.2)) ws → ∃ rs, Carries (mixKind P w) ws rs ∧ KV kvs rs
  | [], _, r => by rw [List.map_nil] at r; cases r; exact ⟨[], True.intro, .nil⟩
  | p :: kvs, _, r => by
    rw [List.map_cons] at r
    cases r with
    | @cons a b as bs h t =>
      obtain ⟨rs, c, q⟩ := carries_of (P := P) (w := w) t
      obtain ⟨b1, b2⟩ := b
      exact ⟨(p.1, b2) :: rs, ⟨kV_is h.1, rfl, c⟩, .cons ⟨rfl, h.2⟩ q⟩
/-- {k: v, ..} with keys ints and texts; the new dict stands empty while the pairs are made -/
def tDisp (trs : List (TE × TE)) : TE := fun σ H Q => ∀ p, H p = none → tPairs trs σ (upd H p (.dK [])) fun ps H2 => H2 p = some (.dK []) ∧ ∃ kvs : List (Key × V), ps = kvs.map (fun kv => (kV kv.1, kv.2)) ∧ kvs.length ≤ 15 ∧ Q (.ref p) (upd H2 p (.dK (mergeK [] kvs)))
theorem pe_disp {X : Cx} {pos : Pos} {keys : List (Option Expr)} {values : List Expr} {trs : List (TE × TE)} (h : PPs X pos keys values trs) (hall : keys.all (·.isSome) = true) (hl : keys.length = values.length) (h0 : keys ≠ [])
    (h15 : keys.length ≤ 15) : PE X (.Dict keys values pos) (tDisp trs) := by
  intro pins s σ H Q I q
  have hn := I.hok.fresh (Nat.le_refl s.heap.objs.size)
  have I1 := I.laid (a := s.heap.objs.size) (o := .dK []) (h' := s.heap.push { cls := .type "dict", data := .dict #[] }) (t' := s.toks) (fun _ _ q => Heap.get?_push_of_some _ q) (Nat.le_refl _) (dk_empty s.heap I.big)
  refine wpAny_Dict_walk (knd := mixKind X.prog X.w) hall hl h0 h15 (thn (h pins _ σ _ _ I1 (q _ hn)) fun ws s2 ⟨ps, H2, I2, rel, e, kvs, ep, lk, q2⟩ => ?_)
  subst ep
  obtain ⟨rs, c, rk⟩ := carries_of (P := X.prog) (w := X.w) rel
  obtain ⟨z, hd, vs0, r0, dd⟩ := dk_of I2.hok e
  cases r0
  refine ⟨rs, c, dd, fun h' dd' hs => ⟨.ref s.heap.objs.size, _, ?_, rfl, q2⟩⟩
  have hz : (mergeK [] kvs).length ≤ sizeLine := by
    have h1 := length_mergeK kvs []
    rw [List.length_nil] at h1
    rw [sizeLine_eq]; omega
  have he : ∃ q, h'.get? s.heap.objs.size = some q := let ⟨q, _, _, hq, _⟩ := dd'; ⟨q, hq⟩
  exact d_write I2 (by rw [e]; exact True.intro) hs he (dk_new hz hd (rk.merge .nil) dd')


/-! ### methods -/
/-- a method call o.m(e) of a built-in, with one argument: what must be seen of the text -/
structure M1 (X : Cx) (o : Expr) (m : Str) (apos : Pos) (e : Expr) (cpos : Pos) : Prop where
  base : attributeBase o m X.env (eval o X.env) = eval o X.env
  few : ((backTo cpos (starEach [e] X.env)).all (fun x => !x.1) && (backToKw cpos (keywordEach [] X.env)).all (fun x => x.1.isSome)
    && decide (([e] : List Expr).length + ([] : List Keyword).length + (if ([] : List Keyword).isEmpty then 0 else 1) < 30)) = true
  line : (apos.endLine == cpos.line) = true
  trees : backTo cpos (starEach [e] X.env) = [(false, eval e X.env)]
structure M2 (X : Cx) (o : Expr) (m : Str) (apos : Pos) (e f : Expr) (cpos : Pos) : Prop where
  base : attributeBase o m X.env (eval o X.env) = eval o X.env
  few : ((backTo cpos (starEach [e, f] X.env)).all (fun x => !x.1) && (backToKw cpos (keywordEach [] X.env)).all (fun x => x.1.isSome)
    && decide (([e, f] : List Expr).length + ([] : List Keyword).length + (if ([] : List Keyword).isEmpty then 0 else 1) < 30)) = true
  line : (apos.endLine == cpos.line) = true
  trees : backTo cpos (starEach [e, f] X.env) = [(false, eval e X.env), (false, eval f X.env)]

/-- a is a dict, whatever its keys -/
def IsD (H : Hp) (a : Addr) : Prop := (∃ kvs, Rd H a (.dK kvs)) ∨ ∃ kvs, Rd H a (.dT kvs)
theorem isD_at {X : Cx} {pins : List (Addr × Obj)} {σ : St} {H : Hp} {s : Shared} {a : Addr} (I : Inv X pins σ H s) (d : IsD H a) :
    s.TypeIs (.ref a) "dict" ∧ (∀ b, Value.ref a = .ref b → ∃ ob, s.heap.get? b = some ob ∧ ob.dict = none) ∧ (a == sysModules) = false := by
  rcases d with ⟨kvs, e⟩ | ⟨kvs, e⟩
  · obtain ⟨_, hd, vs, _, dd⟩ := dk_rd I.hok e
    refine ⟨dd.typeIs, fun b q => ?_, hd⟩
    cases q
    obtain ⟨ob, _, _, h1, h2, _⟩ := dd
    exact ⟨ob, h1, h2.2.1⟩
  · obtain ⟨_, hd, xs, _, dd⟩ := dt_rd I.hok e
    refine ⟨dd.typeIs, fun b q => ?_, hd⟩
    cases q
    obtain ⟨ob, _, _, h1, h2, _⟩ := dd
    exact ⟨ob, h1, h2.2.1⟩

section
variable {X : Cx} {pins : List (Addr × Obj)} {σ : St} {H : Hp} {s : Shared} {a : Addr} {y d : V} {u r : Value} {o : Option V} {A : Around} {E : Value → Shared → Prop}
/-- d.get(y) -/
theorem d_get1 {Q : Value → Shared → Prop} (hu : A.units + 1 < cLine) (I : Inv X pins σ H s) (g : DGet H a y o) (ry : RelV y u) (h : ∀ w' s', Inv X pins σ H s' → RelV (o.getD .non) w' → Q w' s') :
    wpAny (model X.prog X.w) A (call (.builtin "dict.get") [.ref a, u]) Q E s := by
  rcases g with ⟨kvs, k, e, ey, l⟩ | ⟨kvs, k, b, e, ey, eb, l⟩
  · subst ey
    obtain ⟨z, hd, vs, rel, dd⟩ := dk_rd I.hok e
    refine call_meetsIn PySem.F.slot_dict_get dd.typeIs PySem.F.entry_dict_get (PySem.F.args_dict_get_2 _ _) (meets_dict_get (mixKind X.prog X.w) a (kV_is ry) hd) ⟨_, dd.mapOf, h _ _ (I.tok _) ?_⟩
    rw [l]
    exact (rel.val k).getD rfl
  · subst ey
    cases (show u = Value.ref b from ry)
    obtain ⟨z, hd, xs, rel, dd⟩ := dt_rd I.hok e
    refine call_meetsIn PySem.F.slot_dict_get dd.typeIs PySem.F.entry_dict_get (PySem.F.args_dict_get_2 _ _) (meetsH_dict_get (tupleKind (mixKind X.prog X.w)) a b hd) ⟨tupleKind_room_in1 hu, k, xs, key_of I.hok eb, dd, h _ _ (I.tok _) ?_⟩
    rw [l]
    exact (rel.val k).getD rfl
/-- d.get(y, x) -/
theorem d_get2 {Q : Value → Shared → Prop} (hu : A.units + 1 < cLine) (I : Inv X pins σ H s) (g : DGet H a y o) (ry : RelV y u) (rd : RelV d r) (h : ∀ w' s', Inv X pins σ H s' → RelV (o.getD d) w' → Q w' s') :
    wpAny (model X.prog X.w) A (call (.builtin "dict.get") [.ref a, u, r]) Q E s := by
  rcases g with ⟨kvs, k, e, ey, l⟩ | ⟨kvs, k, b, e, ey, eb, l⟩
  · subst ey
    obtain ⟨z, hd, vs, rel, dd⟩ := dk_rd I.hok e
    refine call_meetsIn PySem.F.slot_dict_get dd.typeIs PySem.F.entry_dict_get (PySem.F.args_dict_get_3 _ _ _) (meets_dict_get_default (mixKind X.prog X.w) a (kV_is ry) hd r) ⟨_, dd.mapOf, h _ _ (I.tok _) ?_⟩
    rw [l]
    exact (rel.val k).getD rd
  · subst ey
    cases (show u = Value.ref b from ry)
    obtain ⟨z, hd, xs, rel, dd⟩ := dt_rd I.hok e
    refine call_meetsIn PySem.F.slot_dict_get dd.typeIs PySem.F.entry_dict_get (PySem.F.args_dict_get_3 _ _ _) (meetsH_dict_get_default (tupleKind (mixKind X.prog X.w)) a b hd r) ⟨tupleKind_room_in1 hu, k, xs, key_of I.hok eb, dd, h _ _ (I.tok _) ?_⟩
    rw [l]
    exact (rel.val k).getD rd
end

def tDGet1 (td ty : TE) : TE := fun σ H Q => td σ H fun x H1 => ∃ a, x = .ref a ∧ IsD H1 a ∧ ty σ H1 fun y H2 => ∃ o, DGet H2 a y o ∧ Q (o.getD .non) H2
def tDGet2 (td ty tx : TE) : TE := fun σ H Q => td σ H fun x H1 => ∃ a, x = .ref a ∧ IsD H1 a ∧ ty σ H1 fun y H2 => tx σ H2 fun z H3 => ∃ o, DGet H3 a y o ∧ Q (o.getD z) H3
section
variable {X : Cx} {o e f : Expr} {apos cpos : Pos} {td ty tx : TE}
theorem pe_dget1 (hu : X.A.units + 1 < cLine) (ho : PE X o td) (he : PE X e ty) (m : M1 X o "get" apos e cpos) : PE X (.Call (.Attribute o "get" apos) [e] [] cpos) (tDGet1 td ty) := by
  intro pins s σ H Q I h
  refine wpAny_Call_method m.base m.few m.line PySem.F.plainAttrs_dict PySem.F.slot_dict_get PySem.F.type_dict_get (thn (ho pins s σ H _ I h) fun u s1 ⟨x, H1, I1, rx, a, ex, d, q1⟩ => ?_)
  subst ex
  obtain rfl : u = Value.ref a := rx
  obtain ⟨t1, t2, _⟩ := isD_at I1 d
  refine ⟨t1, t2, ?_⟩
  rw [m.trees]
  refine Calls.callWith_builtin rfl (Calls.evalArgs_plain (Calls.spliced_cons (thn (he pins s1 σ H1 _ I1 q1) fun iv s2 ⟨y, H2, I2, ry, ov, g, q2⟩ => Calls.spliced_nil ?_)))
  exact d_get1 hu I2 g ry fun w' s3 I3 rw' => ⟨_, H2, I3, rw', q2⟩
theorem pe_dget2 (hu : X.A.units + 1 < cLine) (ho : PE X o td) (he : PE X e ty) (hf : PE X f tx) (m : M2 X o "get" apos e f cpos) : PE X (.Call (.Attribute o "get" apos) [e, f] [] cpos) (tDGet2 td ty tx) := by
  intro pins s σ H Q I h
  refine wpAny_Call_method m.base m.few m.line PySem.F.plainAttrs_dict PySem.F.slot_dict_get PySem.F.type_dict_get (thn (ho pins s σ H _ I h) fun u s1 ⟨x, H1, I1, rx, a, ex, d, q1⟩ => ?_)
  subst ex
  obtain rfl : u = Value.ref a := rx
  obtain ⟨t1, t2, _⟩ := isD_at I1 d
  refine ⟨t1, t2, ?_⟩
  rw [m.trees]
  refine Calls.callWith_builtin rfl (Calls.evalArgs_plain (Calls.spliced_cons (thn (he pins s1 σ H1 _ I1 q1) fun iv s2 ⟨y, H2, I2, ry, q2⟩ =>
    Calls.spliced_cons (thn (hf pins s2 σ H2 _ I2 q2) fun fv s3 ⟨z, H3, I3, rz, ov, g, q3⟩ => Calls.spliced_nil ?_))))
  exact d_get2 hu I3 g ry rz fun w' s4 I4 rw' => ⟨_, H3, I4, rw', q3⟩
end

/-! ### dict(d): a copy -/
section
variable {X : Cx} {pins : List (Addr × Obj)} {σ : St} {H : Hp} {s : Shared} {a : Addr} {kvs : List (Key × V)} {A : Around} {E : Value → Shared → Prop}
end


section
variable {X : Cx} {pins : List (Addr × Obj)} {σ : St} {H : Hp} {s : Shared} {a : Addr} {y : V} {u : Value} {A : Around} {E : Value → Shared → Prop}
end
end L2

namespace Att
open PySem PySem.W PySem.Calls PyProof.Rows

/-! ### the script -/
theorem ints_of_wellAll {P : Params} {h : Heap} : ∀ (ns : List Int) (vs : List Value), WellAll P h vs (ns.map WData.int) → IntsAre vs ns := by
  intro ns
  induction ns with
  | nil =>
    intro vs w
    rw [List.map_nil] at w
    cases w
    exact .nil
  | cons n ns ih =>
    intro vs w
    rw [List.map_cons] at w
    cases w with
    | cons a b =>
      cases a
      exact .cons _ _ (ih _ b)

theorem script_of {l : OpenLaw} {n : Nat} (hn : l.most = some n) {P : Params} {h : Heap} {args : List WData} {vals : List Value}
    (hpre : l.row.toRowW.claim.pre args = true) (hwl : WellAll P h vals args) :
    ∃ a vs ns, vals = [Value.ref a] ∧ args = [WData.list (ns.map WData.int)] ∧ h.get? a = some { cls := .type "list", data := .seq vs.toArray } ∧ IntsAre vs ns ∧ ns.length ≤ n := by
  have hsh : WShape.hasAll [] args [.list .int] = true := (pre_splitW hpre).1
  have hc : l.pre.holds [] { args := args } = true := (pre_splitW hpre).2
  obtain ⟨d, r, rfl, h1, h2⟩ := hasAllW_cons hsh
  obtain rfl := hasAllW_nil h2
  obtain ⟨xs, rfl, h3⟩ := hasW_list h1
  obtain ⟨ns, rfl⟩ := items_int h3
  have hlen : ns.length ≤ n := by
    unfold OpenLaw.pre at hc
    have h4 : (WTm.not (.lt (.lit (.int (n : Int))) (.len (.arg 0)))).holds [] { args := [.list (ns.map .int)] } = true := by
      have h4 := (holds_andW hc).1
      rw [hn] at h4
      exact h4
    have h5 := condW_of h4 (w_not (w_lt w_lit (w_len_list (w_arg rfl))))
    rw [List.length_map] at h5
    refine Nat.le_of_not_lt fun q => ?_
    have q' : (n : Int) < ((ns.length : Nat) : Int) := by omega
    first
      | (rw [decide_eq_true q'] at h5; exact absurd h5 (by decide))
      | (simp at h5; omega)
  cases hwl with
  | cons w1 w2 =>
    cases w2
    cases w1 with
    | list ho hall => exact ⟨_, _, ns, rfl, rfl, ho, ints_of_wellAll ns _ hall, hlen⟩

theorem post_true (l : OpenLaw) (args : List WData) : l.row.toRowW.claim.post args (.bool true) args = true :=
  postW_of (r := l.row.toRowW) (X := (true == true))
    (show WShape.has [] (.bool true) .bool = true by first | rfl | decide | simp [WShape.has, WShape.arms, WShape.armsAll])
    (show (WTm.eq .res (.lit (.bool true))).value [] { args := args, res := some (.bool true), after := args } = some (.bool (true == true)) from w_eq_bool (w_res rfl) w_lit) rfl

/-! ### the attachment: holds_open's last premise (the goal 'hc' behind k_head) from a wpAny of the law's body -/

/-- the same from a codeAny of the CALL (for a layer whose function contracts speak of calls) -/
theorem attach_call {l : OpenLaw} {n : Nat} {q : Program} {loose : List Str} {XP : (Str → Option Value) → Heap → Prop} {YP : World → Heap → Prop} {d : DefRec}
    (hn : l.most = some n) (hdf : d.params.defaults = [])
    (call : ∀ (w : World) (s₀ s₁ : Shared) (mg mb : Str → Option Value) (fa : Addr) (o : Obj) (pm cd doc : Value) (a : Addr) (vs : List Value) (ns : List Int),
      Ground q loose [] XP w s₀ mg mb s₁.heap → YP w s₁.heap →
      s₁.heap.get? fa = some o → o.data = .func (docDef d.name d.params d.body d.scope pm cd doc) → s₁.heap.CodeRec cd d.name → mg d.name = some (.ref fa) →
      s₁.heap.get? a = some { cls := .type "list", data := .seq vs.toArray } → IntsAre vs ns → ns.length ≤ n → s₁.gens = #[] →
      codeAny (model l.prog w) callerA (.call (.ref fa) ⟨[.ref a], []⟩) (fun r s' => r = .ok (.ret (.bool true)) ∧ OldK s₁.heap s'.heap ∧ s'.os = s₁.os ∧ AllBare s'.gens) s₁) :
    WalkO q loose XP YP l.row.toRowW d [] (fun f vs => PySem.call f vs) := by
  intro w s₀ s₁ mg mb G Y fa o pm cd doc dV kV ho hd hcd hD hmg hg args vals as hpre hlay hrd hwl hlo
  obtain rfl : dV = .none := Dflts.none hD hdf
  obtain rfl : kV = .none := Dflts.noKw hD
  obtain ⟨a, vs, ns, rfl, rfl, hobj, hints, hlen⟩ := script_of hn hpre hwl
  refine enter_call (codeAny_mono (call w s₀ s₁ mg mb fa o pm cd doc a vs ns G Y ho (fd_plain hd) hcd hmg hobj hints hlen hg) fun r s' hq => ?_)
  obtain ⟨rfl, h2, h3, h4⟩ := hq
  exact ⟨.inl ⟨.bool true, .bool true, [], rfl, fun _ => rfl, .bool true, post_true l _, fun _ => ⟨List.Pairwise.nil, fun _ hm => (nomatch hm)⟩⟩, h2, h3, h4⟩


/-! ### rules over ANY heap (no ledger) from facts about the written part K: the library's own take a ledger (News) for what they write -/
section
variable {prog : Program} {w : World} {A : Around} {E : Value → Shared → Prop} {s : Shared} {K : Frag}





/-! the whole heap as the ledger: makes every rule that writes through a ledger a rule over any heap -/

end
end Att

namespace L2
open PySem PySem.Spec PyProof.Rows

theorem vals_ints : ∀ {vs : List Value} {ns : List Int}, IntsAre vs ns → Vals (ns.map V.int) vs
  | _, _, .nil => .nil
  | _, _, .cons n t h => .cons ⟨t, rfl⟩ (vals_ints h)

/-- nothing is tracked but the script, known to the object (or it is an object of the module) -/
def Only (H : Hp) : Prop := ∀ b, H b = none ∨ ∃ o xs, H b = some (.frz o (.lst xs))

/-- THE HEAD: the law's promise, at the heap behind the top. F, the promise of the law's def, may use that base is part of the heap (so K.In base, base.Ns mainGlobals mg stand in Mod) -/
theorem law_call {P : Program} {w : World} {K : PySem.W.Frag} {mg mb : Str → Option Value} {CX : CXT} {k : Nat} {fa a : Addr} {fd : FuncData} {x : Str} {sp : Sp} {s₁ : Shared} {vs : List Value} {ns : List Int}
    (KX : K.In s₁.heap) (hns : s₁.heap.Ns mainGlobals mg) (hb : s₁.heap.Ns builtinsNs mb) (hbb : ∀ x : Str, x ≠ "__name__" → mb x = bootBuiltins x) (hlim : s₁.heap.NoLimit) (hg : s₁.gens = #[])
    (ha : s₁.heap.get? a = some { cls := .type "list", data := .seq vs.toArray }) (hi : IntsAre vs ns) (hl : ns.length ≤ sizeLine) (hr : Room k callerA)
    (F : ∀ base : Heap, K.In base → base.Ns mainGlobals mg → FnOk P w K mg base CX k fa fd [x] sp) (hbind : ∀ (s : Shared) (u : Value), BindsTo s fd ⟨[u], []⟩ [(x, u)])
    (hsp : ∀ H : Hp, Only H → SqL K H a (ns.map V.int) → sp [.ref a] H (fun v _ => v = .bl true) fun _ _ _ => False)
    (hCX : ∀ H e s', CX [] H s₁ (fun _ _ _ => False) e s' → False) :
    codeAny (model P w) callerA (.call (.ref fa) ⟨[.ref a], []⟩) (fun r s' => r = .ok (.ret (.bool true)) ∧ OldK s₁.heap s'.heap ∧ s'.os = s₁.os ∧ AllBare s'.gens) s₁ := by
  have rv := vals_ints hi
  have lenV := hi.length
  -- from an abstract heap in which nothing but the script may be tracked
  have core : ∀ H : Hp, Only H → SqL K H a (ns.map V.int) → HOk P w H s₁.heap → (∀ b, H b ≠ none → b = a) → (H a ≠ none → K.lookup a = none) →
      codeAny (model P w) callerA (.call (.ref fa) ⟨[.ref a], []⟩) (fun r s' => r = .ok (.ret (.bool true)) ∧ OldK s₁.heap s'.heap ∧ s'.os = s₁.os ∧ AllBare s'.gens) s₁ := by
    intro H hO hS hok hA hK
    have base_of : ∀ {b : Addr} {o : Obj}, s₁.heap.get? b = some o → H b = none → (hidT s₁.heap H).get? b = some o := fun e n => hidT_get e n
    have noA : ∀ {b : Addr} {o : Obj} {es : Array DictEntry} {ep : Nat}, s₁.heap.get? b = some o → o.data = .dict es ep → H b = none := fun {b o es ep} e d => by
      cases q : H b with
      | none => rfl
      | some u =>
        have e' : b = a := hA b (by rw [q]; simp)
        subst e'
        rw [ha] at e; cases e
        have d' : Data.seq vs.toArray _ = Data.dict es ep := d
        cases d'
    have nsK : ∀ {b : Addr} {m : Str → Option Value}, s₁.heap.Ns b m → (hidT s₁.heap H).Ns b m := fun {b m} ⟨o, es, ep, e, d, r⟩ => ⟨o, es, ep, base_of e (noA e d), d, r⟩
    have hKb : K.In (hidT s₁.heap H) := fun b o e => base_of (KX b o e) (by
      cases q : H b with
      | none => rfl
      | some u =>
        have e' : b = a := hA b (by rw [q]; simp)
        subst e'
        rw [hK (by rw [q]; simp)] at e; cases e)
    have hM : Mod K mg (hidT s₁.heap H) := ⟨hKb, nsK hns, ⟨mb, nsK hb, hbb⟩, let ⟨mc, h1, h2⟩ := hlim; ⟨mc, nsK h1, h2⟩⟩
    have e0 : Env0 P w K mg (hidT s₁.heap H) callerA [] s₁ H := ⟨rfl, hM, fun b o e => of_hidT e, Nat.le_of_eq (hidT_size _ _), trivial, fun b hb => absurd (show b ∈ ([] : List Addr) from hb) (by simp), hok, .of_eq hg⟩
    refine codeAny_mono ((F _ hKb (nsK hns)).run callerA [] s₁ H ⟨[.ref a], []⟩ [.ref a] [.ref a] _ _ hr e0 (hbind s₁ (.ref a)) (.cons rfl .nil) (hsp H hO hS)) fun r s' h => ?_
    cases r with
    | error e => exact (hCX H e s' h).elim
    | ok fl =>
      cases fl with
      | next => exact False.elim h
      | brk => exact False.elim h
      | cont => exact False.elim h
      | ret u =>
        obtain ⟨v, H', os, bare, un, hok', r', q⟩ := h
        have q' : v = .bl true := q
        subst q'
        obtain rfl : u = Value.bool true := r'
        refine ⟨rfl, OldK.of_keep fun b o e => ?_, os, bare⟩
        cases q : H b with
        | none => exact un.keep b o e q (by intro z; exact absurd (show b ∈ ([] : List Addr) from z) (by simp)) (by simp)
        | some u =>
          rcases hO b with z | ⟨ob, xs, z⟩
          · rw [q] at z; cases z
          · have z2 := un.frzs b ob _ z
            obtain ⟨e1, _⟩ := hok b _ z
            obtain ⟨e2, _⟩ := hok' b _ z2
            rw [e] at e1; cases e1
            exact e2
  cases hk : K.lookup a with
  | some o =>
    -- the script is one of the module's own objects
    have e := KX a o hk
    rw [ha] at e
    cases e
    refine core (fun _ => none) (fun _ => .inl rfl) (.inr ⟨_, vs.toArray, _, hk, rfl, rfl, rfl, by rw [List.size_toArray, lenV]; exact hl, by simpa using rv⟩) (fun b u z => by have z' : (none : Option HO) = some u := z; cases z') (fun b z => absurd rfl z) fun z => absurd rfl z
  | none =>
    refine core (fun b => if b = a then some (.frz { cls := .type "list", data := .seq vs.toArray } (.lst (ns.map V.int))) else none) (fun b => ?_) (.inl (.inr ⟨{ cls := .type "list", data := .seq vs.toArray }, if_pos rfl⟩)) (fun b u z => ?_) (fun b z => ?_) fun _ => hk
    · by_cases hb : b = a
      · exact .inr ⟨_, _, if_pos hb⟩
      · exact .inl (if_neg hb)
    · by_cases hb : b = a
      · have z' := (if_pos hb).symm.trans z
        cases z'
        subst hb
        exact ⟨ha, by rw [List.length_map]; exact hl, vs, _, rv, ha⟩
      · have z' := (if_neg hb).symm.trans z
        cases z'
    · by_cases hb : b = a
      · exact hb
      · exact absurd (if_neg hb) z
end L2

namespace L2
open PySem PySem.Spec PyProof.Rows


/-- the goal that k_head leaves (case hc), from the law's promise. F gives the function object fd (K's own) once, then the promise over every base -/
theorem walk_of {l : PySem.W.OpenLaw} {n k : Nat} {q : Program} {loose : List Str} {XP : (Str → Option Value) → Heap → Prop} {YP : World → Heap → Prop} {d : DefRec} {K : Params → PySem.W.Frag} {CX : World → CXT} {sp : World → Sp} {x : Str}
    (hn : l.most = some n) (hn2 : n ≤ sizeLine) (hdf : d.params.defaults = []) (hr : Room k callerA)
    (hY : ∀ (w : World) (h : Heap), YP w h → (K w.params).In h)
    (F : ∀ (w : World) (mg : Str → Option Value) (fa : Addr) (h : Heap), (K w.params).In h → h.Ns mainGlobals mg → mg d.name = some (.ref fa) →
      ∃ fd : FuncData, (∀ (s : Shared) (u : Value), BindsTo s fd ⟨[u], []⟩ [(x, u)]) ∧
        ∀ base : Heap, (K w.params).In base → base.Ns mainGlobals mg → FnOk l.prog w (K w.params) mg base (CX w) k fa fd [x] (sp w))
    (hsp : ∀ (w : World) (H : Hp) (a : Addr) (ns : List Int), ns.length ≤ n → Only H → SqL (K w.params) H a (ns.map V.int) → sp w [.ref a] H (fun v _ => v = .bl true) fun _ _ _ => False)
    (hCX : ∀ (w : World) (H : Hp) (s : Shared) (e : Value) (s' : Shared), CX w [] H s (fun _ _ _ => False) e s' → False) :
    PySem.W.WalkO q loose XP YP l.row.toRowW d [] (fun f vs => PySem.call f vs) := by
  refine Att.attach_call hn hdf fun w s₀ s₁ mg mb fa o pm cd doc a vs ns G Y ho hd hcd hmg hobj hints hlen hg => ?_
  have KX := hY w _ Y
  obtain ⟨fd, hb, hF⟩ := F w mg fa _ KX G.T.g hmg
  exact law_call KX G.T.g G.T.b G.T.builtins G.T.nolimit hg hobj hints (Nat.le_trans hlen hn2) hr hF hb (fun H hO hS => hsp w H a ns hlen hO hS) fun H e s' => hCX w H s₁ e s'
end L2

/- THE LAST THEOREM (shape; LID, My.* are yours):
   My.Adr: a structure of the addresses that your layer names (classes, functions); My.Txt K t: a structure (Prop) of the equations over K;
   My.txt_mk : {K} {implicit addresses ..} (e1 : nsIn K mainGlobals "law" = some (some (.ref f))) (e2 : K.lookup f = some ⟨oc, od, .func (fnOf "law" "law" params body scope dV kV doc pm an cdv ct), sl⟩) (e3 : codeIn K cdv "law" = true) .. : ∃ t, My.Txt K t

set_option maxRecDepth 100000 in
set_option maxHeartbeats 0 in
theorem PySem.Challenge.cw_LID_holds : PySem.Challenge.rw_LID.Holds := by
  w_on; o_law; k_head; (case hw => w_witness2)
  k_fill
  refine L2.walk_of (l := PySem.Challenge.rw_LID) (n := 63) (k := 40) (x := "script") (CX := fun w => ..) (sp := fun _ => My.sp_law) rfl (by decide) rfl ⟨rfl, by decide, by decide⟩ (fun w h Y => PySem.W.kIn_of Y) ?F ?S ?C
  case F =>
    intro w mg fa h KX G hmg
    have T : ∃ t, My.Txt (L2.KOf KX) t := by
      dsimp only [L2.KOf]                          -- K must stand as «<heap const> w.params» for k_is
      refine' My.txt_mk ?e1 ?e2 ?e3 ..
      (case e1 => PySem.W.k_is)                    -- in the order: a name -> its address -> its object -> its parts
      (case e2 => PySem.W.k_is)
      ..
    obtain ⟨t, T⟩ := T
    have e0 := hmg.symm.trans (PySem.W.mg_of KX G T.law)
    cases e0                                       -- fa is the law's own address
    exact ⟨_, fun s u => .of_eq rfl, fun base kb nb => My.law_fn T kb nb⟩     -- if «.of_eq rfl» comes too early: refine' ⟨_, ?b, fun base kb nb => My.law_fn T kb nb⟩; exact fun s u => .of_eq rfl
  case S => exact fun w H a ns hl hO hS => ..
  case C => exact ..
(the tactic k_is has no namespace: write k_is) -/

/-! SHORT WORDS over the layer: a def of the text, its body, what a loop and a test want. -/
namespace L2
open PySem PySem.Spec PyProof.Rows

/-! ### the text by places -/
/-- the j-th statement of a class's body -/
def inClass (s : Stmt) (j : Nat) : Stmt := match s with
  | .ClassDef _ _ _ body _ _ _ _ _ _ _ => body.getD j (.Pass ⟨0, 0, 0, 0⟩)
  | _ => .Pass ⟨0, 0, 0, 0⟩
def defArgs (s : Stmt) : Arguments := match s with
  | .FunctionDef _ a _ _ _ _ _ _ _ _ => a
  | _ => { posonlyargs := [], args := [], vararg := none, kwonlyargs := [], kw_defaults := [], kwarg := none, defaults := [] }
def defBody (s : Stmt) : List Stmt := match s with
  | .FunctionDef _ _ b _ _ _ _ _ _ _ => b
  | _ => []
def defScope (s : Stmt) : Scope := match s with
  | .FunctionDef _ _ _ _ _ _ sc _ _ _ => sc
  | _ => { kind := .function, names := [], isGenerator := false, isCoroutine := false }

/-! ### no exception leaves a def -/
abbrev CX0 : CXT := fun _ _ _ _ _ _ => False
abbrev E0 : XK := fun _ _ _ => False
theorem pass0 {X : Cx} : Passes CX0 X E0 := fun _ _ _ _ _ _ _ h => h.elim

/-! ### a def (or method) of the text as it stands behind the top -/
structure Fun (K : PySem.W.Frag) (x qual : Str) (st : Stmt) (f : Addr) (fd : FuncData) : Prop where
  ex : ∃ (oc : Value) (od : Option Addr) (kV doc pm : Value) (an : Option Addr) (cdv ct : Value) (osl : Array (Option Value)),
    fd = PySem.W.fnOf x qual (defArgs st) (defBody st) (defScope st) .none kV doc pm an cdv ct ∧ K.lookup f = some ⟨oc, od, .func fd, osl⟩ ∧ PySem.W.codeIn K cdv qual = true
  kp : PySem.W.keepIn K (.ref f) = true
section
variable {P : Program} {w : World} {K : PySem.W.Frag} {mg : Str → Option Value} {base : Heap}
/-- THE RULE for a def: its body as a term of rules, and the reading of that term -/
theorem Fun.ok {x qual : Str} {st : Stmt} {f : Addr} {fd : FuncData} {N ps : List Str} {k : Nat} {sp : Sp} (F : Fun K x qual st f fd) (S : FnScope N ps (defScope st)) (len : ∀ vs H Q E, sp vs H Q E → vs.length = ps.length)
    (hbody : ∀ (cdv : Value) (A : Around) (outer : List Env) (s : Shared) (H : Hp) (vs : List V) (Q : VK) (E : XK), Room k (A.deeper (envOfC qual (defScope st) s.heap.objs.size f cdv)) → sp vs H Q E →
      ∃ t, PSs (cxOf CX0 P w K mg base N qual (defScope st) f cdv A outer s H E).nox (defBody st) t ∧ t { nx := fun _ H' => Q .non H', rt := Q } (start N vs) H) : FnOk P w K mg base CX0 (k + 1) f fd ps sp := by
  obtain ⟨oc, od, kV, doc, pm, an, cdv, ct, osl, rfl, lk, hcd⟩ := F.ex
  refine fn_of lk hcd S len fun A outer s H vs Q E hr hsp => ?_
  obtain ⟨t, h, q⟩ := hbody cdv A outer s H vs Q E hr hsp
  exact ⟨t, h.nox, q⟩
/-- how its arguments bind (no defaults): h is «fun _ _ _ _ _ _ us hl => match us, hl with | [_, _], _ => rfl», one _ a parameter -/
theorem Fun.binds {x qual : Str} {st : Stmt} {f : Addr} {fd : FuncData} {ps : List Str} (F : Fun K x qual st f fd)
    (h : ∀ (kV doc pm : Value) (an : Option Addr) (cdv ct : Value) (us : List Value), us.length = ps.length → bindArgs (PySem.W.fnOf x qual (defArgs st) (defBody st) (defScope st) .none kV doc pm an cdv ct) ⟨us, []⟩ = pure (ps.zip us)) : Binds K fd ps [] := by
  obtain ⟨oc, od, kV, doc, pm, an, cdv, ct, osl, rfl, lk, hcd⟩ := F.ex
  exact .all (h kV doc pm an cdv ct)
theorem fun_mk {x qual : Str} {st : Stmt} {f : Addr} {oc : Value} {od an : Option Addr} {osl : Array (Option Value)} {kV doc pm cdv ct : Value} (l : K.lookup f = some ⟨oc, od, .func (PySem.W.fnOf x qual (defArgs st) (defBody st) (defScope st) .none kV doc pm an cdv ct), osl⟩)
    (c : PySem.W.codeIn K cdv qual = true) (k : PySem.W.keepIn K (.ref f) = true) : Fun K x qual st f (PySem.W.fnOf x qual (defArgs st) (defBody st) (defScope st) .none kV doc pm an cdv ct) := ⟨⟨oc, od, kV, doc, pm, an, cdv, ct, osl, rfl, l, c⟩, k⟩
end

/-! ### expressions in short: the name that stands in the i-th slot -/
section
variable {X : Cx}
theorem pv (i : Nat) {x : Str} {pos : Pos} (hN : X.N[i]? = some x := by rfl) (hv : Vis X.env.scope x := by first | exact Or.inl rfl | exact Or.inr (Or.inl rfl) | exact Or.inr (Or.inr rfl)) (hd : (x == ("__debug__" : Str)) = false := by decide)
    (hcd : (x == ("__classdict__" : Str)) = false := by decide) : PE X (.Name x pos) (tVar i) := pe_var hN hv hd hcd
end

/-! ### tests -/
theorem ite2 {c A B : Prop} [Decidable c] (h1 : c → A) (h2 : ¬ c → B) : if c then A else B := by
  by_cases h : c
  · rw [if_pos h]
    exact h1 h
  · rw [if_neg h]
    exact h2 h

/-! ### heaps -/
/-- all that was tracked is as it was -/
def Same (H H' : Hp) : Prop := ∀ b o, H b = some o → H' b = some o
theorem Same.refl (H : Hp) : Same H H := fun _ _ h => h
theorem Same.trans {H H1 H2 : Hp} (a : Same H H1) (b : Same H1 H2) : Same H H2 := fun c o h => b c o (a c o h)
theorem Same.free {H H' : Hp} (e : Same H H') {l : Addr} (h : H' l = Option.none) : H l = Option.none := by
  cases q : H l with
  | none => rfl
  | some o =>
    rw [e l o q] at h
    cases h
/-! dict words -/
section
variable {X : Cx}
end

/-! ### a dict's pairs: keys that differ -/
section
variable {κ : Type} [DecidableEq κ]
end
end L2


set_option Elab.async false
set_option linter.all false
set_option maxRecDepth 100000
set_option maxHeartbeats 4000000
namespace L2
open PySem PySem.Spec PyProof.Rows

/-! ### a list comprehension of one clause, as a block of its own -/
def clStep (env : Env) (cs : List (Str × Addr)) (nk : Str × NameKind) : List (Str × Addr) :=
  if nk.2 == .free then (nk.1, (env.cells.lookup nk.1).getD 0) :: cs else cs
def clOf (scope : Scope) (env : Env) : List (Str × Addr) := scope.names.foldl (clStep env) []
theorem clos_of {scope : Scope} {env : Env} (h : ∀ y ∈ scope.names, y.2 = .free → ∃ c, env.cells.lookup y.1 = some c) : closureFor scope env = pure (clOf scope env) := by
  have all : ∀ (l : List (Str × NameKind)) (cs : List (Str × Addr)), (∀ y ∈ l, y.2 = .free → ∃ c, env.cells.lookup y.1 = some c) →
      (forIn l cs (fun x r => if (x.2 == NameKind.free) = true then do let a ← cellOf env x.1; pure (ForInStep.yield ((x.1, a) :: r)) else pure (ForInStep.yield r)) : Sem (List (Str × Addr))) = pure (l.foldl (clStep env) cs) := by
    intro l
    induction l with
    | nil => intro cs _; rfl
    | cons y r ih =>
      intro cs hy
      obtain ⟨n, k⟩ := y
      rw [List.forIn_cons, List.foldl_cons]
      by_cases hk : (k == NameKind.free) = true
      · obtain ⟨c, hc⟩ := hy (n, k) List.mem_cons_self (by simpa using hk)
        have e1 : cellOf env n = pure c := by unfold cellOf; rw [hc]
        have e2 : clStep env cs (n, k) = (n, c) :: cs := by unfold clStep; rw [if_pos hk, hc]; rfl
        rw [e2, ← ih _ fun z hz => hy z (List.mem_cons_of_mem _ hz)]
        dsimp only
        rw [if_pos hk, e1]
        rfl
      · have e2 : clStep env cs (n, k) = cs := by unfold clStep; rw [if_neg hk]
        rw [e2, ← ih _ fun z hz => hy z (List.mem_cons_of_mem _ hz)]
        dsimp only
        rw [if_neg hk]
        rfl
  have e := all scope.names [] h
  unfold closureFor clOf
  rw [← e]
  simp only [bind_pure]
theorem clOf_mem {env : Env} : ∀ {l : List (Str × NameKind)} {cs : List (Str × Addr)} {n : Str} {c : Addr}, (∀ y ∈ l, y.2 = .free → ∃ c, env.cells.lookup y.1 = some c) → (n, c) ∈ l.foldl (clStep env) cs → (n, c) ∈ cs ∨ env.cells.lookup n = some c
  | [], cs, n, c, _, m => .inl m
  | (y, k) :: r, cs, n, c, h, m => by
    rcases clOf_mem (fun z hz => h z (List.mem_cons_of_mem _ hz)) (show (n, c) ∈ r.foldl (clStep env) (clStep env cs (y, k)) from m) with q | q
    · unfold clStep at q
      by_cases hk : (k == NameKind.free) = true
      · rw [if_pos hk] at q
        rcases List.mem_cons.mp q with q | q
        · obtain ⟨d, hd⟩ := h (y, k) List.mem_cons_self (by simpa using hk)
          have hd : env.cells.lookup y = some d := hd
          injection q with q1 q2
          subst q1
          rw [hd] at q2
          subst q2
          exact .inr hd
        · exact .inl q
      · rw [if_neg hk] at q
        exact .inl q
    · exact .inr q
theorem clStep_sub {env : Env} : ∀ {l : List (Str × NameKind)} {cs : List (Str × Addr)} {p : Str × Addr}, p ∈ cs → p ∈ l.foldl (clStep env) cs
  | [], _, _, m => m
  | (y, k) :: r, cs, p, m => by
    refine clStep_sub (l := r) (cs := clStep env cs (y, k)) ?_
    unfold clStep
    split
    · exact List.mem_cons_of_mem _ m
    · exact m
theorem clOf_has {env : Env} : ∀ {l : List (Str × NameKind)} {cs : List (Str × Addr)} {n : Str}, (n, NameKind.free) ∈ l → ∃ c, (n, c) ∈ l.foldl (clStep env) cs
  | (y, k) :: r, cs, n, m => by
    rcases List.mem_cons.mp m with q | q
    · cases q
      exact ⟨(env.cells.lookup y).getD 0, clStep_sub (l := r) (by simp [clStep])⟩
    · exact clOf_has (l := r) q
theorem lookup_has {β : Type} : ∀ {l : List (Str × β)} {n : Str} {c : β}, (n, c) ∈ l → ∃ d, l.lookup n = some d
  | (k, v) :: r, n, c, m => by
    rw [List.lookup_cons]
    cases e : n == k with
    | true => exact ⟨v, rfl⟩
    | false =>
      rcases List.mem_cons.mp m with q | q
      · cases q
        simp at e
      · exact lookup_has q
theorem lookup_relabel_cell {env : Env} (hf : env.scope.kind = .function) : ∀ {names : List (Str × NameKind)} {x : Str}, names.lookup x = some .free → env.kindOf x = some .cell →
    (names.map fun (n, k) => if (k == NameKind.free && env.scope.kind == .function && env.kindOf n == some .cell) then (n, NameKind.cell) else (n, k)).lookup x = some .cell
  | [], _, h, _ => by simp at h
  | (n, k) :: r, x, h, hc => by
    have ih := @lookup_relabel_cell env hf r x
    show List.lookup x ((if (k == NameKind.free && env.scope.kind == .function && env.kindOf n == some .cell) = true then (n, NameKind.cell) else (n, k)) :: _) = _
    cases hx : x == n with
    | true =>
      have e : x = n := by simpa using hx
      subst e
      simp only [List.lookup_cons, hx] at h
      cases h
      rw [if_pos (by rw [hf, hc]; rfl)]
      simp [List.lookup_cons]
    | false =>
      simp only [List.lookup_cons, hx] at h
      by_cases hc' : (k == NameKind.free && env.scope.kind == .function && env.kindOf n == some .cell) = true
      · rw [if_pos hc']; simp only [List.lookup_cons, hx]; exact ih h hc
      · rw [if_neg hc']; simp only [List.lookup_cons, hx]; exact ih h hc

/-- the block's names N', each its own (none) or that of a slot around -/
def frOk (sc scope : Scope) (N : List Str) : List Str → List (Option Nat) → Bool
  | [], [] => true
  | _ :: r, none :: f => frOk sc scope N r f
  | y :: r, some i :: f => (N[i]? == some y) && (scope.names.lookup y == some .free) && (sc.names.lookup y == some .cell) && frOk sc scope N r f
  | _, _ => false
structure CompSc (sc scope : Scope) (N N' : List Str) (fr : List (Option Nat)) : Prop where
  kind : scope.kind = .function
  nocell : ∀ y ∈ scope.names, y.2 ≠ .cell
  names : ∀ y ∈ scope.names, y.2 = .local → scope.names.lookup y.1 = some .local
  free : ∀ y ∈ scope.names, y.2 = .free → sc.names.lookup y.1 = some .cell
  nd : N'.Nodup
  fr : frOk sc scope N N' fr = true
def frSt (fr : List (Option Nat)) (σ : St) : St := fr.map fun o => o.bind fun i => (σ[i]?).join
theorem frOk_len {sc scope : Scope} {N : List Str} : ∀ {N' : List Str} {fr : List (Option Nat)}, frOk sc scope N N' fr = true → fr.length = N'.length
  | [], [], _ => rfl
  | _ :: r, none :: f, h => by simp only [List.length_cons]; rw [frOk_len (N' := r) (fr := f) h]
  | y :: r, some i :: f, h => by
    unfold frOk at h
    simp only [Bool.and_eq_true] at h
    simp only [List.length_cons]; rw [frOk_len (N' := r) (fr := f) h.2]
  | [], _ :: _, h => by simp [frOk] at h
  | _ :: _, [], h => by simp [frOk] at h
theorem frOk_at {sc scope : Scope} {N : List Str} : ∀ {N' : List Str} {fr : List (Option Nat)} {j i : Nat} {y : Str}, frOk sc scope N N' fr = true → N'[j]? = some y → fr[j]? = some (some i) → N[i]? = some y ∧ scope.names.lookup y = some .free ∧ sc.names.lookup y = some .cell
  | [], [], _, _, _, _, h, _ => by simp at h
  | _ :: r, none :: f, 0, i, y, _, _, h => by simp at h
  | _ :: r, none :: f, j + 1, i, y, h, h1, h2 => frOk_at (N' := r) (fr := f) (j := j) h (by simpa using h1) (by simpa using h2)
  | z :: r, some k :: f, 0, i, y, h, h1, h2 => by
    unfold frOk at h
    simp only [Bool.and_eq_true, beq_iff_eq] at h
    have e1 : z = y := by simpa using h1
    have e2 : k = i := by simpa using h2
    subst e1 e2
    exact ⟨h.1.1.1, h.1.1.2, h.1.2⟩
  | z :: r, some k :: f, j + 1, i, y, h, h1, h2 => by
    unfold frOk at h
    simp only [Bool.and_eq_true] at h
    exact frOk_at (N' := r) (fr := f) (j := j) h.2 (by simpa using h1) (by simpa using h2)
  | [], _ :: _, _, _, _, h, _, _ => by simp [frOk] at h
  | _ :: _, [], _, _, _, h, _, _ => by simp [frOk] at h

def cxComp (X : Cx) (scope : Scope) (C : Addr) (N' : List Str) (s₀ : Shared) (H₀ : Hp) (fp : List Addr) : Cx where
  prog := X.prog
  w := X.w
  K := X.K
  mg := X.mg
  base := X.base
  A := X.A
  N := N'
  s₀ := s₀
  H₀ := H₀
  env := compEnvC scope (clOf scope X.env) C X.env
  outer := X.stack
  stack := X.stack
  ex := fp
  calm := true
  fn := fun _ => false
  pn := []
  xe := fun _ _ => False

section
variable {X : Cx} {scope : Scope} {N' : List Str} {fr : List (Option Nat)} {pins : List (Addr × Obj)} {σ : St} {H : Hp} {s : Shared} {fp : List Addr}

theorem Inv.block {h1 : Heap} {t1 : Nat} {m : Str → Option Value} (S : CompSc X.env.scope scope X.N N' fr) (hc : X.calm = true) (I : Inv X pins σ H s) (hf : ∀ b ∈ fp, FpOk X pins H b) (hlt : ∀ b ∈ fp, b < s.heap.objs.size)
    (hns : h1.Ns s.heap.objs.size m) (old : ∀ b o, s.heap.get? b = some o → h1.get? b = some o) :
    Inv (cxComp X scope s.heap.objs.size N' s H fp) [] (frSt fr σ) H { s with heap := h1, toks := t1 } := by
  have hfree : ∀ y ∈ scope.names, y.2 = .free → ∃ c, X.env.cells.lookup y.1 = some c := fun y hy e => I.ok.has y.1 (.inl (S.free y hy e))
  have cl1 : ∀ y c, (clOf scope X.env).lookup y = some c → X.env.cells.lookup y = some c := fun y c e => by
    rcases clOf_mem (cs := []) hfree (PySem.mem_of_lookup e) with q | q
    · exact absurd q (by simp)
    · exact q
  have has : ∀ y, ((relabel scope X.env).names.lookup y = some .cell ∨ (relabel scope X.env).names.lookup y = some .free) → ∃ c, (clOf scope X.env).lookup y = some c := fun y hy => by
    have q : (y, NameKind.free) ∈ scope.names := by
      have m : ∃ k, (k = NameKind.cell ∨ k = NameKind.free) ∧ (y, k) ∈ (relabel scope X.env).names := by
        rcases hy with hy | hy
        · exact ⟨_, .inl rfl, PySem.mem_of_lookup hy⟩
        · exact ⟨_, .inr rfl, PySem.mem_of_lookup hy⟩
      obtain ⟨k, hk, m⟩ := m
      obtain ⟨⟨n, k0⟩, hm, e⟩ := List.mem_map.mp m
      dsimp only at e
      by_cases hq : (k0 == NameKind.free && X.env.scope.kind == .function && X.env.kindOf n == some .cell) = true
      · rw [if_pos hq] at e
        simp only [Bool.and_eq_true, beq_iff_eq] at hq
        injection e with e1 e2
        rw [← e1, ← hq.1.1]
        exact hm
      · rw [if_neg hq] at e
        injection e with e1 e2
        subst e1 e2
        rcases hk with hk | hk
        · exact absurd hk (S.nocell _ hm)
        · rw [← hk]; exact hm
    obtain ⟨c, mc⟩ := clOf_has (env := X.env) (cs := []) q
    exact lookup_has mc
  have ltC : ∀ y c, X.env.cells.lookup y = some c → c < s.heap.objs.size := fun y c e => by
    obtain ⟨v, q⟩ := I.cell y c e
    exact q.lt
  refine ⟨⟨I.ok.mod, S.kind, I.ok.glob, I.ok.blt, Nat.le_refl _, fun x y c e1 e2 => I.ok.inj x y c (cl1 x c e1) (cl1 y c e2), has, fun x c e _ => absurd e (by simp [cxComp]), fun _ => I.ok.hd hc, I.ok.frames, .inl rfl,
      fun b hb => ⟨Nat.ne_of_lt (hlt b hb), fun x c e => (hf b hb).2.2.2.2.1 x c (cl1 x c e)⟩, I.bs, Nat.le_trans I.ok.bsz I.sz, fun b o e hb => ?_, fun b hb z => ?_, I.stack, I.stkFree⟩,
    rfl, I.bare, Un.kept old, ⟨m, hns, fun i x v e1 e2 e3 => ?_⟩, fun x c e => ?_, I.fresh, fun x c e => I.freeC x c (cl1 x c e), fun p hp => absurd hp (by simp [cxComp]), I.hok.kept old, ?_⟩
  · rcases (hf b hb).2.2.2.1 with z | z
    · exact I.ok.noex b o e z
    · exact absurd (Nat.lt_of_lt_of_le (Heap.lt_size e) (Nat.le_trans I.ok.bsz z)) (Nat.lt_irrefl _)
  · rcases List.mem_cons.mp (I.stkSub b z) with q | q
    · exact (hf b hb).2.1 q
    · exact (hf b hb).2.2.1 q
  · -- a name of the block at its entry: one from around
    have e2 : (frSt fr σ)[i]? = some (some v) := e2
    unfold frSt at e2
    rw [List.getElem?_map] at e2
    cases q : fr[i]? with
    | none => rw [q] at e2; cases e2
    | some o =>
      rw [q] at e2
      cases o with
      | none => cases e2
      | some j =>
        have e2 : (σ[j]?).join = some v := Option.some.inj e2
        have e4 : σ[j]? = some (some v) := by
          cases r : σ[j]? with
          | none => rw [r] at e2; cases e2
          | some w => rw [r] at e2; exact congrArg some e2
        obtain ⟨f1, f2, f3⟩ := frOk_at S.fr e1 q
        obtain ⟨m0, _, hl⟩ := I.loc
        obtain ⟨u, r, l⟩ := hl j x v f1 e4 (.inr (.inl f3))
        refine ⟨u, r, .inr ⟨.inl (lookup_relabel_cell I.ok.kind f2 f3), ?_⟩⟩
        obtain ⟨c, hc⟩ := has x (.inl (lookup_relabel_cell I.ok.kind f2 f3))
        rcases l with ⟨k, _⟩ | ⟨_, c', hc', ho⟩
        · have k : X.env.scope.names.lookup x = some .local := k
          rw [f3] at k; cases k
        · have e : c = c' := Option.some.inj ((cl1 x c hc).symm.trans hc')
          subst e
          obtain ⟨o, ho, hd⟩ := ho
          exact ⟨c, hc, o, old c o ho, hd⟩
  · obtain ⟨v, o, ho, hd⟩ := I.cell x c (cl1 x c e)
    exact ⟨v, o, old c o ho, hd⟩
  · show (frSt fr σ).length = N'.length
    unfold frSt
    rw [List.length_map]
    exact frOk_len S.fr
end

def PTs (X : Cx) (ifs : List Expr) (t : TT) : Prop :=
  ∀ (pins : List (Addr × Obj)) (s : Shared) (σ : St) (H : Hp) (Q : Bool → Hp → Prop), Inv X pins σ H s → t σ H Q →
    wpAny (model X.prog X.w) X.A (forIn ifs true fun c r => if r = true then do let ok ← isTrue c X.env (eval c X.env); pure (ForInStep.yield ok) else pure (ForInStep.yield r)) (TP X pins σ Q) X.xe s
def tYes : TT := fun _ H Q => Q true H
theorem pts_nil {X : Cx} : PTs X [] tYes := fun _ _ _ H _ I q => wpAny_tests_nil ⟨H, I, q⟩

theorem compLoop_any {prog : Program} {w : World} {A : Around} {R : Result → Shared → Prop} {s : Shared} {elt target iter : Expr} {ifs : List Expr} {scope : Scope} {pos : Pos} {it acc : Value} {env : Env} (I : Nat → Shared → Prop)
    (turn : ∀ n s, I n s → wpAny (model prog w) A (pyNext it) (fun r s₁ => match r with
      | none => R (.ok .next) s₁
      | some v => wpAny (model prog w) A (letOwnedTupleGo target it v) (fun _ s₀ => wpAny (model prog w) A (assign target env v) (fun _ s₂ =>
          wpAny (model prog w) A (forIn ifs true fun c r => if r = true then do let ok ← isTrue c env (eval c env); pure (ForInStep.yield ok) else pure (ForInStep.yield r)) (fun ok s₃ =>
            if ok = true then wpAny (model prog w) A (eval elt env) (fun x s₄ =>
              wpAny (model prog w) A (call (.builtin "list.append") [acc, x]) (fun _ s₅ => ∃ m, m < n ∧ I m s₅) (fun _ _ => False) s₄) (fun _ _ => False) s₃
            else ∃ m, m < n ∧ I m s₃) (fun _ _ => False) s₂) (fun _ _ => False) s₀) (fun _ _ => False) s₁) (fun _ _ => False) s)
    (n : Nat) (h : I n s) :
    codeAny (model prog w) A (.compLoop (.ListComp elt [⟨target, iter, ifs, 0⟩] scope pos) 0 it acc env) R s := by
  refine codeAny_loop rfl I (fun n s hI => ?_) n h
  show wpAny _ A ((compTurn (.ListComp elt [⟨target, iter, ifs, 0⟩] scope pos) 0 it acc env).onRaise (fun x => do noteFrame x env; theTreesLotGoes x)) _ _ s
  refine wpAny_noted ?_
  rw [compTurn_list]
  refine wpAny_bind (wpAny_standAt (wpAny_bind (wpAny_mono (turn n s hI) (fun r s₁ h₁ => ?_) fun _ _ h' => h'.elim)))
  cases r with
  | none => exact wpAny_pure h₁
  | some v =>
    refine wpAny_bind (wpAny_mono h₁ (fun _ s₀ h₀ => ?_) fun _ _ h' => h'.elim)
    refine wpAny_bind (wpAny_mono h₀ (fun _ s₂ h₂ => wpAny_bind (wpAny_mono h₂ (fun ok s₃ h₃ => ?_) fun _ _ h' => h'.elim)) fun _ _ h' => h'.elim)
    cases ok with
    | false => exact wpAny_pure ⟨rfl, h₃⟩
    | true =>
      exact wpAny_bind (wpAny_bind (wpAny_mono h₃ (fun x s₄ h₄ => wpAny_bind (wpAny_mono h₄ (fun _ s₅ h₅ => wpAny_pure (wpAny_pure ⟨rfl, h₅⟩)) fun _ _ h' => h'.elim)) fun _ _ h' => h'.elim))

/-- W: by the turn, a measure, the block's names, what has come, the heap -/
def tComp (fr : List (Option Nat)) (wi : TI) (g : TG) (tt : TT) (te : TE) : TE := fun σ H Q => wi σ H fun J H1 => ∀ D, H1 D = none →
  ∃ W : Nat → Nat → St → List V → Hp → Prop, (∃ m, W 0 m (frSt fr σ) [] (upd H1 D (.lst []))) ∧ ∀ i m σ ys H, W i m σ ys H →
    (J.stop i H ∧ Q (.ref D) H) ∨ (J.go i H ∧ ∃ N : St → List V → Hp → Prop, (∀ σ' ys' H', N σ' ys' H' → ∃ m', m' < m ∧ W (i + 1) m' σ' ys' H') ∧ ∀ x H', J.yld i H x H' → g x σ H' fun σ2 H2 => tt σ2 H2 fun b H3 =>
      if b = true then te σ2 H3 fun v H4 => H4 D = some (.lst ys) ∧ ys.length < sizeLine ∧ N σ2 (ys ++ [v]) (upd H4 D (.lst (ys ++ [v])))
      else N σ2 ys H3)

theorem comp_run {X : Cx} {elt tg iter : Expr} {ifs : List Expr} {scope : Scope} {pos cpos : Pos} {wi : TI} {g : TG} {tt : TT} {te : TE} {N' : List Str} {fr : List (Option Nat)} (S : CompSc X.env.scope scope X.N N' fr) (hc : X.calm = true) (hi : PI X tg iter wi)
    (hg : ∀ C s0 H0 fp, PG (cxComp X scope C N' s0 H0 fp) tg g) (ht : ∀ C s0 H0 fp, PTs (cxComp X scope C N' s0 H0 fp) ifs tt) (he : ∀ C s0 H0 fp, PE (cxComp X scope C N' s0 H0 fp) elt te)
    (hs : ∀ x, foldedSetIterable iter X.env x = pure x) {pins : List (Addr × Obj)} {s : Shared} {σ : St} {H : Hp} {Q : VK} (I : Inv X pins σ H s) (h : tComp fr wi g tt te σ H Q) (use : Option (Value → Sem Unit)) (QQ : Value → Shared → Prop)
    (fin : ∀ (D C : Addr) (H5 : Hp) (s6 : Shared), Inv X pins σ H5 s6 → Q (.ref D) H5 → H5 C = none → C ≠ X.env.locals → X.s₀.heap.objs.size ≤ C → (∀ x c, X.env.cells.lookup x = some c → c ≠ C) → (∀ p ∈ X.pn ++ pins, p.1 ≠ C) → (∃ m, s6.heap.Ns C m) →
      compPost (model X.prog X.w) X.A X.xe use QQ (.ref D) C (.ok .next) s6) :
    wpAny (model X.prog X.w) X.A (comprehension (.ListComp elt [⟨tg, iter, ifs, 0⟩] scope pos) scope X.env cpos (newList []) false (eval iter X.env) use) QQ X.xe s := by
  have hfree : ∀ y ∈ scope.names, y.2 = .free → ∃ c, X.env.cells.lookup y.1 = some c := fun y hy e => I.ok.has y.1 (.inl (S.free y hy e))
  refine wpAny_comprehension_free (use := use) rfl hs (clos_of hfree) S.kind S.names (thn (hi pins s σ H _ I h) fun v s1 h1 => thn h1 fun itv s2 h2 => ?_)
  obtain ⟨it, fp, tn, J, H2, e, I2, T, st2, f2, hD⟩ := h2
  subst e
  obtain ⟨W, ⟨m0, w0⟩, turn⟩ := hD s2.heap.objs.size I2.fresh
  -- the new list
  refine wpAny_newObj_type ?_
  have I3 : Inv X pins σ (upd H2 s2.heap.objs.size (.lst [])) { s2 with heap := s2.heap.push { cls := .type "list", data := .seq ([] : List Value).toArray }, toks := s2.toks } := I2.lnew (ys := []) .nil (Nat.zero_le _)
  revert I3
  generalize eD : s2.heap.objs.size = D at *
  generalize e3 : ({ s2 with heap := s2.heap.push { cls := .type "list", data := .seq ([] : List Value).toArray }, toks := s2.toks } : Shared) = s3
  intro I3
  have k3 : ∀ b o, s2.heap.get? b = some o → s3.heap.get? b = some o := fun b o e => by rw [← e3]; exact Heap.get?_push_of_some _ e
  refine wpAny_newFunctionEnv S.nocell (by intro y hy; simp at hy) (fun h4 hns hsb => ?_) S.kind
  have old : ∀ b o, s3.heap.get? b = some o → h4.get? b = some o := fun b o e => hsb.extBut b o (Nat.ne_of_lt (Heap.lt_size e)) (Heap.get?_push_of_some _ e)
  have fD : ∀ b ∈ fp, b ≠ D := fun b hb z => by
    obtain ⟨o, ho, _⟩ := T.obj _ _ st2 b hb
    exact absurd (Heap.lt_size ho) (by rw [z, eD]; exact Nat.lt_irrefl _)
  have f3 : ∀ b ∈ fp, FpOk X pins (upd H2 D (.lst [])) b := fun b hb => ⟨by rw [upd_ne (fD b hb)]; exact (f2 b hb).1, (f2 b hb).2⟩
  have l3 : ∀ b ∈ fp, b < s3.heap.objs.size := fun b hb => by
    obtain ⟨o, ho, _⟩ := T.obj _ _ st2 b hb
    exact Heap.lt_size (k3 b o ho)
  have I4 := Inv.block (t1 := s3.toks + ([] : List (Str × Value)).length) (scope := scope) S hc I3 f3 l3 hns old
  generalize eX : cxComp X scope s3.heap.objs.size N' s3 (upd H2 D (.lst [])) fp = X' at I4
  have st4 : tn 0 h4 := T.keep _ _ _ st2 fun b hb o e => old b o (k3 b o e)
  have stat : ∀ {H' : Hp}, (∀ b ∈ fp, H' b = none) → ∀ b ∈ fp, FpOk X' [] H' b := fun {H'} hn b hb => by
    subst eX
    refine ⟨hn b hb, Nat.ne_of_lt (l3 b hb), ?_, .inl hb, ?_, fun p hp => absurd hp (by simp [cxComp])⟩
    · exact I4.ok.exfs b hb
    · exact (I4.ok.exf b hb).2
  show codeAny _ _ (.compStart _ 0 (.ref it) (.ref D) (compEnvC scope (clOf scope X.env) s3.heap.objs.size X.env)) (compPost _ _ _ use _ (.ref D) s3.heap.objs.size) _
  have hX : X'.prog = X.prog ∧ X'.w = X.w ∧ X'.K = X.K ∧ X'.A = X.A ∧ X'.calm = true ∧ X'.env = compEnvC scope (clOf scope X.env) s3.heap.objs.size X.env ∧ X'.xe = (fun _ _ => False) ∧ X'.s₀ = s3 ∧ X'.H₀ = upd H2 D (.lst []) ∧ X'.fs = frs X.stack ∧ X'.ex = fp := by
    subst eX
    exact ⟨rfl, rfl, rfl, rfl, rfl, rfl, rfl, rfl, rfl, rfl, rfl⟩
  have hg' : PG X' tg g := by subst eX; exact hg _ _ _ _
  have ht' : PTs X' ifs tt := by subst eX; exact ht _ _ _ _
  have he' : PE X' elt te := by subst eX; exact he _ _ _ _
  clear eX
  obtain ⟨x1, x2, x3, x4, x5, x6, x7, x8, x9, x10, x11⟩ := hX
  have loop : codeAny (model X.prog X.w) X.A (.compLoop (.ListComp elt [⟨tg, iter, ifs, 0⟩] scope pos) 0 (.ref it) (.ref D) (compEnvC scope (clOf scope X.env) s3.heap.objs.size X.env))
      (compPost (model X.prog X.w) X.A X.xe use QQ (.ref D) s3.heap.objs.size) { s3 with heap := h4, toks := s3.toks + ([] : List (Str × Value)).length } := by
    refine compLoop_any (fun n s' => ∃ i σ' ys H', Inv X' [] σ' H' s' ∧ tn i s'.heap ∧ (∀ b ∈ fp, H' b = none) ∧ W i n σ' ys H') ?_ m0 ⟨0, _, [], _, I4, st4, fun b hb => (f3 b hb).1, w0⟩
    rintro n s5 ⟨i, σ5, ys, H5, I5, st5, fr5, w5⟩
    rcases turn i n σ5 ys H5 w5 with ⟨stop, qn⟩ | ⟨go, N, hN, step⟩
    · have z := T.done X' x1 x2 x3 x5 i [] s5 σ5 H5 (fun _ _ => False) I5 (stat fr5) st5 stop
      rw [x4] at z
      refine thn z fun r s6 ⟨hr, I6⟩ => ?_
      subst hr
      -- the end
      obtain ⟨mm, hn6, _⟩ := I6.loc
      have hL : X'.env.locals = s3.heap.objs.size := by rw [x6]; rfl
      rw [hL] at hn6
      have nC : H5 s3.heap.objs.size = none := by have := I6.free; rw [hL] at this; exact this
      have base := I6.base
      rw [x8, x9, x10, x11] at base
      have hok : HOk X.prog X.w H5 s6.heap := by have q := I6.hok; rw [x1, x2] at q; exact q
      have os : s6.os = s3.os := by have := I6.os; rw [x8] at this; exact this
      have IX : Inv X pins σ H5 s6 := I3.call' os base hok I6.bare fun b hb => ⟨(f3 b hb).2.2.2.1, (f3 b hb).2.1, (f3 b hb).2.2.2.2.1, (f3 b hb).2.2.2.2.2⟩
      refine fin D s3.heap.objs.size H5 s6 IX qn nC (Nat.ne_of_gt I3.lt) I3.sz (fun x c e => ?_) (fun p hp => ?_) ⟨mm, hn6⟩
      · obtain ⟨v, q⟩ := I3.cell x c e
        exact Nat.ne_of_lt q.lt
      · exact Nat.ne_of_lt (Heap.lt_size (I3.pin p hp).1)
    · have z := T.item X' x1 x2 x3 x5 i [] s5 σ5 H5 (fun _ _ => False) I5 (stat fr5) st5 go
      rw [x4] at z
      refine thn z fun r s6 ⟨u, hr, h6⟩ => ?_
      subst hr
      refine thn h6 fun _ s7 ⟨x, H7, I7, r7, y7, st7, fr7⟩ => ?_
      have I7' := I7.pinned (stat fr7) (T.obj _ _ st7)
      have again : ∀ {σ' : St} {H' : Hp} {s' : Shared}, Inv X' ([] ++ pinsAt fp s7.heap) σ' H' s' → Inv X' [] σ' H' s' ∧ tn (i + 1) s'.heap ∧ ∀ b ∈ fp, H' b = none := fun {σ' H' s'} J => by
        refine ⟨J.unpinned, T.keep _ _ _ st7 fun b hb o e => (J.pin (b, o) (List.mem_append_right _ (List.mem_append_right _ (mem_pinsAt hb e)))).1, fun b hb => ?_⟩
        obtain ⟨o, e, d⟩ := T.obj _ _ st7 b hb
        exact (J.pin (b, o) (List.mem_append_right _ (List.mem_append_right _ (mem_pinsAt hb e)))).2.1
      have z := hg' _ s7 σ5 H7 x u _ I7' r7 (step x H7 y7)
      rw [x1, x2, x4, x6, x7] at z
      refine thn z fun _ s8 ⟨σ8, H8, I8, q8⟩ => ?_
      have z := ht' _ s8 σ8 H8 _ I8 q8
      rw [x1, x2, x4, x6, x7] at z
      refine thn z fun b s9 ⟨H9, I9, q9⟩ => ?_
      cases b with
      | false =>
        rw [if_neg Bool.false_ne_true] at q9 ⊢
        obtain ⟨m', hm, w9⟩ := hN _ _ _ q9
        obtain ⟨a1, a2, a3⟩ := again I9
        exact ⟨m', hm, i + 1, σ8, ys, H9, a1, a2, a3, w9⟩
      | true =>
        rw [if_pos rfl] at q9 ⊢
        have z := he' _ s9 σ8 H9 _ I9 q9
        rw [x1, x2, x4, x6, x7] at z
        refine thn z fun v' s10 ⟨y, H10, I10, r10, hD10, hz, w10⟩ => ?_
        have z := mt_append (X := X') _ s10 σ8 H10 (.ref D) [y] (.ref D) [v'] (fun _ H' => N σ8 (ys ++ [y]) H') I10 rfl (.cons r10 .nil) ⟨D, ys, y, rfl, rfl, hD10, hz, w10⟩
        rw [x1, x2, x4, x7] at z
        refine thn z fun _ s11 ⟨_, H11, I11, _, w11⟩ => ?_
        obtain ⟨m', hm, w11⟩ := hN _ _ _ w11
        obtain ⟨a1, a2, a3⟩ := again I11
        exact ⟨m', hm, i + 1, σ8, _, H11, a1, a2, a3, w11⟩
  exact codeAny_compStart_list loop (T.self _ 0 _ _ _ st4 loop)
theorem pe_comp {X : Cx} {elt tg iter : Expr} {ifs : List Expr} {scope : Scope} {pos : Pos} {wi : TI} {g : TG} {tt : TT} {te : TE} {N' : List Str} {fr : List (Option Nat)} (S : CompSc X.env.scope scope X.N N' fr) (hc : X.calm = true) (hi : PI X tg iter wi)
    (hg : ∀ C s0 H0 fp, PG (cxComp X scope C N' s0 H0 fp) tg g) (ht : ∀ C s0 H0 fp, PTs (cxComp X scope C N' s0 H0 fp) ifs tt) (he : ∀ C s0 H0 fp, PE (cxComp X scope C N' s0 H0 fp) elt te)
    (hs : ∀ x, foldedSetIterable iter X.env x = pure x := by intro _; rfl) : PE X (.ListComp elt [⟨tg, iter, ifs, 0⟩] scope pos) (tComp fr wi g tt te) := by
  intro pins s σ H Q I h
  rw [eval_ListComp]
  refine comp_run S hc hi hg ht he hs I h none _ fun D C H5 s6 IX q nC c1 c2 c3 c4 hm => ?_
  obtain ⟨m, hm⟩ := hm
  refine ⟨m, hm, fun h' hs' => ⟨.ref D, H5, IX.turned (t' := s6.toks) (it := C) (fun b o hb e => hs'.extBut b o hb e) nC c1 (.inr c2) c3 c4, rfl, q⟩⟩
/-- name = [..], the name a local one -/
theorem ps_comp {X : Cx} {elt tg iter : Expr} {ifs : List Expr} {scope : Scope} {pos spos py : Pos} {y : Str} {i : Nat} {wi : TI} {g : TG} {tt : TT} {te : TE} {N' : List Str} {fr : List (Option Nat)} (hN : X.N.Nodup) (hy : X.N[i]? = some y) (hl : X.env.scope.names.lookup y = some .local)
    (S : CompSc X.env.scope scope X.N N' fr) (hc : X.calm = true) (hi : PI X tg iter wi)
    (hg : ∀ C s0 H0 fp, PG (cxComp X scope C N' s0 H0 fp) tg g) (ht : ∀ C s0 H0 fp, PTs (cxComp X scope C N' s0 H0 fp) ifs tt) (he : ∀ C s0 H0 fp, PE (cxComp X scope C N' s0 H0 fp) elt te)
    (hs : ∀ x, foldedSetIterable iter X.env x = pure x := by intro _; rfl) (hsw : swapsWith (.ListComp elt [⟨tg, iter, ifs, 0⟩] scope pos) (some (.Name y py)) spos.line X.env = pure true := by rfl) :
    PS X (.Assign [.Name y py] (.ListComp elt [⟨tg, iter, ifs, 0⟩] scope pos) spos) (tAsg (tComp fr wi g tt te) (gName i)) := by
  intro pins s σ H D I h
  rw [exec_Assign_Name_used _ _ _ _ hsw]
  refine wpAny_bind (wpAny_standAt (wpAny_bind ?_))
  show wpAny _ X.A (do let _ ← comprehension (.ListComp elt [⟨tg, iter, ifs, 0⟩] scope pos) scope X.env _ (newList []) false (eval iter X.env) (some (assign (.Name y py) X.env))) _ _ s
  refine wpAny_bind (thn (comp_run S hc hi hg ht he hs I h (some (assign (.Name y py) X.env)) (fun _ s' => SP X pins D .next s') fun L C H5 s6 IX q nC c1 c2 c3 c4 hm => ?_) fun _ s' hq => wpAny_pure (wpAny_pure hq))
  obtain ⟨m, hm⟩ := hm
  show wpAny _ X.A (assign (.Name y py) X.env (.ref L)) _ _ _
  refine wpAny_assign_Name (store_ok2 IX hN hy (.inl hl) (show RelV (.ref L) (Value.ref L) from rfl) (fun s7 I7 hch => ?_) (.inr hl))
  obtain ⟨a, hsb, ha⟩ := hch
  have hCa : C ≠ a := by
    rcases ha with ha | ha
    · rw [ha]; exact c1
    · exact (c3 _ _ ha).symm
  refine ⟨m, hm.at' (fun o e => (hsb.2 C hCa).trans e), fun h' hs' => ⟨_, H5, I7.turned (t' := s7.toks) (it := C) (fun b o hb e => hs'.extBut b o hb e) nC c1 (.inr c2) c3 c4, q⟩⟩

/-! ### the forms one uses -/
theorem comp_range {lo : Int} {n : Nat} {g : TG} {tt : TT} {te : TE} {R : Hp → Prop} {D : Addr} {σ0 : St} {H0 : Hp} (Pv : Nat → St → List V → Hp → Prop) (h0 : Pv 0 σ0 [] H0)
    (hs : ∀ i σ ys H, i < n → Pv i σ ys H → g (.int (lo + i)) σ H fun σ2 H2 => tt σ2 H2 fun b H3 =>
      if b = true then te σ2 H3 fun v H4 => H4 D = some (.lst ys) ∧ ys.length < sizeLine ∧ Pv (i + 1) σ2 (ys ++ [v]) (upd H4 D (.lst (ys ++ [v]))) else Pv (i + 1) σ2 ys H3)
    (hd : ∀ σ ys H, Pv n σ ys H → R H) :
    ∃ W : Nat → Nat → St → List V → Hp → Prop, (∃ m, W 0 m σ0 [] H0) ∧ ∀ i m σ ys H, W i m σ ys H →
      ((Itr lo n).stop i H ∧ R H) ∨ ((Itr lo n).go i H ∧ ∃ N : St → List V → Hp → Prop, (∀ σ' ys' H', N σ' ys' H' → ∃ m', m' < m ∧ W (i + 1) m' σ' ys' H') ∧ ∀ x H', (Itr lo n).yld i H x H' → g x σ H' fun σ2 H2 => tt σ2 H2 fun b H3 =>
        if b = true then te σ2 H3 fun v H4 => H4 D = some (.lst ys) ∧ ys.length < sizeLine ∧ N σ2 (ys ++ [v]) (upd H4 D (.lst (ys ++ [v]))) else N σ2 ys H3) := by
  refine ⟨fun i m σ ys H => m = n - i ∧ i ≤ n ∧ Pv i σ ys H, ⟨n, by simp, Nat.zero_le _, h0⟩, ?_⟩
  rintro i m σ ys H ⟨rfl, hi, p⟩
  by_cases hlt : i < n
  · refine .inr ⟨hlt, Pv (i + 1), fun σ' ys' H' p' => ⟨n - (i + 1), by omega, rfl, hlt, p'⟩, fun x H' y => ?_⟩
    obtain ⟨e, y⟩ := y
    subst e y
    exact hs i σ ys _ hlt p
  · have e : i = n := by omega
    subst e
    exact .inl ⟨Nat.le_refl _, hd σ ys H p⟩
theorem comp_list {K : PySem.W.Frag} {a : Addr} {xs : List V} {g : TG} {tt : TT} {te : TE} {R : Hp → Prop} {D : Addr} {σ0 : St} {H0 : Hp} (Pv : Nat → St → List V → Hp → Prop) (h0 : Pv 0 σ0 [] H0) (hl : ∀ i σ ys H, i ≤ xs.length → Pv i σ ys H → SqL K H a xs)
    (hs : ∀ i x σ ys H, xs[i]? = some x → Pv i σ ys H → g x σ H fun σ2 H2 => tt σ2 H2 fun b H3 =>
      if b = true then te σ2 H3 fun v H4 => H4 D = some (.lst ys) ∧ ys.length < sizeLine ∧ Pv (i + 1) σ2 (ys ++ [v]) (upd H4 D (.lst (ys ++ [v]))) else Pv (i + 1) σ2 ys H3)
    (hd : ∀ σ ys H, Pv xs.length σ ys H → R H) :
    ∃ W : Nat → Nat → St → List V → Hp → Prop, (∃ m, W 0 m σ0 [] H0) ∧ ∀ i m σ ys H, W i m σ ys H →
      ((Itl K a).stop i H ∧ R H) ∨ ((Itl K a).go i H ∧ ∃ N : St → List V → Hp → Prop, (∀ σ' ys' H', N σ' ys' H' → ∃ m', m' < m ∧ W (i + 1) m' σ' ys' H') ∧ ∀ x H', (Itl K a).yld i H x H' → g x σ H' fun σ2 H2 => tt σ2 H2 fun b H3 =>
        if b = true then te σ2 H3 fun v H4 => H4 D = some (.lst ys) ∧ ys.length < sizeLine ∧ N σ2 (ys ++ [v]) (upd H4 D (.lst (ys ++ [v]))) else N σ2 ys H3) := by
  refine ⟨fun i m σ ys H => m = xs.length - i ∧ i ≤ xs.length ∧ Pv i σ ys H, ⟨xs.length, by simp, Nat.zero_le _, h0⟩, ?_⟩
  rintro i m σ ys H ⟨rfl, hi, p⟩
  have q := hl i σ ys H hi p
  by_cases hlt : i < xs.length
  · refine .inr ⟨⟨xs, xs[i], q, by simp [hlt]⟩, Pv (i + 1), fun σ' ys' H' p' => ⟨xs.length - (i + 1), by omega, rfl, hlt, p'⟩, fun x H' y => ?_⟩
    obtain ⟨e, y⟩ := y
    subst e
    exact hs i x σ ys _ (y xs q) p
  · have e : i = xs.length := by omega
    subst e
    exact .inl ⟨⟨xs, q, Nat.le_refl _⟩, hd σ ys H p⟩
end L2


set_option Elab.async false
set_option linter.all false
set_option maxRecDepth 100000
set_option maxHeartbeats 4000000
namespace SF
open PySem

/-! ### a table of a set: its places rise -/


/-! ### the order by the text -/
end SF


set_option Elab.async false
set_option linter.all false
set_option maxRecDepth 100000
set_option maxHeartbeats 4000000
namespace SF
open PySem PySem.Calls PyProof.Rows


section
variable {prog : Program} {w : World} {A : Around} {E : Value → Shared → Prop} {s : Shared}



/-! ### the next place -/

/-! ### iter(set) -/
end
end SF


set_option Elab.async false
set_option linter.all false
set_option maxRecDepth 100000
set_option maxHeartbeats 4000000
namespace SF
open PySem PySem.Calls PyProof.Rows
section
variable {prog : Program} {w : World} {A : Around} {E : Value → Shared → Prop} {s : Shared}


end
end SF


set_option Elab.async false
set_option linter.all false
set_option maxRecDepth 100000
set_option maxHeartbeats 4000000
namespace SF
open PySem PySem.Calls PyProof.Rows

section
variable {prog : Program} {w : World} {A : Around} {E : Value → Shared → Prop} {s : Shared}

set_option maxHeartbeats 8000000 in
end
end SF


set_option Elab.async false
set_option linter.all false
set_option maxRecDepth 100000
set_option maxHeartbeats 4000000
namespace L2
open PySem PySem.Spec PyProof.Rows

/-! ### sets of ints: made of a list, sorted -/
section
variable {X : Cx}
/-! ### isinstance against a built-in type -/
theorem call_isinst : CallR X (.builtin "isinstance") (fun xs H Q => ∃ (x : V) (n : String) (t : Value) (b : Bool), xs = [x, .ty n] ∧ TyOf X.K H x t ∧ PySem.W.kitOne X.K t (.type n) = some b ∧ Q (.bl b) H) := by
  intro pins s σ H xs us Q I r h
  obtain ⟨x, n, t, b, rfl, ht, hk, q⟩ := h
  obtain ⟨u, v, rfl, ru, rv⟩ := vals2 r
  cases rv
  exact isinst_ok I ru ht hk fun tk => ⟨.bl b, H, I.tok tk, rfl, q⟩
/-! ### lists that differ -/
end
end L2


set_option Elab.async false
set_option linter.all false
set_option maxRecDepth 100000
set_option maxHeartbeats 4000000
namespace L2
open PySem PySem.Spec PyProof.Rows
section
variable {X : Cx}
end
end L2


set_option Elab.async false
set_option linter.all false
set_option maxRecDepth 100000
set_option maxHeartbeats 4000000
namespace L2
open PySem PySem.W PySem.Spec PySem.Calls PyProof.Rows
/-! ### a dict keyed by None and ints, its values all True -/
section
variable {X : Cx} {pos pos' : Pos} {o i value : Expr} {td ty tv : TE}
/-! ### lists that are alike -/
end
end L2


set_option Elab.async false
set_option linter.all false
set_option maxRecDepth 100000
set_option maxHeartbeats 4000000
namespace L2
open PySem PySem.Spec PyProof.Rows
section
variable {X : Cx} {pins : List (Addr × Obj)} {σ : St} {H : Hp} {s : Shared} {h' : Heap}
/-- records of ours have turned, and a new object came -/
theorem Inv.turnedNew {t' : Nat} {its : List Addr} {a : Addr} {o : HO} (I : Inv X pins σ H s) (k : ∀ b u, b ∉ its → s.heap.get? b = some u → h'.get? b = some u) (hf : ∀ b ∈ its, FpOk X pins H b)
    (hp : s.heap.objs.size ≤ a) (new : ObjOk X.prog X.w (upd H a o) h' a o) : Inv X pins σ (upd H a o) { s with heap := h', toks := t' } := by
  have hn : H a = none := I.hok.fresh hp
  have nit : ∀ b u, H b = some u → b ∉ its := fun b u e z => by rw [(hf b z).1] at e; cases e
  have nea : ∀ b u, s.heap.get? b = some u → b ≠ a := fun b u e => Nat.ne_of_lt (Nat.lt_of_lt_of_le (Heap.lt_size e) hp)
  refine I.step (g' := s.gens) (d' := s.drawn) (ch := its) (fun b hb => ?_) (fun b o _ _ hc e _ => k b o hc e) (fun b o _ _ hc e _ => ⟨o.slots, k b o hc e⟩) (fun b u _ e n => ?_)
    (fun b o hc e => ⟨o, k b o hc e⟩) (fun b xs e => ?_) (fun b u v e => ?_) (fun b ps e => ⟨#[], ?_⟩) (fun m hm => ?_) (fun b u e => ?_) I.bare
  · obtain ⟨_, f1, f2, f3, f4, f5⟩ := hf b hb
    exact ⟨f3, f1, f4, f5⟩
  · rw [upd_ne (nea b u e)]; exact n
  · rw [upd_ne (ne_of_none e hn)]; exact e
  · rw [upd_ne (ne_of_none e hn)]; exact e
  · rw [upd_ne (ne_of_none e hn), e]; simp
  · obtain ⟨o, es, ep, ho, r⟩ := hm
    exact ⟨o, es, ep, k _ o (fun z => (hf _ z).2.1 rfl) ho, r⟩
  · by_cases hb : b = a
    · subst hb
      rw [upd_same] at e
      cases e
      exact new
    · rw [upd_ne hb] at e
      refine (I.hok b u e).stay (fun c v hc q => k c v ?_ q) (fun c q => by rw [upd_ne (ne_of_none q hn)]; exact q) fun c xs q => by rw [upd_ne (ne_of_none q hn)]; exact q
      rcases hc with z | z
      · rw [z]; exact nit b u e
      · exact nit c _ z
end
/-- i and the list's item there, as a new pair -/
def Ite (K : PySem.W.Frag) (a : Addr) : It :=
  ⟨fun i H => ∃ xs x, SqL K H a xs ∧ xs[i]? = some x,
   fun i H x H' => ∃ t y, H t = none ∧ x = .ref t ∧ H' = upd H t (.tup [.int i, y]) ∧ ∀ xs, SqL K H a xs → xs[i]? = some y,
   fun i H => ∃ xs, SqL K H a xs ∧ xs.length ≤ i⟩
theorem turn_enum {P : Program} {w : World} {K : PySem.W.Frag} {elts : List Expr} {x1} {pos : Pos} (a e it : Addr) (hne : e ≠ it) :
    Turn P w K (.Tuple elts x1 pos) (Ite K a) [e, it] e (fun i h => (∃ old, IsEnum h e it i old) ∧ h.IsListIter it a i) where
  mem := by simp
  obj := fun i h st b hb => by
    obtain ⟨⟨old, he⟩, o, eo, c, d⟩ := st
    rcases List.mem_cons.mp hb with rfl | hb
    · exact ⟨_, he, fun v z => by
        have z' : Data.fields _ = Data.cell v := z
        cases z'⟩
    · rw [List.mem_singleton.mp hb]
      exact ⟨o, eo, fun v z => by rw [d] at z; cases z⟩
  keep := fun i h h' st k => ⟨st.1.elim fun old he => ⟨old, k e (by simp) _ he⟩, st.2.at fun o eo => k it (by simp) o eo⟩
  item := by
    intro X hP hw hK hc i pins s σ H E I hf st hg
    subst hP hw hK
    obtain ⟨xs, x, hq, hx⟩ := hg
    obtain ⟨⟨old, he⟩, hit⟩ := st
    obtain ⟨its, rv, p, hz⟩ := I.list hq
    obtain ⟨u, hu, ru⟩ := rv.get hx
    refine wpAny_pyNext_enum_item he hit p.isList (x := u) (by simpa using hu) hne fun h1 he1 hit1 ht1 hz1 k1 => ?_
    refine ⟨_, rfl, wpAny_letOwnedTupleGo_enum he1 fun h2 he2 hs2 => ?_⟩
    have hne2 : s.heap.objs.size ≠ e := Nat.ne_of_gt (Heap.lt_size he)
    have ht2 := (hs2.2 s.heap.objs.size hne2).trans ht1
    have hk : ∀ b o, b ∉ [e, it] → s.heap.get? b = some o → h2.get? b = some o := fun b o hb e' => by
      have hb' : b ≠ e ∧ b ≠ it := by simpa using hb
      exact (hs2.2 b hb'.1).trans (k1 b o hb'.1 hb'.2 e')
    have hfr : H s.heap.objs.size = none := I.hok.fresh (Nat.le_refl _)
    refine ⟨.ref s.heap.objs.size, upd H s.heap.objs.size (.tup [.int i, x]), I.turnedNew (t' := s.toks + 1) hk hf (Nat.le_refl _) ?_, rfl, ⟨_, x, hfr, rfl, rfl, fun ys hy => by rw [I.list_inj hy hq]; exact hx⟩, ⟨⟨u, ?_⟩, ?_⟩, fun b hb => ?_⟩
    · exact ⟨by show 2 ≤ sizeLine; decide, [.int i s.toks, u], .cons ⟨_, rfl⟩ (.cons ru .nil), ⟨_, ht2, rfl, _, rfl⟩⟩
    · exact he2
    · obtain ⟨o, e1, e2⟩ := hit1
      exact ⟨o, (hs2.2 it (Ne.symm hne)).trans e1, e2⟩
    · have : b ≠ s.heap.objs.size := by
        rcases List.mem_cons.mp hb with rfl | hb
        · exact Ne.symm hne2
        · rw [List.mem_singleton.mp hb]
          obtain ⟨o, e1, _⟩ := hit
          exact Nat.ne_of_lt (Heap.lt_size e1)
      rw [upd_ne this]
      exact (hf b hb).1
  done := by
    intro X hP hw hK hc i pins s σ H E I hf st hg
    subst hP hw hK
    obtain ⟨xs, hq, hx⟩ := hg
    obtain ⟨⟨old, he⟩, hit⟩ := st
    obtain ⟨its, rv, p, hz⟩ := I.list hq
    obtain ⟨f0, f1, f2, f3, f4, f5⟩ := hf it (by simp)
    have hl := rv.length
    exact wpAny_pyNext_enum_end (I.ok.hd hc) he hit p.isList (by simp; omega) fun h' eb => ⟨rfl, I.turned (t' := s.toks) (fun b o hb e => eb b o hb e) f0 f1 f3 f4 f5⟩
  self := fun _ _ _ _ _ st h => st.1.elim fun _ he => wpAny_pyIter_enum he h
section
variable {X : Cx}
def iEnum (K : PySem.W.Frag) (ta : TA) : TI := fun σ H R => ta σ H fun vs H1 => ∃ a, vs = [.ref a] ∧ (∃ xs, SqL K H1 a xs) ∧ R (Ite K a) H1
theorem bt_enum : bootBuiltins "enumerate" = some (.type "enumerate") := by decide +kernel
theorem pi_enum {a : Expr} {ta : TA} {p pos : Pos} {elts : List Expr} {x1} {tpos : Pos} (hg : Gl X "enumerate") (hm : X.mg "enumerate" = none) (ha : PA X [a] ta) (hs : starEach [a] X.env = [(false, eval a X.env)] := by rfl) :
    PI X (.Tuple elts x1 tpos) (.Call (.Name "enumerate" p) [a] [] pos) (iEnum X.K ta) := by
  intro pins s σ H R I h
  refine Call_ (ld_blt I hg hm bt_enum (PyProof.Rows.callWith_type1 (thn (ha pos pins s σ H _ I h) fun us s1 ⟨vs, H1, I1, r1, q1⟩ => ?_) hs rfl))
  obtain ⟨a, e, ⟨xs, hq⟩, q⟩ := q1
  subst e
  obtain ⟨u, rfl, ru⟩ := vals1 r1
  cases ru
  obtain ⟨its, rv, p, hz⟩ := I1.list hq
  refine call_enumerate_list p.isList fun h' he hit hsz hk => ?_
  refine wpAny_pyIter_enum he ?_
  refine ⟨s1.heap.objs.size + 1, [s1.heap.objs.size + 1, s1.heap.objs.size], _, _, H1, rfl, I1.kept (t' := s1.toks) hk, turn_enum a _ _ (Nat.succ_ne_self _), ⟨⟨_, he⟩, hit⟩, fun b hb => ?_, q⟩
  have hb' : s1.heap.objs.size ≤ b := by
    rcases List.mem_cons.mp hb with rfl | hb
    · exact Nat.le_succ _
    · rw [List.mem_singleton.mp hb]; exact Nat.le_refl _
  exact I1.fpOk hb' (I1.hok.fresh hb')
/-- over enumerate of a list that the body leaves as it is -/
theorem for_enum {K : PySem.W.Frag} {a : Addr} {xs : List V} {g : TG} {tb : TS} {D : Ends} {σ : St} {H : Hp} (Pv : Nat → St → Hp → Prop) (h0 : Pv 0 σ H) (hl : ∀ i σ H, i ≤ xs.length → Pv i σ H → SqL K H a xs)
    (hs : ∀ i x σ H t, xs[i]? = some x → H t = none → Pv i σ H → g (.ref t) σ (upd H t (.tup [.int i, x])) fun σ2 H2 => tb { D with nx := Pv (i + 1), ct := Pv (i + 1), bk := D.nx } σ2 H2) (hd : ∀ σ H, Pv xs.length σ H → D.nx σ H) :
    ∃ W : Nat → Nat → St → Hp → Prop, (∃ m, W 0 m σ H) ∧ ∀ i m σ H, W i m σ H →
      ((Ite K a).stop i H ∧ D.nx σ H) ∨ ((Ite K a).go i H ∧ ∃ N : St → Hp → Prop, (∀ σ' H', N σ' H' → ∃ m', m' < m ∧ W (i + 1) m' σ' H') ∧ ∀ x H', (Ite K a).yld i H x H' → g x σ H' fun σ2 H2 => tb { D with nx := N, ct := N, bk := D.nx } σ2 H2) := by
  refine ⟨fun i m σ H => m = xs.length - i ∧ i ≤ xs.length ∧ Pv i σ H, ⟨xs.length, by simp, Nat.zero_le _, h0⟩, ?_⟩
  rintro i m σ H ⟨rfl, hi, p⟩
  have q := hl i σ H hi p
  by_cases hlt : i < xs.length
  · refine .inr ⟨⟨xs, xs[i], q, by simp [hlt]⟩, Pv (i + 1), fun σ' H' p' => ⟨xs.length - (i + 1), by omega, rfl, hlt, p'⟩, fun x H' y => ?_⟩
    obtain ⟨t, y, hn, e1, e2, hy⟩ := y
    subst e1 e2
    exact hs i y σ _ t (hy xs q) hn p
  · have e : i = xs.length := by omega
    subst e
    exact .inl ⟨⟨xs, q, Nat.le_refl _⟩, hd σ H p⟩
end
end L2


set_option Elab.async false
set_option linter.all false
set_option maxRecDepth 100000
set_option maxHeartbeats 4000000
namespace L2
open PySem PySem.W PySem.Spec PySem.Calls PyProof.Rows
/-! ### a dict that is walked: frozen while it is so -/
section
variable {X : Cx} {pins : List (Addr × Obj)} {σ : St} {H : Hp} {s : Shared} {a : Addr} {kvs : List (Key × V)}
end
section
variable {X : Cx}
/-! ### loops and comprehensions over them -/
end
end L2


set_option Elab.async false
set_option linter.all false
set_option maxRecDepth 100000
set_option maxHeartbeats 4000000
namespace L2
open PySem PySem.W PySem.Spec PySem.Calls PyProof.Rows
/-! ### == of a list of ints, None, lists, tuples and dicts: what is alike -/
section
variable {X : Cx} {pins : List (Addr × Obj)} {σ : St} {H : Hp} {s : Shared} {A : Around}
end
end L2


set_option Elab.async false
set_option linter.all false
set_option maxRecDepth 100000
set_option maxHeartbeats 4000000
namespace L2
open PySem PySem.W PySem.Spec PySem.Calls PyProof.Rows
theorem list_no_keys : typeLookup (.type "list") "keys" = pure none := by rw [typeLookup_type, builtinLookup_eq_fast]; kernel_rfl
theorem keysQ_list {prog : Program} {w : World} {A : Around} {E : Value → Shared → Prop} {s : Shared} {a : Addr} {xs : Array Value} {k : Nat} {Q : Option Value → Shared → Prop}
    (hx : s.heap.get? a = some { cls := .type "list", data := .seq xs k }) (hA : A.handled = none)
    (hq : ∀ h' tk, (∀ b o, s.heap.get? b = some o → h'.get? b = some o) → Q none { s with heap := h', toks := tk }) : wpAny (model prog w) A (getAttr? (.ref a) "keys") Q E s := by
  obtain ⟨hp, g, d, tk, os⟩ := s
  have hT : ∀ tk', (⟨hp, g, d, tk', os⟩ : Shared).TypeIs (.ref a) "list" := fun _ => ⟨_, hx, rfl⟩
  have g1 := sub_AttributeError
  have g3 := PySem.F.slot_list_getattribute.lookup
  have g4 := PySem.F.slot_list_getattribute.bind (.ref a)
  have g5 := am_list_getattr_none
  unfold getAttr? getAttrBy? getAttrBy
  repeat (any_goals (first | assumption | exact hT _ | ((with_reducible show wpAny _ _ (call (Value.builtin "list.__getattribute__") _ _) _ _ _); refine call_meets PySem.F.slot_list_getattribute (hT _) am_entry_list_getattribute (PySem.F.args_list_getattribute_2 _ _) (meets_getattribute_miss_list a xs k #[] "keys" _ list_no_keys (by decide +kernel) (by size_fits)) ⟨hx, hA, fun h' tk' e hy => ?_⟩) | wp_step))
  obtain ⟨t', u', he⟩ := hy.there
  have hkp := hy.of.keeps
  (show wpAny (model prog w) _ (getattributeRaised _ _ _ _ _ _ _) _ _ _; unfold getattributeRaised; repeat (any_goals (first | assumption | wp_step)))
  exact hq _ _ hkp
theorem plain_dul : plainId "dict.update.loop" = true := by decide +kernel
theorem entry_dul : entryFor table "dict.update.loop" = some Builtin.«dict.update.loop» := entryFor_of_fast (by kernel_rfl)
section
variable {prog : Program} {w : World} {K : Type} [DecidableEq K] {knd : KeyKind prog w K} {A : Around} {R : Result → Shared → Prop}
theorem loop_pairs (hh : A.handled = none) {d it l : Addr} {items : Array Value} {ks : List (K × Value)} (hdi : d ≠ it) (hld : l ≠ d) (hli : l ≠ it) (hkl : ks.length = items.size) (hsz : items.size ≤ 1000) :
    ∀ (n i : Nat) (s : Shared) (acc : List (K × Value)) (t : Tok), items.size - i = n → i ≤ items.size → s.heap.IsListIter it l i → s.heap.IsList l items → s.heap.DictOf knd d acc → acc.length ≤ i →
      (∀ (j : Nat) k v, ks[j]? = some (k, v) → ∃ tup key, items[j]? = some (.ref tup) ∧ IsTup s.heap tup #[key, v] ∧ knd.is k key = true ∧ tup ≠ d ∧ tup ≠ it) →
      (∀ h' tk, h'.DictOf knd d (merged acc (ks.drop i)) → (∀ b o, b ≠ d → b ≠ it → s.heap.get? b = some o → h'.get? b = some o) → R (.ok (.ret .none)) { s with heap := h', toks := tk }) →
      codeAny (model prog w) A (.builtin "dict.update.loop" ⟨[.ref d, .ref it, .int i t, .none], []⟩) R s := by
  intro n
  induction n with
  | zero =>
    intro i s acc t hn hi hit hl hd hal hks hR
    have e : i = items.size := by omega
    subst e
    refine codeAny_builtin entry_dul ?_
    rw [Around.under_plainId plain_dul _]
    show wpAny _ A.in1 (pyNext (.ref it) >>= _) _ _ s
    refine wpAny_bind (wpAny_pyNext_list_end (A := A.in1) hh hit hl (by simp) fun h' he => ?_)
    show wpAny _ A.in1 (Builtin.Dict.addKeywords d [] >>= _) _ _ _
    refine wpAny_bind (wpAny_pure (wpAny_pure ?_))
    have e2 : ks.drop items.size = [] := List.drop_eq_nil_of_le (by omega)
    rw [e2] at hR
    refine hR h' s.toks ?_ fun b o _ hb e => he b o hb e
    obtain ⟨o, es, ep, ho, r⟩ := hd
    exact ⟨o, es, ep, he d o hdi ho, r⟩
  | succ n ih =>
    intro i s acc t hn hi hit hl hd hal hks hR
    have hlt : i < items.size := by omega
    have hki : ks[i]? = some ks[i] := List.getElem?_eq_getElem (by omega)
    obtain ⟨tup, key, hti, htup, hkey, ntd, nti⟩ := hks i ks[i].1 ks[i].2 hki
    refine codeAny_builtin entry_dul ?_
    rw [Around.under_plainId plain_dul _]
    show wpAny _ A.in1 (pyNext (.ref it) >>= _) _ _ s
    refine wpAny_bind (wpAny_pyNext_list_item (A := A.in1) hit hl hti fun h1 hit1 hs1 => ?_)
    have k1 : ∀ b o, b ≠ it → s.heap.get? b = some o → h1.get? b = some o := fun b o hb e => (hs1.2 b hb).trans e
    obtain ⟨ot, hot, hct, nt, hdt⟩ := htup
    have hot1 := k1 _ _ nti hot
    have hd1 : h1.DictOf knd d acc := by
      obtain ⟨o, es, ep, ho, r⟩ := hd
      exact ⟨o, es, ep, k1 d o hdi ho, r⟩
    refine wpAny_bind (wpAny_holding (wpAny_bind (wpAny_tryCatch ?_)))
    show wpAny _ A.in1 (Builtin.Dict.pairItems (.ref tup)) _ _ { s with heap := h1 }
    unfold Builtin.Dict.pairItems
    refine wpAny_bind (wpAny_typeOf (T := "tuple") ⟨_, hot1, hct⟩ ?_)
    rw [if_pos (by decide)]
    refine wpAny_bind (wpAny_seqItems hot1 hdt ?_)
    refine wpAny_pure ?_
    show wpAny _ A.in1 (holding [key, ks[i].2] (dictSet d key ks[i].2)) _ _ { s with heap := h1 }
    refine wpAny_holding (wpAny_dictSet_pairs (hsz := Nat.le_trans hal (Nat.le_trans hi (Nat.le_trans hsz (by rw [sizeLine_eq]; decide)))) hkey hd1 fun h2 hd2 hs2 => ?_)
    have k2 : ∀ b o, b ≠ d → b ≠ it → s.heap.get? b = some o → h2.get? b = some o := fun b o hb hb2 e => (hs2.2 b hb).trans (k1 b o hb2 e)
    refine wpAny_pure ⟨plainId_quiet plain_dul _, ?_⟩
    refine ih (i + 1) { s with heap := h2, toks := s.toks + 1 } (stored acc ks[i].1 ks[i].2) 0 (by omega) hlt ?_ ?_ hd2 ?_ ?_ ?_
    · obtain ⟨o, ho, r⟩ := hit1
      exact ⟨o, (hs2.2 it (Ne.symm hdi)).trans ho, r⟩
    · obtain ⟨o, ho, r⟩ := hl
      exact ⟨o, k2 l o hld hli ho, r⟩
    · unfold stored
      split
      · rw [List.length_map]; omega
      · rw [List.length_append]
        show acc.length + 1 ≤ i + 1
        omega
    · intro j k v hj
      obtain ⟨tup', key', a1, ⟨o, a2, a3⟩, a4, a5, a6⟩ := hks j k v hj
      exact ⟨tup', key', a1, ⟨o, k2 tup' o a5 a6 a2, a3⟩, a4, a5, a6⟩
    · intro h' tk hd' kp
      have e3 : ks.drop i = ks[i] :: ks.drop (i + 1) := List.drop_eq_getElem_cons (by omega)
      refine hR h' tk ?_ fun b o hb hb2 e => kp b o hb hb2 (k2 b o hb hb2 e)
      rw [e3]
      exact hd'
end
theorem call_dict_pairs {X : Cx} (hc : X.calm = true) : CallR X (.type "dict") (fun xs H Q => ∃ (p : Addr) (ts : List Addr) (kvs : List (Key × V)), xs = [.ref p] ∧ H p = some (.lst (ts.map V.ref)) ∧ ts.length = kvs.length ∧ (∀ (i : Nat) t k v, ts[i]? = some t → kvs[i]? = some (k, v) → H t = some (.tup [kV k, v])) ∧
    kvs.length ≤ 1000 ∧ (kvs.map (·.1)).Nodup ∧ ∀ l, H l = none → Q (.ref l) (upd H l (.dK kvs))) := by
  intro pins s σ H xs us0 Q I r h
  obtain ⟨p, ts, kvs, rfl, hp, hl, ht, hz, hnd, q⟩ := h
  obtain ⟨u, rfl, ru⟩ := vals1 r
  cases ru
  obtain ⟨_, its, nn, rv, hpo⟩ := (show ObjOk X.prog X.w H s.heap p (.lst (ts.map V.ref)) from I.hok p _ hp)
  have hil : its.length = ts.length := by rw [← rv.length, List.length_map]
  have hti : ∀ (i : Nat) t, ts[i]? = some t → its[i]? = some (Value.ref t) := fun i t hi => by
    obtain ⟨w', hw, rw'⟩ := rv.get (i := i) (x := V.ref t) (by rw [List.getElem?_map, hi]; rfl)
    cases rw'
    exact hw
  have pick : ∀ (i : Nat) k v, kvs[i]? = some (k, v) → ∃ t key u, ts[i]? = some t ∧ IsTup s.heap t #[key, u] ∧ RelV (kV k) key ∧ RelV v u := fun i k v hi => by
    have hlt : i < ts.length := by rw [hl]; exact (List.getElem?_eq_some_iff.mp hi).1
    have h1 : ts[i]? = some ts[i] := List.getElem?_eq_getElem hlt
    obtain ⟨_, tis, tv, tt⟩ := (show ObjOk X.prog X.w H s.heap ts[i] (.tup [kV k, v]) from I.hok _ _ (ht i _ k v h1 hi))
    cases tv with
    | cons a b =>
      cases b with
      | cons c d =>
        cases d
        exact ⟨ts[i], _, _, h1, tt, a, c⟩
  have hvs : ∃ vs : List (Key × Value), KV kvs vs ∧ ∀ (i : Nat) k u, vs[i]? = some (k, u) → ∃ t key, ts[i]? = some t ∧ IsTup s.heap t #[key, u] ∧ RelV (kV k) key := by
    have gen : ∀ (ks : List (Key × V)) (o : Nat), (∀ (i : Nat) k v, ks[i]? = some (k, v) → kvs[o + i]? = some (k, v)) → ∃ vs : List (Key × Value), KV ks vs ∧ ∀ (i : Nat) k u, vs[i]? = some (k, u) → ∃ t key, ts[o + i]? = some t ∧ IsTup s.heap t #[key, u] ∧ RelV (kV k) key := by
      intro ks
      induction ks with
      | nil => intro o _; exact ⟨[], .nil, fun i k u h => by simp at h⟩
      | cons c ks ih =>
        intro o ho
        obtain ⟨t, key, u, a1, a2, a3, a4⟩ := pick o c.1 c.2 (ho 0 c.1 c.2 rfl)
        obtain ⟨vs, b1, b2⟩ := ih (o + 1) fun i k v hi => by
          have := ho (i + 1) k v (by simpa using hi)
          rwa [show o + (i + 1) = o + 1 + i by omega] at this
        refine ⟨(c.1, u) :: vs, .cons ⟨rfl, a4⟩ b1, fun i k u' hi => ?_⟩
        cases i with
        | zero =>
          have e := Option.some.inj hi
          cases e
          exact ⟨t, key, a1, a2, a3⟩
        | succ i =>
          obtain ⟨t', key', c1, c2, c3⟩ := b2 i k u' (by simpa using hi)
          exact ⟨t', key', by rw [show o + (i + 1) = o + 1 + i by omega]; exact c1, c2, c3⟩
    obtain ⟨vs, a, b⟩ := gen kvs 0 fun i k v hi => by rw [Nat.zero_add]; exact hi
    exact ⟨vs, a, fun i k u hi => by have := b i k u hi; rwa [Nat.zero_add] at this⟩
  obtain ⟨vs, hkv, hvt⟩ := hvs
  have hvl := hkv.length
  have hvk : vs.map (·.1) = kvs.map (·.1) := by
    have : ∀ {a : List (Key × V)} {b : List (Key × Value)}, KV a b → b.map (·.1) = a.map (·.1) := by
      intro a b h
      induction h with
      | nil => rfl
      | cons h t ih => rw [List.map_cons, List.map_cons, ih, h.1]
    exact this hkv
  have hh := I.ok.hd hc
  refine callType_codes (Q₁ := fun obj s1 => obj = .ref s.heap.objs.size ∧ s1 = { s with heap := s.heap.push { cls := .type "dict", data := .dict #[] } }) PySem.F.kt_called_dict (PySem.F.kt_typeCall_dict_1 _) PySem.F.entry_dict_init (kt_code_dict_new _ ⟨rfl, rfl⟩) (fun obj s1 hs => ?_)
  obtain ⟨rfl, rfl⟩ := hs
  have nw : (s.heap.push { cls := .type "dict", data := .dict #[] }).DictOf (mixKind X.prog X.w) s.heap.objs.size [] := Heap.DictOf.new s.heap
  have old : ∀ b o, s.heap.get? b = some o → (s.heap.push { cls := .type "dict", data := .dict #[] }).get? b = some o := fun b o e => Heap.get?_push_of_some _ e
  refine ⟨nw.typeIs, PySem.F.args_dict_init_2 _ _, ?_⟩
  (unfold Builtin.«dict.__init__»; refine wpAny_bind ?_; unfold Builtin.Dict.selfAndRest; refine wpAny_bind (wpAny_notOrdered_dict nw.typeIs ?_))
  (show wpAny _ _ (pure (s.heap.objs.size, [Value.ref p])) _ _ _; refine wpAny_pure ?_; show wpAny _ _ (Builtin.Dict.updateFrom "dict.__init__" s.heap.objs.size (.ref p) [] .none) _ _ _; unfold Builtin.Dict.updateFrom)
  refine wpAny_bind (wpAny_typeOf (T := "list") ⟨_, old _ _ hpo, rfl⟩ ?_)
  rw [if_pos (by decide)]
  refine wpAny_bind (keysQ_list (old _ _ hpo) hh fun h1 tk1 k1 => ?_)
  rw [if_pos (show (none : Option Value).isNone = true from rfl)]
  refine wpAny_bind (wpAny_rule ?_)
  have hpl1 : h1.IsList p its.toArray := ⟨_, k1 _ _ (old _ _ hpo), rfl, nn, rfl⟩
  refine wpAny_bind (wpAny_pyIter_list (l := p) (items := its.toArray) hpl1 ?_)
  have lt : ∀ b o, s.heap.get? b = some o → b < s.heap.objs.size := fun b o e => Heap.lt_size e
  have dN : h1.get? s.heap.objs.size = some { cls := .type "dict", data := .dict #[] } := k1 _ _ (Heap.get?_push_size _ rfl)
  have ltd : @LT.lt Nat _ s.heap.objs.size h1.objs.size := Heap.lt_size dN
  have up : ∀ b o, h1.get? b = some o → (h1.push { cls := .type "list_iterator", data := .fields #[.ref p, .int 0 0] }).get? b = some o := fun b o e => Heap.get?_push_of_some _ e
  have ltp := lt _ _ hpo
  have itr : (h1.push { cls := .type "list_iterator", data := .fields #[.ref p, .int 0 0] }).IsListIter h1.objs.size p 0 := ⟨_, Heap.get?_push_size _ rfl, rfl, rfl⟩
  have lst2 : (h1.push { cls := .type "list_iterator", data := .fields #[.ref p, .int 0 0] }).IsList p its.toArray := ⟨_, up _ _ (k1 _ _ (old _ _ hpo)), rfl, nn, rfl⟩
  have dct2 : (h1.push { cls := .type "list_iterator", data := .fields #[.ref p, .int 0 0] }).DictOf (mixKind X.prog X.w) s.heap.objs.size [] := by
    obtain ⟨o, es, ep, ho, rr⟩ := nw
    exact ⟨o, es, ep, up _ _ (k1 _ _ ho), rr⟩
  refine wpAny_pure ⟨plainId_quiet plain_dul _, ?_⟩
  refine loop_pairs (A := X.A.in1) (knd := mixKind X.prog X.w) hh (d := s.heap.objs.size) (it := h1.objs.size) (l := p) (items := its.toArray) (ks := vs) (Nat.ne_of_lt ltd) (Nat.ne_of_lt ltp) (Nat.ne_of_lt (Nat.lt_trans ltp ltd)) (by rw [List.size_toArray, hil, hl, hvl]) (by rw [List.size_toArray, hil, hl]; exact hz) its.toArray.size 0 _ [] _ (by omega) (Nat.zero_le _) ?_ ?_ ?_ (Nat.le_refl _) ?_ ?_
  · exact itr
  · exact lst2
  · exact dct2
  · intro j k v hj
    obtain ⟨t, key, a1, ⟨o, a2, a3⟩, a4⟩ := hvt j k v hj
    have ltt := lt _ _ a2
    exact ⟨t, key, by rw [List.getElem?_toArray]; exact hti j t a1, ⟨o, up _ _ (k1 _ _ (old _ _ a2)), a3⟩, kV_is a4, Nat.ne_of_lt ltt, Nat.ne_of_lt (Nat.lt_trans ltt ltd)⟩
  · intro h' tk hd' kp
    rw [List.drop_zero, merged_nil_of_nodup vs (by rw [hvk]; exact hnd)] at hd'
    refine ⟨rfl, .ref s.heap.objs.size, _, I.laid (a := s.heap.objs.size) (o := .dK kvs) (t' := tk) (fun b o e => ?_) (Nat.le_refl _) ?_, rfl, q _ (I.hok.fresh (Nat.le_refl _))⟩
    · have ltb := lt b o e
      exact kp b o (Nat.ne_of_lt ltb) (Nat.ne_of_lt (Nat.lt_trans ltb ltd)) (up _ _ (k1 _ _ (old _ _ e)))
    · exact dk_new (Nat.le_trans hz (by rw [sizeLine_eq]; decide)) (beq_eq_false_iff_ne.mpr (Ne.symm (Nat.ne_of_lt I.big))) hkv hd'
end L2


set_option Elab.async false
set_option linter.all false
set_option maxRecDepth 100000
set_option maxHeartbeats 4000000
namespace L2
open PySem PySem.W PySem.Spec PySem.Calls PyProof.Rows
/-! ### d.update(e): other keys -/
/-! ### x in range(n) -/
end L2


set_option Elab.async false
set_option linter.all false
set_option maxRecDepth 100000
set_option maxHeartbeats 4000000
namespace L2
open PySem PySem.Spec PyProof.Rows
/-! ### the call of what an expression tells -/
section
variable {X : Cx} {k : Nat} {e a : Expr} {es : List Expr} {pos : Pos} {te : TE} {t : TA}
end
end L2


set_option Elab.async false
set_option linter.all false
set_option maxRecDepth 100000
set_option maxHeartbeats 4000000
namespace L2
open PySem PySem.Spec PyProof.Rows
/-- a dict of the top, keyed by texts: what it holds at x -/
def KHas (K : PySem.W.Frag) (P : Params) (a : Addr) (x : Str) (r : Option V) : Prop :=
  ∃ (es : Array DictEntry) (n : Nat), K.lookup a = some ⟨.type "dict", none, .dict es n, #[]⟩ ∧ PySem.W.KeysLit P es.toList ∧ (a == sysModules) = false ∧ ∃ q, PySem.W.nsIn K a x = some q ∧ RelO r q
def tKGet (K : PySem.W.Frag) (P : Params) (td ty : TE) : TE := fun σ H Q => td σ H fun x H1 => ty σ H1 fun y H2 => ∃ a k v, x = .ref a ∧ y = .str k ∧ KHas K P a k (some v) ∧ Q v H2
section
variable {X : Cx} {o i : Expr} {pos : Pos} {td ty : TE}
theorem pe_kget (ho : PE X o td) (hi : PE X i ty) (hs : NoSl i) : PE X (.Subscript o i pos) (tKGet X.K X.w.params td ty) := by
  intro pins s σ H Q I h
  refine subD_of PySem.F.slot_dict_getitem.lookup hs (thn (ho pins s σ H _ I h) fun u s1 ⟨x, H1, I1, rx, q1⟩ => thn (hi pins s1 σ H1 _ I1 q1) fun iv s2 ⟨y, H2, I2, ry, a, k, v, ex, ey, g, q2⟩ => ?_)
  subst ex ey
  obtain rfl : u = Value.ref a := rx
  obtain ⟨t, rfl⟩ := ry
  obtain ⟨es, n, hl, hk, hm, q, hq, rq⟩ := g
  obtain ⟨w', hw, rw'⟩ := RelO.some_of (v := v) (o := q) rq
  subst hw
  have mo := PySem.W.mapOf_K (prog := X.prog) (w := X.w) I2.kIn hl hk
  exact ⟨mo.typeIs, wpAny_getItem_of (strKind_is X.prog X.w k t) mo (PySem.W.find_K hl hq) ⟨v, H2, I2.tok _, rw', q2⟩⟩
end
end L2


set_option Elab.async false
set_option linter.all false
set_option maxRecDepth 100000
set_option maxHeartbeats 4000000
namespace L2
open PySem PySem.Spec PyProof.Rows
/-! ### d.get(k, x) of a dict of the top -/
section
variable {X : Cx} {o e f : Expr} {apos cpos : Pos} {td ty tx : TE}
end
end L2


set_option Elab.async false
set_option linter.all false
set_option maxRecDepth 100000
set_option maxHeartbeats 4000000
namespace L2
open PySem PySem.Spec PyProof.Rows
theorem noFill_tuple_mul : fillsNumberSlot (.type "tuple") "mul" = pure false :=
  PySem.fillsNumberSlot_seq (id := "tuple.__mul__") (r := some (.builtin "tuple.__rmul__")) PySem.F.slot_tuple_mul.lookup (by decide +kernel) PySem.F.slot_tuple_rmul.lookup (by decide +kernel)
theorem repeat_tuple : seqRepeat? (.type "tuple") = pure (some (.builtin "tuple.__mul__")) := by
  unfold seqRepeat?
  rw [PySem.seqSlot_of (T := "tuple") (name := "__mul__") (id := "tuple.__mul__") PySem.F.slot_tuple_mul.lookup (by decide +kernel), PySem.seqSlot_of (T := "tuple") (name := "__rmul__") (id := "tuple.__rmul__") PySem.F.slot_tuple_rmul.lookup (by decide +kernel)]
  rfl
theorem int_rmul_tuple (a : Int) (t : Tok) (l : Addr) (items : Array Value) (n : Nat) (dd : Option Addr) (sl : Array (Option Value)) :
    Meets (Builtin.«int.__rmul__» ⟨[.int a t, .ref l], []⟩) (fun _ R s => s.heap.get? l = some { cls := .type "tuple", dict := dd, data := .seq items n, slots := sl } ∧ R (.ok (.ret Value.notImplemented)) s) :=
  .of_wp fun prog w A R s h => by obtain ⟨hp, g, d, tk, os⟩ := s; obtain ⟨hl, h⟩ := h; wp_walk; exact ⟨_, rfl, h⟩
theorem tuple_mul1 (l : Addr) (items : Array Value) (n : Nat) (dd : Option Addr) (sl : Array (Option Value)) (t : Tok) :
    Meets (Builtin.«tuple.__mul__» ⟨[.ref l, .int 1 t], []⟩) (fun _ R s => s.heap.get? l = some { cls := .type "tuple", dict := dd, data := .seq items n, slots := sl } ∧ R (.ok (.ret (.ref l))) s) :=
  .of_wp fun prog w A R s h => by obtain ⟨hp, g, d, tk, os⟩ := s; obtain ⟨hl, h⟩ := h; have f1 := AutoSeq1.idx_int; wp_walk; exact ⟨_, rfl, h⟩
theorem tuple_mulN (l : Addr) (items : Array Value) (n : Nat) (dd : Option Addr) (sl : Array (Option Value)) (x : Int) (t : Tok) (h0 : items.isEmpty = false) (h1 : 1 < x) (h2 : x < 2 ^ 62) (h3 : items.size * x.toNat ≤ sizeLine) :
    Meets (Builtin.«tuple.__mul__» ⟨[.ref l, .int x t], []⟩) (fun _ R s => s.heap.get? l = some { cls := .type "tuple", dict := dd, data := .seq items n, slots := sl } ∧ R (.ok (.ret (.ref s.heap.objs.size))) { s with heap := s.heap.push { cls := .type "tuple", data := .seq ((List.replicate x.toNat items).foldl (· ++ ·) #[]) } }) :=
  .of_wp fun prog w A R s h => by
    obtain ⟨hp, g, d, tk, os⟩ := s; obtain ⟨hl, h⟩ := h; have f1 := AutoSeq1.idx_int
    have c1 : (decide (x < -2 ^ 63) || decide (x ≥ 2 ^ 63)) = false := by
      rw [decide_eq_false (by omega), decide_eq_false (by omega)]
      rfl
    have c2 : (items.isEmpty || x == 1) = false := by
      rw [h0, show (x == 1) = false from beq_eq_false_iff_ne.mpr (by omega)]
      rfl
    have c3 : (decide (x ≤ 0) || items.isEmpty) = false := by
      rw [h0, decide_eq_false (by omega)]
      rfl
    have hm : (items.size : Int) * x = ((items.size * x.toNat : Nat) : Int) := by
      rw [Int.natCast_mul, Int.toNat_of_nonneg (by omega)]
    have hb : (sizeLine : Nat) ≤ 1000000000000000000 := by decide
    have c4 : decide ((items.size : Int) * x > (2 ^ 63 - 1) / 8) = false := decide_eq_false (by rw [hm]; omega)
    have c5 : Builtin.Tuple.tupleTooMany ((items.size : Int) * x) = false := by
      unfold Builtin.Tuple.tupleTooMany
      exact decide_eq_false (by rw [hm]; omega)
    wp_walk
    refine wpAny_ite_false (decide_eq_false (by rw [c1]; decide)) ?_
    wp_walk
    refine wpAny_ite_false (decide_eq_false (by rw [c2]; decide)) ?_
    wp_walk
    refine wpAny_ite_false (decide_eq_false (by rw [c3]; decide)) ?_
    wp_walk
    refine wpAny_ite_false c4 ?_
    wp_walk
    refine wpAny_ite_false (decide_eq_false (by rw [c5]; decide)) ?_
    wp_walk
    have hsz : (List.foldl (fun x1 x2 => x1 ++ x2) #[] (List.replicate x.toNat items)).size ≤ sizeLine := by
      have e := foldl_rep items.toList x.toNat []
      rw [List.nil_append] at e
      have e2 : items.toList.toArray = items := by simp
      rw [e2] at e
      rw [show (#[] : Array Value) = ([] : List Value).toArray from rfl, e, List.size_toArray, len_rep]
      rw [Array.length_toList, Nat.mul_comm]
      exact h3
    refine wpAny_ite_false (decide_eq_false (Nat.not_lt.mpr hsz)) ?_
    wp_walk
    exact ⟨_, rfl, h⟩
/-! ### t * n -/
def rRepT (K : PySem.W.Frag) : R2 := fun x y H Q => ∃ a k xs, x = .ref a ∧ y = .int k ∧ SqT K H a xs ∧ xs ≠ [] ∧ 1 ≤ k ∧ k < 2 ^ 62 ∧ xs.length * k.toNat ≤ sizeLine ∧ (k = 1 → Q (.ref a) H) ∧ (k ≠ 1 → ∀ p, H p = none → Q (.ref p) (upd H p (.tup (List.replicate k.toNat xs).flatten)))
theorem op_repT {X : Cx} : OpR X (binaryOp .Mult) (rRepT X.K) := by
  intro pins s σ H x y v u Q I rx ry h
  obtain ⟨a, k, xs, rfl, rfl, ha, hne, k1, k2, hz, q1, q2⟩ := h
  cases rx
  obtain ⟨t, rfl⟩ := ry
  obtain ⟨its, r, p, _⟩ := I.tuple ha
  obtain ⟨⟨cls, dd, data, sl⟩, ho, hc, n, hd⟩ := id p
  simp only at hc hd
  subst hc hd
  have hlen := r.length
  by_cases e : k = 1
  · subst e
    refine wpAny_binaryOp_repeat_ref (T := "tuple") (U := "int") (by decide) ⟨_, ho, rfl⟩ (fun s' => typeIs_int s' 1 t) noFill_tuple_mul PySem.F.fills_int_mul PySem.F.slot_int_rmul repeat_tuple PySem.F.slot_int_index.lookup
      (call_meets PySem.F.slot_int_rmul (typeIs_int s 1 t) PySem.F.entry_int_rmul (PySem.F.args_int_rmul_2 _ _) (int_rmul_tuple 1 t a its.toArray n dd sl)
        ⟨ho, rfl, ⟨_, ho, rfl⟩, call_meets PySem.F.slot_tuple_mul ⟨_, ho, rfl⟩ PySem.F.entry_tuple_mul (PySem.F.args_tuple_mul_2 _ _) (tuple_mul1 a its.toArray n dd sl t) ⟨ho, ?_⟩⟩)
    exact ⟨.ref a, H, I, rfl, q1 rfl⟩
  · have hne2 : its ≠ [] := fun z => hne (by cases xs with | nil => rfl | cons _ _ => rw [z] at hlen; simp at hlen)
    refine wpAny_binaryOp_repeat_ref (T := "tuple") (U := "int") (by decide) ⟨_, ho, rfl⟩ (fun s' => typeIs_int s' k t) noFill_tuple_mul PySem.F.fills_int_mul PySem.F.slot_int_rmul repeat_tuple PySem.F.slot_int_index.lookup
      (call_meets PySem.F.slot_int_rmul (typeIs_int s k t) PySem.F.entry_int_rmul (PySem.F.args_int_rmul_2 _ _) (int_rmul_tuple k t a its.toArray n dd sl)
        ⟨ho, rfl, ⟨_, ho, rfl⟩, call_meets PySem.F.slot_tuple_mul ⟨_, ho, rfl⟩ PySem.F.entry_tuple_mul (PySem.F.args_tuple_mul_2 _ _) (tuple_mulN a its.toArray n dd sl k t (by cases its with | nil => exact absurd rfl hne2 | cons _ _ => simp) (by omega) k2 (by rw [List.size_toArray, ← hlen]; exact hz)) ⟨ho, ?_⟩⟩)
    have hnew : List.foldl (fun x1 x2 => x1 ++ x2) #[] (List.replicate k.toNat its.toArray) = (List.replicate k.toNat its).flatten.toArray := by
      have := foldl_rep its k.toNat []
      rw [List.nil_append] at this
      exact this
    rw [hnew]
    refine ⟨.ref s.heap.objs.size, _, I.laid (t' := s.toks) (o := .tup (List.replicate k.toNat xs).flatten) (fun b ob q => Heap.get?_push_of_some _ q) (Nat.le_refl _) ?_, rfl, q2 e _ (I.hok.fresh (Nat.le_refl _))⟩
    exact ⟨by rw [len_rep, Nat.mul_comm]; exact hz, _, r.rep k.toNat, IsTup.new _ _⟩
end L2


set_option Elab.async false
set_option linter.all false
set_option maxRecDepth 100000
set_option maxHeartbeats 4000000
namespace L2
open PySem PySem.Spec PyProof.Rows
theorem comp_enum {K : PySem.W.Frag} {a : Addr} {xs : List V} {g : TG} {tt : TT} {te : TE} {R : Hp → Prop} {D : Addr} {σ0 : St} {H0 : Hp} (Pv : Nat → St → List V → Hp → Prop) (h0 : Pv 0 σ0 [] H0) (hl : ∀ i σ ys H, i ≤ xs.length → Pv i σ ys H → SqL K H a xs)
    (hs : ∀ i x σ ys H t, xs[i]? = some x → H t = none → Pv i σ ys H → g (.ref t) σ (upd H t (.tup [.int i, x])) fun σ2 H2 => tt σ2 H2 fun b H3 =>
      if b = true then te σ2 H3 fun v H4 => H4 D = some (.lst ys) ∧ ys.length < sizeLine ∧ Pv (i + 1) σ2 (ys ++ [v]) (upd H4 D (.lst (ys ++ [v]))) else Pv (i + 1) σ2 ys H3)
    (hd : ∀ σ ys H, Pv xs.length σ ys H → R H) :
    ∃ W : Nat → Nat → St → List V → Hp → Prop, (∃ m, W 0 m σ0 [] H0) ∧ ∀ i m σ ys H, W i m σ ys H →
      ((Ite K a).stop i H ∧ R H) ∨ ((Ite K a).go i H ∧ ∃ N : St → List V → Hp → Prop, (∀ σ' ys' H', N σ' ys' H' → ∃ m', m' < m ∧ W (i + 1) m' σ' ys' H') ∧ ∀ x H', (Ite K a).yld i H x H' → g x σ H' fun σ2 H2 => tt σ2 H2 fun b H3 =>
        if b = true then te σ2 H3 fun v H4 => H4 D = some (.lst ys) ∧ ys.length < sizeLine ∧ N σ2 (ys ++ [v]) (upd H4 D (.lst (ys ++ [v]))) else N σ2 ys H3) := by
  refine ⟨fun i m σ ys H => m = xs.length - i ∧ i ≤ xs.length ∧ Pv i σ ys H, ⟨xs.length, by simp, Nat.zero_le _, h0⟩, ?_⟩
  rintro i m σ ys H ⟨rfl, hi, p⟩
  have q := hl i σ ys H hi p
  by_cases hlt : i < xs.length
  · refine .inr ⟨⟨xs, xs[i], q, by simp [hlt]⟩, Pv (i + 1), fun σ' ys' H' p' => ⟨xs.length - (i + 1), by omega, rfl, hlt, p'⟩, fun x H' y => ?_⟩
    obtain ⟨t, y, hn, e1, e2, hy⟩ := y
    subst e1 e2
    exact hs i y σ ys _ t (hy xs q) hn p
  · have e : i = xs.length := by omega
    subst e
    exact .inl ⟨⟨xs, q, Nat.le_refl _⟩, hd σ ys H p⟩
theorem tuple_mul0 (l : Addr) (items : Array Value) (n : Nat) (dd : Option Addr) (sl : Array (Option Value)) (t : Tok) (h0 : items.isEmpty = false) :
    Meets (Builtin.«tuple.__mul__» ⟨[.ref l, .int 0 t], []⟩) (fun _ R s => s.heap.get? l = some { cls := .type "tuple", dict := dd, data := .seq items n, slots := sl } ∧ R (.ok (.ret (.ref s.heap.objs.size))) { s with heap := s.heap.push { cls := .type "tuple", data := .seq #[] } }) :=
  .of_wp fun prog w A R s h => by
    obtain ⟨hp, g, d, tk, os⟩ := s
    obtain ⟨hl, h⟩ := h
    have f1 := AutoSeq1.idx_int
    have c2 : (items.isEmpty || (0 : Int) == 1) = false := by rw [h0]; rfl
    wp_walk
    exact ⟨_, rfl, h⟩
/-- t * 0, t * 1 -/
def rRep01 (K : PySem.W.Frag) : R2 := fun x y H Q => ∃ a k xs, x = .ref a ∧ y = .int k ∧ SqT K H a xs ∧ xs ≠ [] ∧ (k = 0 ∨ k = 1) ∧ (k = 1 → Q (.ref a) H) ∧ (k = 0 → ∀ p, H p = none → Q (.ref p) (upd H p (.tup [])))
theorem op_rep01 {X : Cx} : OpR X (binaryOp .Mult) (rRep01 X.K) := by
  intro pins s σ H x y v u Q I rx ry h
  obtain ⟨a, k, xs, rfl, rfl, ha, hne, hk, q1, q0⟩ := h
  rcases hk with rfl | rfl
  · cases rx
    obtain ⟨t, rfl⟩ := ry
    obtain ⟨its, r, p, _⟩ := I.tuple ha
    obtain ⟨⟨cls, dd, data, sl⟩, ho, hc, n, hd⟩ := id p
    simp only at hc hd
    subst hc hd
    have hlen := r.length
    have hne2 : its ≠ [] := fun z => hne (by cases xs with | nil => rfl | cons _ _ => rw [z] at hlen; simp at hlen)
    refine wpAny_binaryOp_repeat_ref (T := "tuple") (U := "int") (by decide) ⟨_, ho, rfl⟩ (fun s' => typeIs_int s' 0 t) noFill_tuple_mul PySem.F.fills_int_mul PySem.F.slot_int_rmul repeat_tuple PySem.F.slot_int_index.lookup
      (call_meets PySem.F.slot_int_rmul (typeIs_int s 0 t) PySem.F.entry_int_rmul (PySem.F.args_int_rmul_2 _ _) (int_rmul_tuple 0 t a its.toArray n dd sl)
        ⟨ho, rfl, ⟨_, ho, rfl⟩, call_meets PySem.F.slot_tuple_mul ⟨_, ho, rfl⟩ PySem.F.entry_tuple_mul (PySem.F.args_tuple_mul_2 _ _) (tuple_mul0 a its.toArray n dd sl t (by cases its with | nil => exact absurd rfl hne2 | cons _ _ => simp)) ⟨ho, ?_⟩⟩)
    refine ⟨.ref s.heap.objs.size, _, I.laid (t' := s.toks) (o := .tup []) (fun b ob q => Heap.get?_push_of_some _ q) (Nat.le_refl _) ?_, rfl, q0 rfl _ (I.hok.fresh (Nat.le_refl _))⟩
    exact ⟨Nat.zero_le _, [], .nil, IsTup.new _ _⟩
  · refine op_repT pins s σ H _ _ v u Q I rx ry ⟨a, 1, xs, rfl, rfl, ha, hne, by decide, by decide, ?_, q1, fun z => absurd rfl z⟩
    obtain ⟨its, r, p, hz⟩ := I.tuple ha
    have : xs.length * Int.toNat 1 = xs.length := Nat.mul_one _
    rw [this]
    exact hz
end L2


set_option Elab.async false
set_option linter.all false
namespace L2
open PySem PySem.Spec PyProof.Rows
/-! ### a block cut at a place: what is true there -/
def tMid (t u : TS) : TS := fun D σ H => ∃ J : St → Hp → Prop, t { D with nx := J } σ H ∧ ∀ σ' H', J σ' H' → u D σ' H'
theorem pss_mid {X : Cx} {st : Stmt} {rest : List Stmt} {t u : TS} (h1 : PS X st t) (h2 : PSs X rest u) : PSs X (st :: rest) (tMid t u) := by
  intro pins s σ H D I h
  obtain ⟨J, h, hJ⟩ := h
  refine wpAny_execs_cons (thn (h1 pins s σ H { D with nx := J } I h) fun f s1 q => ?_)
  cases f with
  | next =>
    obtain ⟨σ', H', I', q⟩ := q
    exact h2 pins s1 σ' H' D I' (hJ _ _ q)
  | ret v => exact q
  | brk => exact q
  | cont => exact q
/-- an expression whose ways come together -/
def eMid (t : TE) : TE := fun σ H Q => ∃ J : VK, t σ H J ∧ ∀ v H', J v H' → Q v H'
theorem pe_mid {X : Cx} {e : Expr} {t : TE} (h : PE X e t) : PE X e (eMid t) := by
  intro pins s σ H Q I q
  obtain ⟨J, q, hJ⟩ := q
  exact thn (h pins s σ H J I q) fun v s1 ⟨x, H1, I1, r, q1⟩ => ⟨x, H1, I1, r, hJ _ _ q1⟩
/-- t + u, the outcome told in one way -/
def rCatQ (K : PySem.W.Frag) : R2 := fun x y H Q => ∃ a b xs ys, x = .ref a ∧ y = .ref b ∧ H a = some (.tup xs) ∧ SqT K H b ys ∧ xs ≠ [] ∧ xs.length + ys.length ≤ sizeLine ∧ ∀ p H', Same H H' → H' p = some (.tup (xs ++ ys)) → Q (.ref p) H'
theorem op_catQ {X : Cx} : OpR X (binaryOp .Add) (rCatQ X.K) := by
  intro pins s σ H x y v u Q I rx ry h
  obtain ⟨a, b, xs, ys, e1, e2, ha, hb, hx, hz, q⟩ := h
  refine op_catT pins s σ H x y v u Q I rx ry ⟨a, b, xs, ys, e1, e2, SqT.of ha, hb, hx, hz, fun e => q _ _ (fun b o h => h) (by rw [ha, e, List.append_nil]), fun _ p n => q _ _ (fun b o h => ?_) upd_same⟩
  rw [upd_ne (ne_of_none h n)]
  exact h
end L2


set_option Elab.async false
set_option linter.all false
namespace L2
open PySem PySem.Spec PyProof.Rows
/-! ### texts put together: told by one function of the names -/
section
variable {X : Cx}
end
end L2
namespace L2
open PySem PySem.Spec PyProof.Rows
/-! ### what they come to -/
section
variable {σ : St}
end
end L2
namespace L2
open PySem PySem.Spec PyProof.Rows
/-! ### statements with such lists: shut off (else Lean runs through the display at each look) -/
structure PSx (X : Cx) (st : Stmt) (t : TS) : Prop where
  ps : PS X st t
structure PSsx (X : Cx) (b : List Stmt) (t : TS) : Prop where
  ps : PSs X b t
section
variable {X : Cx}
theorem psx_of {st : Stmt} {t : TS} (h : PS X st t) : PSx X st t := ⟨h⟩
theorem psx_if {c : Expr} {a b : List Stmt} {tc : TT} {t u : TS} {pos : Pos} (hc : PT X c tc) (ha : PSsx X a t) (hb : PSsx X b u) : PSx X (.If c a b pos) (tIfS tc t u) := ⟨ps_if hc ha.ps hb.ps⟩
theorem pssx_nil {t : TS} (h : PSs X [] t) : PSsx X [] t := ⟨h⟩
theorem pssx_cons {st : Stmt} {b : List Stmt} {t u : TS} (h : PSx X st t) (k : PSsx X b u) : PSsx X (st :: b) (tSeq t u) := ⟨pss_cons h.ps k.ps⟩
theorem pssx_mid {st : Stmt} {b : List Stmt} {t u : TS} (h : PSx X st t) (k : PSsx X b u) : PSsx X (st :: b) (tMid t u) := ⟨pss_mid h.ps k.ps⟩
theorem pssx_one {st : Stmt} {t : TS} (h : PSx X st t) : PSsx X [st] t := ⟨pss_one h.ps⟩
theorem wrapX {b : List Stmt} {t : TS} {R : TS → Prop} (h : PSsx X b t) (hr : R t) : ∃ t, PSs X b t ∧ R t := ⟨t, h.ps, hr⟩
end
end L2
namespace L2
open PySem PySem.Spec PyProof.Rows
/-! ### whole numbers put together, and their texts -/
section
variable {X : Cx}
end
end L2


set_option Elab.async false
set_option linter.all false
set_option maxRecDepth 100000
set_option maxHeartbeats 4000000
namespace L2
open PySem PySem.Spec PyProof.Rows
section
variable {X : Cx}
end
end L2


set_option Elab.async false
set_option linter.all false
set_option maxRecDepth 100000
set_option maxHeartbeats 4000000
namespace L2
open PySem PySem.Spec PyProof.Rows
section
variable {X : Cx}
end
end L2


set_option Elab.async false
set_option linter.all false
set_option maxRecDepth 100000
set_option maxHeartbeats 4000000
namespace L2
open PySem PySem.Spec PyProof.Rows
/-! ### things as data, of any depth; == and != of two of them -/
inductive Da where
  | non | bl (b : Bool) | int (i : Int) | str (s : Str) | tup (l : List Da) | lst (l : List Da)
mutual
def Da.beq : Da → Da → Bool
  | .non, .non => true
  | .bl a, .bl b => a == b
  | .int a, .int b => decide (a = b)
  | .str a, .str b => decide (a = b)
  | .tup a, .tup b => Da.beqs a b
  | .lst a, .lst b => Da.beqs a b
  | _, _ => false
def Da.beqs : List Da → List Da → Bool
  | [], [] => true
  | a :: r, b :: t => Da.beq a b && Da.beqs r t
  | _, _ => false
end
mutual
theorem Da.beq_iff : ∀ a b : Da, Da.beq a b = true ↔ a = b
  | .non, b => by cases b <;> simp [Da.beq]
  | .bl x, b => by cases b <;> simp [Da.beq]
  | .int x, b => by cases b <;> simp [Da.beq]
  | .str x, b => by cases b <;> simp [Da.beq]
  | .tup x, b => by
    cases b <;> simp [Da.beq]
    exact Da.beqs_iff _ _
  | .lst x, b => by
    cases b <;> simp [Da.beq]
    exact Da.beqs_iff _ _
theorem Da.beqs_iff : ∀ a b : List Da, Da.beqs a b = true ↔ a = b
  | [], b => by cases b <;> simp [Da.beqs]
  | x :: r, [] => by simp [Da.beqs]
  | x :: r, y :: t => by
    simp [Da.beqs]
    rw [Da.beq_iff x y, Da.beqs_iff r t]
end
instance : DecidableEq Da := fun a b => decidable_of_iff _ (Da.beq_iff a b)
/-- v is the thing that d tells -/
inductive DaAt (K : PySem.W.Frag) (H : Hp) : V → Da → Prop
  | non : DaAt K H .non .non
  | bl (b : Bool) : DaAt K H (.bl b) (.bl b)
  | int (i : Int) : DaAt K H (.int i) (.int i)
  | str (x : Str) : DaAt K H (.str x) (.str x)
  | tup {p : Addr} {xs : List V} {ds : List Da} : SqT K H p xs → xs.length = ds.length → (∀ (i : Nat) x d, xs[i]? = some x → ds[i]? = some d → DaAt K H x d) → DaAt K H (.ref p) (.tup ds)
  | lst {p : Addr} {xs : List V} {ds : List Da} : SqL K H p xs → xs.length = ds.length → (∀ (i : Nat) x d, xs[i]? = some x → ds[i]? = some d → DaAt K H x d) → DaAt K H (.ref p) (.lst ds)
/-- no truth within -/
inductive Da.Nb : Nat → Da → Prop
  | non {n} : Da.Nb n .non
  | int {n i} : Da.Nb n (.int i)
  | str {n i} : Da.Nb n (.str i)
  | tup {n l} : (∀ d ∈ l, Da.Nb n d) → Da.Nb (n + 1) (.tup l)
  | lst {n l} : (∀ d ∈ l, Da.Nb n d) → Da.Nb (n + 1) (.lst l)
theorem beqs_range : ∀ (a b : List Da), a.length = b.length → ((List.range a.length).all fun i => decide (a[i]? = b[i]?)) = decide (a = b) := fun a b h => by
  by_cases e : a = b
  · subst e
    simp
  · rw [decide_eq_false e]
    rw [Bool.eq_false_iff]
    intro z
    apply e
    apply List.ext_getElem? 
    intro i
    by_cases hi : i < a.length
    · have := (List.all_eq_true.mp z) i (List.mem_range.mpr hi)
      exact of_decide_eq_true this
    · rw [List.getElem?_eq_none (by omega), List.getElem?_eq_none (by omega)]
section
variable {X : Cx} {pins : List (Addr × Obj)} {σ : St} {H : Hp} {s : Shared}
theorem arr_at {its : List Value} {xs : List V} (r : Vals xs its) {j : Nat} (h : j < its.toArray.size) : ∃ x, xs[j]? = some x ∧ RelV x its.toArray[j] := by
  have l := r.length
  have j1 : j < xs.length := by simp at h; omega
  have z1 : xs[j]? = some xs[j] := List.getElem?_eq_getElem j1
  obtain ⟨u1, w1, q1⟩ := r.get z1
  have e1 : its.toArray[j] = u1 := by
    have : its[j]? = some its[j] := List.getElem?_eq_getElem (by omega)
    rw [this] at w1
    simpa using w1
  exact ⟨_, z1, by rw [e1]; exact q1⟩
theorem not_both {p : Addr} {i1 i2 : Array Value} (t1 : s.heap.IsTuple p i1) (t2 : s.heap.IsList p i2) : False := by
  obtain ⟨o, e, c1, n, d⟩ := t1
  obtain ⟨o', e', c2, n', d'⟩ := t2
  rw [e] at e'; cases e'
  rw [c1] at c2
  exact absurd c2 (by decide)
theorem da_one (I : Inv X pins σ H s) {x : V} {a b : Da} (ha : DaAt X.K H x a) (hb : DaAt X.K H x b) : a = b := by
  induction ha generalizing b with
  | non => cases hb; rfl
  | bl _ => cases hb; rfl
  | int _ => cases hb; rfl
  | str _ => cases hb; rfl
  | @tup p xs ds hp hl hd ih =>
    cases hb with
    | @tup q ys es hq hl2 hd2 =>
      have exy : xs = ys := I.tuple_inj hp hq
      subst exy
      refine congrArg Da.tup ?_
      apply List.ext_getElem (by omega)
      intro j h1 h2
      have g0 : xs[j]? = some xs[j] := List.getElem?_eq_getElem (by omega)
      have g1 : ds[j]? = some ds[j] := List.getElem?_eq_getElem h1
      have g2 : es[j]? = some es[j] := List.getElem?_eq_getElem h2
      exact ih j _ _ g0 g1 (hd2 j _ _ g0 g2)
    | @lst q ys es hq hl2 hd2 =>
      obtain ⟨i1, r1, t1, _⟩ := I.tuple hp
      obtain ⟨i2, r2, t2, _⟩ := I.list hq
      exact (not_both t1 t2.isList).elim
  | @lst p xs ds hp hl hd ih =>
    cases hb with
    | @lst q ys es hq hl2 hd2 =>
      have exy : xs = ys := I.list_inj hp hq
      subst exy
      refine congrArg Da.lst ?_
      apply List.ext_getElem (by omega)
      intro j h1 h2
      have g0 : xs[j]? = some xs[j] := List.getElem?_eq_getElem (by omega)
      have g1 : ds[j]? = some ds[j] := List.getElem?_eq_getElem h1
      have g2 : es[j]? = some es[j] := List.getElem?_eq_getElem h2
      exact ih j _ _ g0 g1 (hd2 j _ _ g0 g2)
    | @tup q ys es hq hl2 hd2 =>
      obtain ⟨i1, r1, t1, _⟩ := I.tuple hq
      obtain ⟨i2, r2, t2, _⟩ := I.list hp
      exact (not_both t1 t2.isList).elim
/-- two rows of things, side by side -/
theorem rows_at {A : Around} {m : Nat} {xs ys : List V} {ds es : List Da} {i1 i2 : List Value} (r1 : Vals xs i1) (r2 : Vals ys i2) (hl : xs.length = ds.length) (hl2 : ys.length = es.length)
    (ih : ∀ (j : Nat) x d y e u v, xs[j]? = some x → ds[j]? = some d → ys[j]? = some y → es[j]? = some e → RelV x u → RelV y v → SeqAt.EqAt A s u v (decide (d = e)))
    (j : Nat) (h1 : j < i1.toArray.size) (h2 : j < i2.toArray.size) : SeqAt.EqAt A s i1.toArray[j] i2.toArray[j] (decide (ds[j]? = es[j]?)) := by
  obtain ⟨x1, z1, q1⟩ := arr_at r1 h1
  obtain ⟨x2, z2, q2⟩ := arr_at r2 h2
  have k1 := (List.getElem?_eq_some_iff.mp z1).1
  have k2 := (List.getElem?_eq_some_iff.mp z2).1
  have g1 : ds[j]? = some (ds[j]'(by omega)) := List.getElem?_eq_getElem (by omega)
  have g2 : es[j]? = some (es[j]'(by omega)) := List.getElem?_eq_getElem (by omega)
  have r := ih j x1 _ x2 _ _ _ z1 g1 z2 g2 q1 q2
  have e : decide (ds[j]? = es[j]?) = decide (ds[j]'(by omega) = es[j]'(by omega)) := by rw [g1, g2]; simp
  rw [e]
  exact r
theorem tup_b {xs ys : List V} {ds es : List Da} {i1 i2 : List Value} (r1 : Vals xs i1) (r2 : Vals ys i2) (hl : xs.length = ds.length) (hl2 : ys.length = es.length) :
    ((List.range (min i1.toArray.size i2.toArray.size)).all (fun j => decide (ds[j]? = es[j]?)) && i1.toArray.size == i2.toArray.size) = decide (ds = es) := by
  have l1 := r1.length
  have l2 := r2.length
  by_cases z : ds.length = es.length
  · have y := beqs_range ds es z
    have s1 : i1.toArray.size = ds.length := by simp; omega
    have s2 : i2.toArray.size = ds.length := by simp; omega
    rw [s1, s2, Nat.min_self, y]
    simp
  · rw [decide_eq_false (fun y => z (by rw [y]))]
    have : (i1.toArray.size == i2.toArray.size) = false := by simp; omega
    rw [this, Bool.and_false]
theorem lst_b {xs ys : List V} {ds es : List Da} {i1 i2 : List Value} (r1 : Vals xs i1) (r2 : Vals ys i2) (hl : xs.length = ds.length) (hl2 : ys.length = es.length) (z : ds.length = es.length) :
    ((List.range i1.toArray.size).all (fun j => decide (ds[j]? = es[j]?))) = decide (ds = es) := by
  have l1 := r1.length
  have s1 : i1.toArray.size = ds.length := by simp; omega
  rw [s1, beqs_range ds es z]
theorem dec_tup (ds es : List Da) : decide (Da.tup ds = Da.tup es) = decide (ds = es) := decide_eq_decide.mpr ⟨Da.tup.inj, congrArg _⟩
theorem dec_lst (ds es : List Da) : decide (Da.lst ds = Da.lst es) = decide (ds = es) := decide_eq_decide.mpr ⟨Da.lst.inj, congrArg _⟩
theorem da_at {A : Around} {n : Nat} (hu : A.units + n < cLine) (I : Inv X pins σ H s) {x y : V} {a b : Da} (ha : DaAt X.K H x a) (hb : DaAt X.K H y b) (na : a.Nb n) (nb : b.Nb n) {u v : Value} (ru : RelV x u) (rv : RelV y v) : SeqAt.EqAt A s u v (decide (a = b)) := by
  induction ha generalizing A n y b u v with
  | non =>
    obtain rfl : u = Value.none := ru
    cases hb with
    | non => obtain rfl : v = Value.none := rv; exact SeqAt.EqAt.same _
    | bl _ => cases nb
    | int j => obtain ⟨t, rfl⟩ := rv; exact SeqAt.EqAt.none_int _ _
    | str j => obtain ⟨t, rfl⟩ := rv; exact SeqAt.EqAt.none_str _ _
    | tup hq => cases rv; obtain ⟨its, r1, p1, _⟩ := I.tuple hq; exact SeqAt.EqAt.none_tuple p1 (by omega)
    | lst hq => cases rv; obtain ⟨its, r1, p1, _⟩ := I.list hq; exact SeqAt.EqAt.none_list p1.isList (by omega)
  | bl _ => cases na
  | int i =>
    obtain ⟨t0, rfl⟩ := ru
    cases hb with
    | non => obtain rfl : v = Value.none := rv; exact SeqAt.EqAt.int_none _ _
    | bl _ => cases nb
    | int j =>
      obtain ⟨t, rfl⟩ := rv
      have := SeqAt.EqAt.int_int (A := A) (s := s) i t0 j t
      have e : (i == j) = decide (Da.int i = Da.int j) := by
        by_cases z : i = j
        · subst z; simp
        · rw [decide_eq_false (fun y => z (Da.int.inj y))]; simp [z]
      rwa [e] at this
    | str j => obtain ⟨t, rfl⟩ := rv; exact SeqAt.EqAt.int_str _ _ _ _
    | tup hq => cases rv; obtain ⟨its, r1, p1, _⟩ := I.tuple hq; exact SeqAt.EqAt.int_tuple _ _ p1 (by omega)
    | lst hq => cases rv; obtain ⟨its, r1, p1, _⟩ := I.list hq; exact SeqAt.EqAt.int_list _ _ p1.isList (by omega)
  | str i =>
    obtain ⟨t0, rfl⟩ := ru
    cases hb with
    | non => obtain rfl : v = Value.none := rv; exact SeqAt.EqAt.str_none _ _
    | bl _ => cases nb
    | int j => obtain ⟨t, rfl⟩ := rv; exact SeqAt.EqAt.str_int _ _ _ _
    | str j =>
      obtain ⟨t, rfl⟩ := rv
      have := SeqAt.EqAt.str_str (A := A) (s := s) i t0 j t
      have e : (i == j) = decide (Da.str i = Da.str j) := by
        by_cases z : i = j
        · subst z; simp
        · rw [decide_eq_false (fun y => z (Da.str.inj y))]; simp [z]
      rwa [e] at this
    | tup hq => cases rv; obtain ⟨its, r1, p1, _⟩ := I.tuple hq; exact SeqAt.EqAt.str_tuple _ _ p1 (by omega)
    | lst hq => cases rv; obtain ⟨its, r1, p1, _⟩ := I.list hq; exact SeqAt.EqAt.str_list _ _ p1.isList (by omega)
  | @tup p xs ds hp hl hd ih =>
    cases ru
    obtain ⟨i1, r1, t1, _⟩ := I.tuple hp
    cases hb with
    | non => obtain rfl : v = Value.none := rv; exact SeqAt.EqAt.tuple_none t1 (by omega)
    | bl _ => cases nb
    | int j => obtain ⟨t, rfl⟩ := rv; exact SeqAt.EqAt.tuple_int _ _ t1 (by omega)
    | str j => obtain ⟨t, rfl⟩ := rv; exact SeqAt.EqAt.tuple_str _ _ t1 (by omega)
    | @tup q ys es hq hl2 hd2 =>
      cases rv
      by_cases c : p = q
      · subst c
        have := da_one I (DaAt.tup hp hl hd) (DaAt.tup hq hl2 hd2)
        rw [decide_eq_true this]
        exact SeqAt.EqAt.same _
      cases na with
      | @tup m l na =>
      cases nb with
      | @tup m l nb =>
      obtain ⟨i2, r2, t2, _⟩ := I.tuple hq
      have key := SeqAt.RcAt.tuples (A := A) (s := s) (e := fun j => decide (ds[j]? = es[j]?)) t1 t2 (by omega) (rows_at (m := m) r1 r2 hl hl2 fun j x d y e u v h1 h2 h3 h4 ru rv =>
        ih j x d h1 h2 (A := A.in1) (n := m) (by show A.units + 1 + m < cLine; omega) (hd2 j y e h3 h4) (na _ (List.mem_of_getElem? h2)) (nb _ (List.mem_of_getElem? h4)) ru rv)
      rw [tup_b r1 r2 hl hl2] at key
      rw [dec_tup]
      exact SeqAt.EqAt.of_refs c key
    | @lst q ys es hq hl2 hd2 =>
      cases rv
      obtain ⟨i2, r2, t2, _⟩ := I.list hq
      by_cases c : p = q
      · subst c
        exact (not_both t1 t2.isList).elim
      · exact SeqAt.EqAt.of_refs c (SeqAt.RcAt.tuple_list t1 t2.isList (by omega))
  | @lst p xs ds hp hl hd ih =>
    cases ru
    obtain ⟨i1, r1, t1, _⟩ := I.list hp
    cases hb with
    | non => obtain rfl : v = Value.none := rv; exact SeqAt.EqAt.list_none t1.isList (by omega)
    | bl _ => cases nb
    | int j => obtain ⟨t, rfl⟩ := rv; exact SeqAt.EqAt.list_int _ _ t1.isList (by omega)
    | str j => obtain ⟨t, rfl⟩ := rv; exact SeqAt.EqAt.list_str _ _ t1.isList (by omega)
    | @lst q ys es hq hl2 hd2 =>
      cases rv
      by_cases c : p = q
      · subst c
        have := da_one I (DaAt.lst hp hl hd) (DaAt.lst hq hl2 hd2)
        rw [decide_eq_true this]
        exact SeqAt.EqAt.same _
      cases na with
      | @lst m l na =>
      cases nb with
      | @lst m l nb =>
      obtain ⟨i2, r2, t2, _⟩ := I.list hq
      have l1 := r1.length
      have l2 := r2.length
      rw [dec_lst]
      by_cases z : ds.length = es.length
      · have key := SeqAt.RcAt.lists (A := A) (s := s) (e := fun j => decide (ds[j]? = es[j]?)) t1.isList t2.isList (by simp; omega) (by omega) (rows_at (m := m) r1 r2 hl hl2 fun j x d y e u v h1 h2 h3 h4 ru rv =>
          ih j x d h1 h2 (A := A.in1) (n := m) (by show A.units + 1 + m < cLine; omega) (hd2 j y e h3 h4) (na _ (List.mem_of_getElem? h2)) (nb _ (List.mem_of_getElem? h4)) ru rv)
        rw [lst_b r1 r2 hl hl2 z] at key
        exact SeqAt.EqAt.of_refs c key
      · rw [decide_eq_false (fun y => z (by rw [y]))]
        exact SeqAt.EqAt.of_refs c (SeqAt.RcAt.lists_lengths t1.isList t2.isList (by simp; omega) (by omega))
    | @tup q ys es hq hl2 hd2 =>
      cases rv
      obtain ⟨i2, r2, t2, _⟩ := I.tuple hq
      by_cases c : p = q
      · subst c
        exact (not_both t2 t1.isList).elim
      · exact SeqAt.EqAt.of_refs c (SeqAt.RcAt.list_tuple t1.isList t2 (by omega))
end
/-- a list or a tuple and another -/
def rEqA (K : PySem.W.Frag) (ne : Bool) : R2 := fun x y H Q => ∃ (n : Nat) (p q : Addr) (a b : Da), x = .ref p ∧ y = .ref q ∧ DaAt K H x a ∧ DaAt K H y b ∧ a.Nb n ∧ b.Nb n ∧ n ≤ 6 ∧ Q (.bl (ne ^^ decide (a = b))) H
section
variable {X : Cx}
theorem op_eqA (hu : X.A.units + 6 < cLine) : OpR X (compareOp .Eq) (rEqA X.K false) := by
  intro pins s σ H x y v u Q I rx ry h
  obtain ⟨n, p, q, a, b, rfl, rfl, ha, hb, na, nb, hn, k⟩ := h
  cases rx
  cases ry
  rw [Bool.false_xor] at k
  cases ha with
  | @tup p xs ds hp hl hd =>
    obtain ⟨i1, r1, t1, _⟩ := I.tuple hp
    cases hb with
    | @tup q ys es hq hl2 hd2 =>
      cases na with
      | @tup m l na =>
      cases nb with
      | @tup m l nb =>
      obtain ⟨i2, r2, t2, _⟩ := I.tuple hq
      have key := SeqAt.RcAt.tuples (A := X.A) (s := s) (e := fun j => decide (ds[j]? = es[j]?)) t1 t2 (by omega) (rows_at (m := m) r1 r2 hl hl2 fun j x d y e u v h1 h2 h3 h4 ru rv =>
        da_at (A := X.A.in1) (n := m) (by show X.A.units + 1 + m < cLine; omega) I (hd j x d h1 h2) (hd2 j y e h3 h4) (na _ (List.mem_of_getElem? h2)) (nb _ (List.mem_of_getElem? h4)) ru rv)
      rw [tup_b r1 r2 hl hl2] at key
      rw [dec_tup] at k
      exact key _ _ _ _ ⟨.bl _, H, I, rfl, k⟩
    | @lst q ys es hq hl2 hd2 =>
      obtain ⟨i2, r2, t2, _⟩ := I.list hq
      exact (SeqAt.RcAt.tuple_list (A := X.A) t1 t2.isList (by omega)) _ _ _ _ ⟨.bl _, H, I, rfl, k⟩
  | @lst p xs ds hp hl hd =>
    obtain ⟨i1, r1, t1, _⟩ := I.list hp
    cases hb with
    | @lst q ys es hq hl2 hd2 =>
      cases na with
      | @lst m l na =>
      cases nb with
      | @lst m l nb =>
      obtain ⟨i2, r2, t2, _⟩ := I.list hq
      have l1 := r1.length
      have l2 := r2.length
      rw [dec_lst] at k
      by_cases z : ds.length = es.length
      · have key := SeqAt.RcAt.lists (A := X.A) (s := s) (e := fun j => decide (ds[j]? = es[j]?)) t1.isList t2.isList (by simp; omega) (by omega) (rows_at (m := m) r1 r2 hl hl2 fun j x d y e u v h1 h2 h3 h4 ru rv =>
          da_at (A := X.A.in1) (n := m) (by show X.A.units + 1 + m < cLine; omega) I (hd j x d h1 h2) (hd2 j y e h3 h4) (na _ (List.mem_of_getElem? h2)) (nb _ (List.mem_of_getElem? h4)) ru rv)
        rw [lst_b r1 r2 hl hl2 z] at key
        exact key _ _ _ _ ⟨.bl _, H, I, rfl, k⟩
      · rw [decide_eq_false (fun y => z (by rw [y]))] at k
        exact (SeqAt.RcAt.lists_lengths (A := X.A) t1.isList t2.isList (by simp; omega) (by omega)) _ _ _ _ ⟨.bl _, H, I, rfl, k⟩
    | @tup q ys es hq hl2 hd2 =>
      obtain ⟨i2, r2, t2, _⟩ := I.tuple hq
      exact (SeqAt.RcAt.list_tuple (A := X.A) t1.isList t2 (by omega)) _ _ _ _ ⟨.bl _, H, I, rfl, k⟩
end
end L2


set_option Elab.async false
set_option linter.all false
set_option maxRecDepth 100000
set_option maxHeartbeats 4000000
namespace L2
open PySem PySem.Spec PyProof.Rows
section
variable {X : Cx}
/-! ### sorted(list of ints), list.remove(int) -/
end
end L2


set_option Elab.async false
set_option linter.all false
set_option maxRecDepth 100000
set_option maxHeartbeats 4000000
namespace L2
open PySem PySem.W PySem.Spec PySem.Calls PyProof.Rows
/-! ### a heap with some of its objects taken away -/
def lessObj (S : List Addr) (i : Nat) (o : Obj) : Obj := if i ∈ S then { o with data := .freed } else o
def less (h : Heap) (S : List Addr) : Heap := { h with objs := h.objs.mapIdx (lessObj S) }
theorem less_in {h : Heap} {S : List Addr} {b : Addr} (hb : b ∈ S) : (less h S).get? b = none := by
  unfold Heap.get? less
  simp only [Array.getElem?_mapIdx]
  cases e : h.objs[b]? with
  | none => rfl
  | some o =>
    simp only [Option.map_some, lessObj, if_pos hb]
theorem less_out {h : Heap} {S : List Addr} {b : Addr} (hb : b ∉ S) : (less h S).get? b = h.get? b := by
  unfold Heap.get? less
  simp only [Array.getElem?_mapIdx]
  cases e : h.objs[b]? with
  | none => rfl
  | some o =>
    simp only [Option.map_some, lessObj, if_neg hb]
theorem less_stays {h : Heap} {S : List Addr} : (less h S).StaysIn h := fun b o e => by
  by_cases hb : b ∈ S
  · rw [less_in hb] at e; cases e
  · rwa [less_out hb] at e
theorem less_funs {h base : Heap} {S : List Addr} : ∀ {l : List Env}, h.FunFrames base l → (∀ b ∈ frs l, b ∈ S) → h.FunFrames (less h S) l
  | [], _, _ => trivial
  | env :: r, ⟨hk, ⟨L, o, hf, hn, ho, hd⟩, hr⟩, hs => by
    have e : frs (env :: r) = L :: frs r := by unfold frs; rw [List.filterMap_cons, hf]
    rw [e] at hs
    exact ⟨hk, ⟨L, o, hf, less_in (hs L (by simp)), ho, hd⟩, less_funs hr fun b hb => hs b (by simp [hb])⟩
/-! ### how an exception lies behind a call -/
theorem ObjOk.some_ {P : Program} {w : World} {H : Hp} {h : Heap} {a : Addr} {o : HO} (x : ObjOk P w H h a o) : ∃ u, h.get? a = some u := by
  cases o with
  | lst xs => obtain ⟨_, _, _, _, e⟩ := x; exact ⟨_, e⟩
  | tup xs => obtain ⟨_, _, _, ob, e, _⟩ := x; exact ⟨_, e⟩
  | dK kvs => obtain ⟨_, _, _, _, o, _, _, e, _⟩ := x; exact ⟨_, e⟩
  | dT kvs => obtain ⟨_, _, _, _, o, _, _, e, _⟩ := x; exact ⟨_, e⟩
  | set S n => obtain ⟨o, _, _, _, e, _⟩ := x; exact ⟨_, e⟩
  | ins C dx fs => obtain ⟨_, _, _, e, _⟩ := x; exact ⟨_, e⟩
  | own y => exact x
  | xd fs => obtain ⟨_, ⟨_, _, _, e, _⟩, _⟩ := x; exact ⟨_, e⟩
  | rng lo hi => obtain ⟨_, _, _, e⟩ := x; exact ⟨_, e⟩
  | frz ob u => obtain ⟨e, _⟩ := x; exact ⟨_, e⟩
  | tbl ps => exact ⟨_, (show h.get? a = some _ from x)⟩
  | met f y => exact ⟨_, (show h.get? a = some _ from x)⟩
  | ext φ => exact x.2.1
/-- an own class of exceptions without an __init__ of its own, as the top has written it -/
structure XCls (K : PySem.W.Frag) (C : Addr) (bmB : List Value) (newId : String) : Prop where
  isIn : excIn K C bmB newId = true
theorem XCls.obj {K : PySem.W.Frag} {C : Addr} {bmB : List Value} {newId : String} {h₀ : Heap} (c : XCls K C bmB newId) (X : K.In h₀) : ∃ bm N nm q bs hdct sn sub ab col dd k0 k1 k2 k3 k5 mN,
      h₀.get? C = some (excClassObj nm q C N bs bm hdct sn sub ab col dd k0 k1 k2 k3 k5 newId) ∧ h₀.Ns N mN ∧ mN (Str.ofString "__init__") = none ∧ OwnTail h₀ bmB bm := by
  have q := c.isIn
  unfold excIn at q
  split at q
  · rename_i dd cd sl ho
    split at q
    · rename_i C' bm k0 k1 k2 k3 n k5 hm hs
      simp only [Bool.and_eq_true, beq_iff_eq, Bool.not_eq_true'] at q
      obtain ⟨⟨⟨⟨⟨rfl, rfl⟩, hdel⟩, ht⟩, hok⟩, hni⟩ := q
      obtain ⟨nm, bs, mro, ns, qn, hd, sn, sub, ab, col, del⟩ := cd
      dsimp only at hm hdel hok hni
      subst hm hdel
      have hsl : sl = #[k0, k1, k2, k3, some (.builtin n), k5] := by
        obtain ⟨l⟩ := sl
        simp only at hs
        rw [hs]
      subst hsl
      exact ⟨bm, ns, nm, qn, bs, hd, sn, sub, ab, col, dd, k0, k1, k2, k3, k5, _, X _ _ ho, .of_isNs (isNs_of_in X hok), nsMap_none_of_in X hok hni, tail_of_in X ht⟩
    · cases q
  · cases q
section
variable {P : Program} {w : World} {K : PySem.W.Frag} {mg : Str → Option Value} {base : Heap} {N : List Str} {qual : Str} {scope : Scope} {f : Addr} {cd : Value} {A : Around} {outer : List Env} {s₀ : Shared} {H₀ : Hp} {E : XK}
end
end L2


set_option Elab.async false
set_option linter.all false
set_option maxRecDepth 100000
set_option maxHeartbeats 4000000
namespace L2
open PySem PySem.W PySem.Spec PySem.Calls PyProof.Rows
/-- a def by its body, exceptions and all -/
theorem Fun.okX {P : Program} {w : World} {K : PySem.W.Frag} {mg : Str → Option Value} {base : Heap} {CX : CXT} {x qual : Str} {st : Stmt} {f : Addr} {fd : FuncData} {N ps : List Str} {k : Nat} {sp : Sp} (F : Fun K x qual st f fd) (S : FnScope N ps (defScope st)) (len : ∀ vs H Q E, sp vs H Q E → vs.length = ps.length)
    (hbody : ∀ (cdv : Value) (A : Around) (outer : List Env) (s : Shared) (H : Hp) (vs : List V) (Q : VK) (E : XK), Room k (A.deeper (envOfC qual (defScope st) s.heap.objs.size f cdv)) → sp vs H Q E →
      ∃ t, PSs (cxOf CX P w K mg base N qual (defScope st) f cdv A outer s H E) (defBody st) t ∧ t { nx := fun _ H' => Q .non H', rt := Q } (start N vs) H) : FnOk P w K mg base CX (k + 1) f fd ps sp := by
  obtain ⟨oc, od, kV, doc, pm, an, cdv, ct, osl, rfl, lk, hcd⟩ := F.ex
  exact fn_of lk hcd S len fun A outer s H vs Q E hr hsp => hbody cdv A outer s H vs Q E hr hsp
section
variable {X : Cx} {pins : List (Addr × Obj)} {σ : St}
/-- what flies stands apart from B: over another heap -/
theorem fly_less {B h : Heap} {l : List Env} {ea : Addr} {cls a0 : Value} (fly : B.FlyingW l ea cls a0 h) : ∃ T, B.get? ea = none ∧ B.get? T = none ∧ (less h (frs l ++ [ea, T])).FlyingW l ea cls a0 h := by
  obtain ⟨f1, f2, f3, oe, vs, T, oT, ts, g1, g2, g3, g4, g5, g6, g7, g8, g9⟩ := fly
  exact ⟨T, f2, g5, less_stays, less_in (by simp), less_funs f3 (fun b hb => by simp [hb]), oe, vs, T, oT, ts, g1, g2, g3, g4, less_in (by simp), g6, g7, g8, g9⟩
end
end L2


set_option Elab.async false
set_option linter.all false
set_option maxRecDepth 100000
set_option maxHeartbeats 4000000
namespace L2
open PySem PySem.W PySem.Spec PySem.Calls PyProof.Rows
section
variable {X : Cx} {pins : List (Addr × Obj)} {σ : St} {H : Hp} {s : Shared}
/-- a name is taken away again (behind an except suite) -/
theorem forget_ok {M : Model} {A : Around} {E : Value → Shared → Prop} {i : Nat} {x : Str} {pos : Pos} {Q : Unit → Shared → Prop} (I : Inv X pins σ H s) (hN : X.N.Nodup) (hi : X.N[i]? = some x) (hk : X.env.kindOf x = some .local)
    (h : ∀ s', Inv X pins (σ.set i none) H s' → Q () s') : wpAny M A (do bindName X.env x .none; unbindBehindTheSuite X.env x pos) Q E s := by
  obtain ⟨m, hn, hl⟩ := id I.loc
  have hcls : (X.env.scope.kind == .class || (X.env.scope.kind == .module && X.env.locals != X.env.globals)) = false := by rw [I.ok.kind]; rfl
  have hiσ : i < σ.length := by rw [I.len]; exact (List.getElem?_eq_some_iff.mp hi).1
  have cne := I.cne
  have tracked : ∀ {a : Addr} {h' : Heap}, (∃ o, s.heap.get? a = some o ∧ H a = none) → Heap.SameBut a s.heap h' → HOk X.prog X.w H h' := fun {a h'} ha hs b ob e => by
    obtain ⟨_, _, hfree⟩ := ha
    refine (I.hok b ob e).stay (fun c w' hc q => (hs.2 c ?_).trans q) (fun _ q => q) fun _ _ q => q
    rintro rfl
    rcases hc with rfl | hc
    · rw [hfree] at e; cases e
    · rw [hfree] at hc; cases hc
  refine wpAny_nameGoes_keeps hk hn hcls fun h' v hn' hs => ?_
  obtain ⟨oL, _, _, hoL, _⟩ := id hn
  refine h _ ⟨I.ok, I.os, I.bare, ⟨fun b o e n hb hx => ?_, fun b o e n hb hx => ?_, I.base.free, fun b o e hx => ?_, I.base.tups, I.base.frzs, I.base.tbls⟩, ⟨_, hn', fun j y v' e1 e2 e3 => ?_⟩, fun y c e => ?_, I.free, I.freeC, fun p hp => ?_, tracked ⟨oL, hoL, I.free⟩ hs, by simpa using I.len⟩
  · exact (hs.2 b (Nat.ne_of_lt (Nat.lt_of_lt_of_le (Heap.lt_size e) I.ok.above))).trans (I.base.keep b o e n hb hx)
  · obtain ⟨sl, e1⟩ := I.base.slot b o e n hb hx
    exact ⟨sl, (hs.2 b (Nat.ne_of_lt (Nat.lt_of_lt_of_le (Heap.lt_size e) I.ok.above))).trans e1⟩
  · obtain ⟨o', e1⟩ := I.base.there b o e hx
    exact ⟨o', (hs.2 b (Nat.ne_of_lt (Nat.lt_of_lt_of_le (Heap.lt_size e) I.ok.above))).trans e1⟩
  · by_cases hj : j = i
    · subst hj
      rw [List.getElem?_set_self hiσ] at e2
      cases e2
    · rw [List.getElem?_set_ne (Ne.symm hj)] at e2
      obtain ⟨u', r', q⟩ := hl j y v' e1 e2 e3
      refine ⟨u', r', ?_⟩
      rcases q with ⟨k, e⟩ | ⟨k, c, e, z⟩
      · refine .inl ⟨k, ?_⟩
        have : y ≠ x := fun e => hj (nodup_ix hN e1 (e ▸ hi))
        simp [this, e]
      · exact .inr ⟨k, c, e, z.sameBut hs (cne y c e)⟩
  · obtain ⟨w', z⟩ := I.cell y c e
    exact ⟨w', z.sameBut hs (cne y c e)⟩
  · obtain ⟨e, n, ne, nf, d⟩ := I.pin p hp
    exact ⟨(hs.2 p.1 ne).trans e, n, ne, nf, d⟩
/-- within an except suite, the exception at ea -/
abbrev Cx.inSuite (X : Cx) (ea : Addr) : Cx := { X with A := X.A.mark (some (.ref ea)), calm := false, xe := fun _ _ => False }
theorem Inv.suite (I : Inv X pins σ H s) (ea : Addr) : Inv (X.inSuite ea) pins σ H s :=
  ⟨⟨I.ok.mod, I.ok.kind, I.ok.glob, I.ok.blt, I.ok.above, I.ok.inj, I.ok.has, I.ok.cab, (fun z => by cases z), I.ok.frames, I.ok.stk, I.ok.exf, I.ok.bs, I.ok.bsz, I.ok.noex, I.ok.exfs, I.ok.funs, I.ok.frf⟩, I.os, I.bare, I.base, I.loc, I.cell, I.free, I.freeC, I.pin, I.hok, I.len⟩
theorem Inv.unsuite {ea : Addr} (ok : X.Ok) (I : Inv (X.inSuite ea) pins σ H s) : Inv X pins σ H s := ⟨ok, I.os, I.bare, I.base, I.loc, I.cell, I.free, I.freeC, I.pin, I.hok, I.len⟩
end
end L2


set_option Elab.async false
set_option linter.all false
set_option maxRecDepth 100000
set_option maxHeartbeats 4000000
namespace L2
open PySem PySem.W PySem.Spec PySem.Calls PyProof.Rows
/-- the ends of an except suite: the name at i goes -/
def Ends.less (D : Ends) (i : Nat) : Ends := { nx := fun σ H => D.nx (σ.set i none) H, rt := D.rt, bk := fun σ H => D.bk (σ.set i none) H, ct := fun σ H => D.ct (σ.set i none) H }
section
variable {X : Cx} {k : Nat} {f C cR : Addr} {fd : FuncData} {ps : List Str} {sp : Sp} {dvs : List V} {ds : List Value} {x m n : Str} {np pos apos p2 p3 p4 : Pos} {o : Expr} {ta : TE} {ts : TS} {i : Nat} {b₀ : Stmt} {suite : List Stmt} {L : Addr}
end
end L2


set_option Elab.async false
set_option linter.all false
set_option maxRecDepth 100000
set_option maxHeartbeats 4000000
namespace L2
open PySem PySem.W PySem.Spec PySem.Calls PyProof.Rows PySem.Builtin PySem.Builtin.ObjectAttr PySem.Builtin.Getset_descriptor
section
variable {prog : Program} {w : World} {A : Around} {E : Value → Shared → Prop} {s : Shared} {K : PySem.W.Frag} {x C : Addr}
theorem class_getL {R : Result → Shared → Prop} {tp : Value} (X : K.In s.heap) (L0 : Looks (model prog w) s.heap (typeOf (.ref x)) (.ref C)) (hm : mroIn K C (.type "object") = some true)
    (h : R (.ok (.ret (.ref C))) s) : codeAny (model prog w) A (.call (.builtin "getset_descriptor.__get__") ⟨[.builtin "object.__class__", .ref x, tp], []⟩) R s := by
  obtain ⟨hh, g, dr, t, os⟩ := s
  have L1 := looks_mroIn (M := model prog w) X hm
  refine codeAny_call_builtin KF.slot_gs.plain KF.entry_gs (KF.slot_gs.check _ _ _ _ _ _ _ _ KF.type_class (KF.args_gs _ _ _) ?_)
  unfold Builtin.«getset_descriptor.__get__» descrGet
  rw [dga_obj]
  refine wpAny_bind (wpAny_pure ?_)
  unfold descrGetter descrCheckInstance descrNameAndClass isInstance
  simp only [KF.owner_class]
  repeat lk
  refine ⟨Code.quiet_builtin _ (by decide +kernel), codeAny_builtin KF.entry_class ?_⟩
  unfold Builtin.«object.__class__» shownTypeOf
  repeat lk
  exact h
/-- what the top tells of a class of exceptions, for reading __class__ -/
structure XRead (K : PySem.W.Frag) (C : Addr) : Prop where
  ga : findIn K (.ref C) "__getattribute__" = some (some (.builtin "BaseException.__getattribute__"))
  gh : findIn K (.ref C) "__getattr__" = some none
  cl : findIn K (.ref C) "__class__" = some (some (.builtin "object.__class__"))
  gt : specialIn K (.builtin "object.__class__") "__get__" = some (some (.builtin "getset_descriptor.__get__"))
  tk : takesIn K (.builtin "object.__class__") = some true
  ob : mroIn K C (.type "object") = some true
  bx : mroIn K C (.type "BaseException") = some true
  ci : (clsIn K C).isSome = true
theorem looks_findD {M : Model} {h : Heap} (X : K.In h) {self : Value} {name : Str} {a g : Value} (ha : findIn K (.ref C) name = some (some a)) (hg : specialIn K a "__get__" = some (some g)) (ht : takesIn K a = some true) : Looks M h (find self (.ref C) name) (.bind g a) := by
  have L1 := looks_findIn (M := M) X ha
  have L2 : Looks M h (getOf (some a)) (some g) := looks_specialIn X hg
  have L3 := looks_takesIn (M := M) X ht
  exact L1.andThen (L2.andThen ((show Looks M h (dataDescriptor? (some a) (some g)) (some (g, a)) from L3.andThen .now).andThen (Looks.tag .now)))
theorem check_exc {M : Model} {nameV : Value} {Q : Unit → Shared → Prop} (L0 : Looks M s.heap (typeOf (.ref x)) (.ref C)) (L3 : Looks M s.heap (isSubtype (.ref C) (.type "BaseException")) true) (hq : Q () s) : wpAny M A (checkBuiltinCall "BaseException.__getattribute__" ⟨[.ref x, nameV], []⟩) Q E s := by
  have hk : builtinKind "BaseException.__getattribute__" = some .slot := by decide +kernel
  have hsplit : splitId "BaseException.__getattribute__" = some ("BaseException", "__getattribute__") := by decide +kernel
  have ha := F.args_bexc_ga (.ref x) nameV
  obtain ⟨hh, g, d, t, os⟩ := s
  simp only [checkBuiltinCall, hk, hsplit]
  refine wpAny_bind ?_
  · unfold isInstance
    repeat (first | lk | wp_step)
    exact hq
theorem entry_exc {Q : Fin → Shared → Prop} {tk : Tok} (X : K.In s.heap) (R : XRead K C) (L0 : Looks (model prog w) s.heap (typeOf (.ref x)) (.ref C)) (hq : Q (.done (.ret (.ref C))) s) : wpAny (model prog w) A (Builtin.«object.__getattribute__» ⟨[.ref x, .str "__class__" tk], []⟩) Q E s := by
  have L4 := looks_findD (M := model prog w) X (self := .ref x) R.cl R.gt R.tk
  have hc := fun (R' : Result → Shared → Prop) (h : R' (.ok (.ret (.ref C))) s) => class_getL (prog := prog) (w := w) (A := A) (tp := .ref C) X L0 R.ob h
  unfold Builtin.«object.__getattribute__»
  refine wpAny_bind (wpAny_pure (wpAny_bind (wpAny_pure (wpAny_bind (L0.here (wpAny_bind (L4.here ?_)))))))
  show wpAny _ _ (bindTo _ _ _ _) _ _ _
  unfold bindTo
  dsimp only
  first
    | exact wpAny_bind (wpAny_holding (wpAny_call (hc _ (wpAny_pure hq))))
    | exact wpAny_bind (wpAny_call (hc _ (wpAny_pure hq)))
    | exact wpAny_bind (wpAny_bind (wpAny_holding (wpAny_call (hc _ (wpAny_pure hq)))))
/-- e.__class__ as isinstance reads it -/
theorem exc_class {Q : Option Value → Shared → Prop} {Bn : String} (FB : ExcAttrFacts Bn) (X : K.In s.heap) (R : XRead K C) (L0 : Looks (model prog w) s.heap (typeOf (.ref x)) (.ref C)) (h : Q (some (.ref C)) { s with toks := s.toks + 1 }) : wpAny (model prog w) A (getAttr? (.ref x) "__class__") Q E s := by
  obtain ⟨hh, g, d, t, os⟩ := s
  have L1 := looks_findIn (M := model prog w) X R.ga
  have L2 := looks_findIn (M := model prog w) X R.gh
  have L3 := looks_mroIn (M := model prog w) X R.bx
  have L4 := looks_findD (M := model prog w) X (self := .ref x) R.cl R.gt R.tk
  have hk : builtinKind "BaseException.__getattribute__" = some .slot := by decide +kernel
  have hsplit : splitId "BaseException.__getattribute__" = some ("BaseException", "__getattribute__") := by decide +kernel
  unfold getAttr? getAttrBy? getAttrBy
  refine wpAny_bind (wpAny_mkText (wpAny_bind (wpAny_attempt (wpAny_holding (wpAny_bind (L0.at (wpAny_bind (L1.at ?_))))))))
  show wpAny _ _ (getAttrByItsOwn _ _ _ _ _ _) _ _ _
  unfold getAttrByItsOwn hookBefore
  rw [if_pos (show onTheHeap (Value.ref C) = true from rfl)]
  refine wpAny_bind (L2.at (wpAny_bind (wpAny_attempt (wpAny_holding ?_))))
  unfold callGetattribute
  rw [if_neg (show ¬ (false && onTheHeap (Value.builtin "BaseException.__getattribute__")) = true from by decide)]
  unfold boundAndCalled
  rw [FB.ga.bind (.ref x)]
  refine wpAny_bind (wpAny_pure (wpAny_call ?_))
  refine codeAny_call_builtin FB.ga.plain F.entry_bexc_ga ?_
  refine check_exc L0 L3 (entry_exc X R L0 ?_)
  exact wpAny_pure (wpAny_pure h)
end
end L2


set_option Elab.async false
set_option linter.all false
set_option maxRecDepth 100000
set_option maxHeartbeats 4000000
namespace L2
open PySem PySem.W PySem.Spec PySem.Calls PyProof.Rows
theorem kitx_exc {K : PySem.W.Frag} {C ea : Addr} {Bn : String} (R : XRead K C) (FB : ExcAttrFacts Bn) : KitX K (.ref ea) (.ref C) (fun h => ∃ o, h.get? ea = some o ∧ o.cls = .ref C) where
  ty := fun M h _ ⟨o, h1, h2⟩ => h2 ▸ (Looks.ld h1).andThen .now
  it := fun _ _ X _ => by
    obtain ⟨cdD, hcD⟩ := Option.isSome_iff_exists.mp R.ci
    unfold clsIn at hcD
    split at hcD
    · rename_i c' d' cd' sl' ho
      intro A' Q' E' s' k q
      unfold isType loadHead
      exact wpAny_bind (wpAny_loadPart (k _ _ (X _ _ ho)) (wpAny_pure q))
    · cases hcD
  ne := fun h tp dd its n sl X htp => by
    obtain ⟨cdD, hcD⟩ := Option.isSome_iff_exists.mp R.ci
    refine Bool.eq_false_iff.mpr fun q => ?_
    have e : C = tp := Value.ref.inj (beq_iff_eq.mp q)
    subst e
    unfold clsIn at hcD
    split at hcD
    · rename_i c' d' cd' sl' ho
      have z := (X _ _ ho).symm.trans htp
      cases z
    · cases hcD
  ca := fun X p k => by
    obtain ⟨o, h1, h2⟩ := p
    exact exc_class FB X R (h2 ▸ (Looks.ld h1).andThen .now) k
section
variable {X : Cx} {C : Addr} {Bn : String}
end
end L2


set_option Elab.async false
set_option linter.all false
set_option maxRecDepth 100000
set_option maxHeartbeats 4000000
namespace L2
open PySem PySem.W PySem.Spec PySem.Calls PyProof.Rows
/-! ### exceptions with attributes of their own: their dict stays while they fly -/
def Dct (h : Heap) (e : Addr) (od : Option Addr) : Prop := ∃ o, h.get? e = some o ∧ o.dict = od
theorem dict_mapFields (o : Obj) (f : Array Value → Array Value) : (Obj.mapFields f o).dict = o.dict := by
  unfold Obj.mapFields
  split <;> rfl
section
variable {M : Model} {A : Around} {XE : Value → Shared → Prop} {s : Shared} {B : Heap} {env : Env} {outer l : List Env} {L e : Addr} {cls a0 fl : Value} {od : Option Addr} {Q : Unit → Shared → Prop}
theorem noRec {h : Heap} {e b : Addr} {oe o : Obj} {vs : Array Value} (he : h.get? e = some oe) (hd : oe.data = .fields vs) (hb : h.get? b = some o) (n : ∀ vs, o.data ≠ .fields vs) : b ≠ e := fun z => by
  subst z
  cases he.symm.trans hb
  exact n vs hd
theorem entryD {oe : Obj} {vs : Array Value} {head : Value} {hn : Bool} (fr : A.frames = some (env :: outer)) (fu : s.heap.FunFrames B (env :: outer)) (hf : env.frame = some L) (he : s.heap.get? e = some oe) (st : B.StaysIn s.heap) (ne : B.get? e = none)
    (hd : oe.data = .fields vs) (sz : 1 < vs.size) (h0 : vs[0]? = some a0) (k : ∀ h', Heap.NotedW B (env :: outer) e oe.cls a0 (rawInt L) s.heap h' → Dct h' e oe.dict → Q () { s with heap := h' }) :
    wpAny M A (do
      let a ← frameOf env
      let pl ← entryPlaceOf L hn
      let b ← EntryCells.newEntry head a .none (rawInt L) .none pl
      setField (.ref e) 1 b) Q XE s := by
  have nf : e ∉ frs (env :: outer) := fun z => by
    obtain ⟨_, o, ho, n⟩ := fu.mem z
    cases he.symm.trans ho
    exact n vs hd
  refine wpAny_bind (wpAny_frameOf_fun fr fu hf fun g kg => ?_)
  have e1 : g.get? e = some oe := (kg.2.1 e nf).trans he
  have key : ∀ (tb : Obj) (ts : Array Value), tb.data = .fields ts → ts[3]? = some (rawInt L) → wpAny M A (setField (.ref e) 1 (.ref g.objs.size)) Q XE { s with heap := g.push tb } := fun tb ts td t3 => by
    have e2 := Heap.get?_push_of_some tb e1
    have nT : g.objs.size ≠ e := Nat.ne_of_gt (Heap.lt_size e1)
    have d3 := Obj.data_mapFields hd (·.setIfInBounds 1 (Value.ref g.objs.size))
    have e3 := Heap.get?_update_self (Obj.mapFields (·.setIfInBounds 1 (Value.ref g.objs.size))) e2 (Obj.isFreed_of_fields d3)
    have hT : (g.push tb).get? g.objs.size = some tb := Heap.get?_push_size g (Obj.isFreed_of_fields td)
    have hT3 := (Heap.get?_update_other (g.push tb) (Obj.mapFields (·.setIfInBounds 1 (Value.ref g.objs.size))) nT.symm).trans hT
    have keep : ∀ b o, b ≠ e → g.get? b = some o → ((g.push tb).update e (Obj.mapFields (·.setIfInBounds 1 (Value.ref g.objs.size)))).get? b = some o := fun b o n hb => (Heap.get?_update_other _ _ n.symm).trans (Heap.get?_push_of_some _ hb)
    have stg : B.StaysIn g := fun b o hb => (kg.2.1 b fun z => by
      have := (fu.mem z).1
      rw [hb] at this
      cases this).trans (st b o hb)
    refine wpAny_setField e2 hd sz (k _ ⟨fun b o hb => keep b o (fun z => by rw [z, ne] at hb; cases hb) (stg b o hb), fu.of_keeps fun b o hb n => ?_, ?_, fun b o hb n => ?_⟩ ⟨_, e3, dict_mapFields _ _⟩)
    · obtain ⟨sl, hs⟩ := kg.2.2 b o hb
      exact ⟨_, keep b _ (noRec he hd hb n) hs, rfl⟩
    · exact ⟨_, _, g.objs.size, _, _, e3, ⟨Obj.cls_mapFields _ _, by rw [Array.getElem?_setIfInBounds_ne (by decide)]; exact h0⟩, d3, by simp [sz], stg.fresh, nT, hT3, td, t3⟩
    · obtain ⟨sl, hs⟩ := kg.2.2 b o hb
      exact ⟨sl, keep b _ (noRec he hd hb n) hs⟩
  refine wpAny_bind (wpAny_entryPlaceOf fun pl hp => ?_)
  unfold EntryCells.newEntry newFields
  refine wpAny_bind (wpAny_newObj_type ?_ (hp.sizeOk5 _ _ _ _ _))
  exact key _ _ rfl (by first | (simp; done) | (rcases hp with rfl | ⟨_, _, _, _, _, _, _, rfl⟩ <;> simp))
theorem noteFirstD {oe : Obj} {vs : Array Value} (fr : A.frames = some (env :: outer)) (fu : s.heap.FunFrames B (env :: outer)) (hf : env.frame = some L) (he : s.heap.get? e = some oe) (st : B.StaysIn s.heap) (ne : B.get? e = none)
    (hd : oe.data = .fields vs) (h1 : vs[1]? = some .none) (h0 : vs[0]? = some a0) (k : ∀ h', Heap.NotedW B (env :: outer) e oe.cls a0 (rawInt L) s.heap h' → Dct h' e oe.dict → Q () { s with heap := h' }) :
    wpAny M A (noteFrame (.ref e) env) Q XE s := by
  unfold noteFrame
  simp only [hf]
  refine wpAny_bind (wpAny_field he hd h1 ?_)
  rw [if_neg (by decide)]
  exact entryD fr fu hf he st ne hd (Array.getElem?_eq_some_iff.mp h1).1 h0 k
theorem noteNextD (fr : A.frames = some (env :: outer)) (hf : env.frame = some L) (fly : B.FlyingW (env :: outer) e cls a0 s.heap) (dc : Dct s.heap e od)
    (k : ∀ h', Heap.NotedW B (env :: outer) e cls a0 (rawInt L) s.heap h' → Dct h' e od → Q () { s with heap := h' }) : wpAny M A (noteFrame (.ref e) env) Q XE s := by
  obtain ⟨st, ne, fu, oe, vs, T, oT, ts, he, ⟨hc, h0⟩, hd, h1, nT, Te, hT, dT, h3⟩ := fly
  subst hc
  obtain ⟨oe', he', hod⟩ := dc
  cases he.symm.trans he'
  subst hod
  unfold noteFrame
  simp only [hf]
  refine wpAny_bind (wpAny_field he hd h1 ?_)
  rw [if_pos (by simp)]
  refine wpAny_bind (wpAny_field hT dT h3 ?_)
  rw [if_neg (by simp [rawInt])]
  refine wpAny_bind (wpAny_setField hT dT (Array.getElem?_eq_some_iff.mp h3).1 ?_)
  have oth : ∀ b, b ≠ T → (s.heap.update T (Obj.mapFields (·.setIfInBounds 3 Value.none))).get? b = s.heap.get? b := fun b n => Heap.get?_update_other _ _ n.symm
  refine entryD fr (fu.of_keeps fun b o hb n => ⟨o, (oth b (noRec hT dT hb n)).trans hb, rfl⟩) hf ((oth e Te.symm).trans he) (fun b o hb => (oth b fun z => by
    rw [z, nT] at hb
    cases hb).trans (st b o hb)) ne hd (Array.getElem?_eq_some_iff.mp h1).1 h0 fun h' q q2 => k h' ⟨q.1, q.2.1, q.2.2.1, fun b o hb n => q.2.2.2 b o ((oth b (noRec hT dT hb n)).trans hb) n⟩ q2
theorem flightD (st : B.StaysIn s.heap) (fu : s.heap.FunFrames B l) (tr : s.heap.TracedAtW B e cls a0 fl) (dc : Dct s.heap e od)
    (k : ∀ h', B.StaysIn h' → h'.FunFrames B l → h'.TracedW B e cls a0 → (∀ b o, s.heap.get? b = some o → (∀ vs, o.data ≠ .fields vs) → h'.get? b = some o) → Dct h' e od → Q () { s with heap := h' }) : wpAny M A (setFlight (.ref e) none) Q XE s := by
  obtain ⟨oe, vs, T, oT, ts, he, hc, hd, h1, nT, Te, hT, dT, h3⟩ := tr
  obtain ⟨oe', he', hod⟩ := dc
  cases he.symm.trans he'
  have sz : 3 < ts.size := (Array.getElem?_eq_some_iff.mp h3).1
  have oth : ∀ b, b ≠ T → (s.heap.update T (Obj.mapFields (·.setIfInBounds 3 ((none : Option Addr).elim Value.none fun f => rawInt f)))).get? b = s.heap.get? b := fun b n => Heap.get?_update_other _ _ n.symm
  unfold setFlight
  refine wpAny_bind (wpAny_field he hd h1 ?_)
  rw [if_pos (by simp)]
  refine wpAny_setField hT dT sz (k _ (fun b o hb => (oth b fun z => by
    rw [z, nT] at hb
    cases hb).trans (st b o hb)) (fu.of_keeps fun b o hb n => ⟨o, (oth b (noRec hT dT hb n)).trans hb, rfl⟩) ?_ (fun b o hb n => (oth b (noRec hT dT hb n)).trans hb) ⟨oe, (oth e Te.symm).trans he, hod⟩)
  exact ⟨oe, vs, T, _, _, (oth e Te.symm).trans he, hc, hd, h1, nT, Te, Heap.get?_update_self _ hT (Obj.isFreed_of_fields (Obj.data_mapFields dT _)), Obj.data_mapFields dT _, by simp [sz]⟩
/-- it leaves the frame in which it was made -/
theorem leavesD {oe : Obj} {vs : Array Value} (fr : A.frames = some (env :: outer)) (fu : s.heap.FunFrames B (env :: outer)) (hf : env.frame = some L) (he : s.heap.get? e = some oe) (st : B.StaysIn s.heap) (ne : B.get? e = none)
    (hd : oe.data = .fields vs) (h1 : vs[1]? = some .none) (h0 : vs[0]? = some a0) (k : ∀ h', B.FlyingW outer e oe.cls a0 h' → s.heap.UpToSlots h' → Dct h' e oe.dict → Q () { s with heap := h' }) : wpAny M A (leaving env (.ref e)) Q XE s := by
  unfold leaving
  refine wpAny_bind (noteFirstD fr fu hf he st ne hd h1 h0 fun h1 q dc => ?_)
  exact flightD (s := { s with heap := h1 }) q.1 q.2.1 q.2.2.1 dc fun h2 a b c d dc2 => k h2 ⟨a, ne, b.2.2, c⟩ (Heap.UpToSlots.trans q.2.2.2 fun b o hb n => ⟨o.slots, d b o hb n⟩) dc2
/-- it goes on through a frame -/
theorem leavesOnD (fr : A.frames = some (env :: outer)) (hf : env.frame = some L) (fly : B.FlyingW (env :: outer) e cls a0 s.heap) (dc : Dct s.heap e od)
    (k : ∀ h', B.FlyingW outer e cls a0 h' → s.heap.UpToSlots h' → Dct h' e od → Q () { s with heap := h' }) : wpAny M A (leaving env (.ref e)) Q XE s := by
  unfold leaving
  refine wpAny_bind (noteNextD fr hf fly dc fun h1 q dc => ?_)
  exact flightD (s := { s with heap := h1 }) q.1 q.2.1 q.2.2.1 dc fun h2 a b c d dc2 => k h2 ⟨a, fly.2.1, b.2.2, c⟩ (Heap.UpToSlots.trans q.2.2.2 fun b o hb n => ⟨o.slots, d b o hb n⟩) dc2
/-- it comes to a try, and lands -/
theorem looksD (fr : A.frames = some (env :: outer)) (hf : env.frame = some L) (fly : B.FlyingW (env :: outer) e cls a0 s.heap) (dc : Dct s.heap e od)
    (k : ∀ h', B.HeldW (env :: outer) e cls a0 L h' → s.heap.UpToSlots h' → Dct h' e od → Q () { s with heap := h' }) : wpAny M A (noteFrame (.ref e) env) Q XE s :=
  noteNextD fr hf fly dc fun h1 q dc => k h1 ⟨q.1, fly.2.1, q.2.1, q.2.2.1⟩ q.2.2.2 dc
theorem landsD (h : B.HeldW l e cls a0 L s.heap) (dc : Dct s.heap e od) (k : ∀ h', B.FlyingW l e cls a0 h' → s.heap.UpToSlots h' → Dct h' e od → Q () { s with heap := h' }) : wpAny M A (setFlight (.ref e) none) Q XE s :=
  flightD h.1 h.2.2.1 h.2.2.2 dc fun h2 a b c d dc2 => k h2 ⟨a, h.2.1, b, c⟩ (fun b o hb n => ⟨o.slots, d b o hb n⟩) dc2
theorem againD (h : B.FlyingW l e cls a0 s.heap) (dc : Dct s.heap e od) (k : ∀ h', B.FlyingW l e cls a0 h' → s.heap.UpToSlots h' → Dct h' e od → Q () { s with heap := h' }) : wpAny M A (setFlight (.ref e) none) Q XE s :=
  flightD h.1 h.2.2.1 h.2.2.2.at dc fun h2 a b c d dc2 => k h2 ⟨a, h.2.1, b, c⟩ (fun b o hb n => ⟨o.slots, d b o hb n⟩) dc2
end
end L2


set_option Elab.async false
set_option linter.all false
set_option maxRecDepth 100000
set_option maxHeartbeats 4000000
namespace L2
open PySem PySem.W PySem.Spec PySem.Calls PyProof.Rows
/-! ### own exceptions with an __init__ of their own: made, told of, written to, read -/
abbrev vmVE : List Value := [.type "ValueError", .type "Exception", .type "BaseException", .type "object"]
/-- an exception's object, its arguments at t -/
abbrev eO (C t : Addr) (od : Option Addr) : Obj := { cls := .ref C, dict := od, data := .fields #[.ref t, .none, .none, .none, .bool false, .none] }
/-- the class C, an own one right under the own class R, that under ValueError; its __init__ is its own, R has none -/
structure XIni (K : PySem.W.Frag) (C R fI : Addr) : Prop where
  lk : ∃ dd nm bs ns qn sn sub ab col k0 k1 k2 k3 k5, K.lookup C = some ⟨.type "type", dd, .cls ⟨nm, bs, .ref C :: .ref R :: vmVE, ns, qn, true, sn, sub, ab, col, false⟩, #[k0, k1, k2, k3, some (.builtin "ValueError.__new__"), k5]⟩
  ini : findIn K (.ref C) "__init__" = some (some (.ref fI))
  fn : typeIn K (.ref fI) = some (.type "function")
  row : XCls K R vmVE "ValueError.__new__"
  rtl : mroIn K R (.type "object") = some true
  sa : findIn K (.ref C) "__setattr__" = some (some (.builtin "object.__setattr__"))
  na : takerIn K C "at" = some none
  nat : findIn K (.ref C) "at" = some none
  hd : hasDictIn K C = true
  rd : XRead K C
  sg : specialIn K (.ref R) "__getattribute__" = some (some (.builtin "type.__getattribute__"))
  rr : readsIn K R (.type "type") = true
  fi : findCls K (.ref R) (.type "type") "__init__" = some (.val (.builtin "ValueError.__init__"))
section
variable {K : PySem.W.Frag} {C R fI : Addr} {h : Heap}
theorem XIni.obj (c : XIni K C R fI) (X : K.In h) : ∃ N nm q bs sn sub ab col dd k0 k1 k2 k3 k5, h.get? C = some (excClassObj nm q C N bs (.ref R :: vmVE) true sn sub ab col dd k0 k1 k2 k3 k5 "ValueError.__new__") := by
  obtain ⟨dd, nm, bs, ns, qn, sn, sub, ab, col, k0, k1, k2, k3, k5, e⟩ := c.lk
  exact ⟨ns, nm, qn, bs, sn, sub, ab, col, dd, k0, k1, k2, k3, k5, X _ _ e⟩
theorem XIni.tail (c : XIni K C R fI) (X : K.In h) : OwnTail h vmVE (.ref R :: vmVE) := by
  obtain ⟨bm, N, nm, q, bs, hdct, sn, sub, ab, col, dd, k0, k1, k2, k3, k5, mN, hR, hN, hni, _⟩ := c.row.obj X
  exact .own hR hN hni .base
variable {prog : Program} {w : World} {A : Around} {XE : Value → Shared → Prop} {s : Shared}
theorem type_call_ini (c : XIni K C R fI) (X : K.In s.heap) {rest : List Value} {Q : Fin → Shared → Prop} (hz : rest.length ≤ sizeLine)
    (k : wpAny (model prog w) A (call (.ref fI) (.ref (s.heap.objs.size + 1) :: rest)) (fun r s' => r = .none ∧ Q (.done (.ret (.ref (s.heap.objs.size + 1)))) s') XE { s with heap := (s.heap.push { cls := .type "tuple", data := .seq rest.toArray }).push (eO C s.heap.objs.size none) }) :
    wpAny (model prog w) A (Builtin.«type.__call__» ⟨.ref C :: rest, []⟩) Q XE s := by
  obtain ⟨N, nm, q, bs, sn, sub, ab, col, dd, k0, k1, k2, k3, k5, hC⟩ := c.obj X
  have T := c.tail X
  have F := PySem.F.excBase_ValueError
  obtain ⟨h, g, d, t, os⟩ := s
  dsimp only at hC T X k ⊢
  repeat (first | with_reducible refine wpAny_loadPart_at hC ?_ | with_reducible refine wpAny_madeBy_exc hC ?_ | wp_step)
  refine codeAny_call_builtin_code (Code.quiet_builtin _ F.quiet) (wpAny_check_new_subT F T hC ?_)
  refine codeAny_exc_new_subT F T hC ?_ hz
  show wpAny _ _ _ _ _ _
  have kp : ∀ b o, h.get? b = some o → ((h.push { cls := .type "tuple", data := .seq rest.toArray }).push (eO C h.objs.size none)).get? b = some o := fun b o e => Heap.get?_push_of_some _ (Heap.get?_push_of_some _ e)
  have X1 := X.keeps kp
  have hC1 := kp _ _ hC
  have he : ((h.push { cls := .type "tuple", data := .seq rest.toArray }).push (eO C h.objs.size none)).get? (h.objs.size + 1) = some (eO C h.objs.size none) := by heap_get
  have hcC : (Value.ref C :: .ref R :: vmVE).contains (.ref C) = true := by simp
  unfold isInstance
  repeat (first | with_reducible refine wpAny_loadPart_at he ?_ | (with_reducible refine wpAny_isSubtype_exc hC1 ?_; rw [hcC]) | wp_step)
  show wpAny _ _ (typeLookup (.ref C) _) _ _ _
  refine (looks_findIn X1 c.ini).here ?_
  refine wpAny_holding (wpAny_bind ?_)
  unfold bindSpecial
  refine wpAny_bind ((looks_typeIn X1 c.fn).here ?_)
  rw [if_pos (by decide)]
  refine wpAny_pure (wpAny_bind (wpAny_mono k (fun r s' hr => ?_) fun _ _ x => x))
  obtain ⟨rfl, hQ⟩ := hr
  wp_walk
  exact hQ
theorem call_ini (c : XIni K C R fI) (X : K.In s.heap) {rest : List Value} {Q : Value → Shared → Prop} (hz : rest.length ≤ sizeLine)
    (k : wpAny (model prog w) (A.under (.builtin "type.__call__" ⟨.ref C :: rest, []⟩)) (call (.ref fI) (.ref (s.heap.objs.size + 1) :: rest)) (fun r s' => r = .none ∧ Q (.ref (s.heap.objs.size + 1)) s') XE { s with heap := (s.heap.push { cls := .type "tuple", data := .seq rest.toArray }).push (eO C s.heap.objs.size none) }) :
    wpAny (model prog w) A (call (.ref C) rest) Q XE s := by
  obtain ⟨N, nm, q, bs, sn, sub, ab, col, dd, k0, k1, k2, k3, k5, hC⟩ := c.obj X
  have f1 := tc_lookup
  have f2 := tc_bind (.ref C)
  have hT : s.TypeIs (.ref C) "type" := ⟨_, hC, rfl⟩
  refine wpAny_call (codeAny_of_tree ?_)
  show wpAny _ _ (callAny (.ref C) _) _ _ _
  have k2 := fun Q' k' => type_call_ini (prog := prog) (w := w) (A := A.under (.builtin "type.__call__" ⟨.ref C :: rest, []⟩)) (XE := XE) c X (rest := rest) (Q := Q') hz k'
  obtain ⟨h, g, d, t, os⟩ := s
  dsimp only at hC hT X k k2 ⊢
  repeat (any_goals (first | assumption | with_reducible refine wpAny_loadPart_at hC ?_ | wp_step))
  refine ⟨rfl, ?_⟩
  exact codeAny_call_builtin_at (Code.quiet_builtin _ (by decide +kernel)) entry_typeCall (wpAny_check_type_call_sub hC (k2 _ k))
theorem base_ini (c : XIni K C R fI) (X : K.In s.heap) {e t : Addr} {m : Value} {Q : Value → Shared → Prop} (he : s.heap.get? e = some (eO C t none))
    (k : ∀ h', (∀ b o, b ≠ e → s.heap.get? b = some o → h'.get? b = some o) → h'.get? e = some (eO C s.heap.objs.size none) → Q .none { s with heap := h' }) :
    wpAny (model prog w) A (call (.builtin "ValueError.__init__") [.ref e, m]) Q XE s := by
  obtain ⟨N, nm, q, bs, sn, sub, ab, col, dd, k0, k1, k2, k3, k5, hC⟩ := c.obj X
  have T := c.tail X
  have F := PySem.F.excBase_ValueError
  obtain ⟨h, g, d, tk, os⟩ := s
  dsimp only at hC T X k he ⊢
  refine wpAny_call (codeAny_call_builtin F.init.plain F.initEntry (wpAny_check_init_subT F T hC he rfl ?_))
  have he2 := Heap.get?_push_of_some { cls := .type "tuple", data := .seq #[m] } he
  repeat (first | with_reducible refine wpAny_setField he2 rfl (by decide) ?_ | wp_step)
  refine k _ (fun b o n hb => ?_) ?_
  · rw [Heap.get?_update_other _ _ (Ne.symm n)]
    exact Heap.get?_push_of_some _ hb
  · rw [Heap.get?_update_self _ he2 rfl]
    rfl
/-- x.at = v, the first attribute of an own exception -/
theorem set_at (c : XIni K C R fI) (X : K.In s.heap) {e t : Addr} {v : Value} {Q : Unit → Shared → Prop} (he : s.heap.get? e = some (eO C t none))
    (k : ∀ h' tk', (∀ b o, b ≠ e → s.heap.get? b = some o → h'.get? b = some o) → h'.get? e = some (eO C t (some s.heap.objs.size)) → h'.Ns1 s.heap.objs.size (fun y => if y = "at" then some v else none) → Q () { s with heap := h', toks := tk' }) :
    wpAny (model prog w) A (setAttr (.ref e) "at" v) Q XE s := by
  obtain ⟨N, nm, q, bs, sn, sub, ab, col, dd, k0, k1, k2, k3, k5, hC⟩ := c.obj X
  have SF := PySem.F.store_ValueError
  have J : InstAt s.heap e (eO C t none) C none := ⟨he, rfl, rfl, True.intro⟩
  refine set_plain X J c.sa ?_
  have hm : Looks (model prog w) s.heap (mroOf (.ref C)) (.ref C :: .ref R :: vmVE) := (Looks.ld hC).andThen .now
  have sub' : Looks (model prog w) s.heap (isInstance (.ref e) (.type "object")) true := J.type.andThen (looks_mroIn X c.rd.ob)
  refine codeAny_call_builtin SF.slot.plain SF.entry (@check_slot (model prog w) _ _ { s with toks := s.toks + 1 } "object.__setattr__" "object" "__setattr__" (.ref e) [.str "at" s.toks, v] [] _ SF.kind SF.split sub' (SF.args (.ref e) (.str "at" s.toks) v) ?_)
  rw [osa_eq, refuse_eq]
  refine wpAny_bind (wpAny_bind (Looks.here (s := { s with toks := s.toks + 1 }) J.type (wpAny_bind (Looks.here (s := { s with toks := s.toks + 1 }) hm ?_))))
  rw [refuseLoop_ref, refuseLoop_ref, SF.passes]
  refine wpAny_pure (wpAny_bind (Looks.here (s := { s with toks := s.toks + 1 }) J.type (wpAny_bind (Looks.here (s := { s with toks := s.toks + 1 }) (looks_findIn X c.nat) ?_))))
  refine wpAny_bind (wpAny_pure ?_)
  have hc : clsIn K C = some ⟨nm, bs, .ref C :: .ref R :: vmVE, N, q, true, sn, sub, ab, col, false⟩ := by
    obtain ⟨dd', nm', bs', ns', qn', sn', sub', ab', col', k0', k1', k2', k3', k5', e'⟩ := c.lk
    have := X _ _ e'
    rw [hC] at this
    cases this
    unfold clsIn
    rw [e']
  refine wpAny_bind (wpAny_pure (wpAny_bind (wpAny_bind (wpAny_loadPart he (wpAny_bind (Looks.here (s := { s with toks := s.toks + 1 }) (looks_clsIn X hc) ?_))))))
  rw [if_neg (by simp)]
  show wpAny _ _ (if (!true || !typeHasDict (Value.ref C)) = true then pure none else _) _ _ _
  rw [if_neg (by simp [typeHasDict])]
  have hs0 : e ≠ s.heap.objs.size := Nat.ne_of_lt (Heap.lt_size he)
  have he1 := Heap.get?_push_of_some { cls := .type "dict", data := .dict #[] } he
  refine wpAny_bind (wpAny_alloc' ?_)
  refine wpAny_bind (wpAny_update' he1 ?_)
  refine wpAny_pure ?_
  have he2 : ((s.heap.push { cls := .type "dict", data := .dict #[] }).update e fun o => { cls := o.cls, dict := some s.heap.objs.size, data := o.data, slots := o.slots }).get? e = some (eO C t (some s.heap.objs.size)) := Heap.get?_update_self _ he1 rfl
  have hd2 : ((s.heap.push { cls := .type "dict", data := .dict #[] }).update e fun o => { cls := o.cls, dict := some s.heap.objs.size, data := o.data, slots := o.slots }).get? s.heap.objs.size = some { cls := .type "dict", data := .dict #[] } :=
    (Heap.get?_update_ne _ _ _ _ hs0.symm).trans (Heap.get?_push_at rfl rfl)
  have kp : ∀ b o, b ≠ e → s.heap.get? b = some o → ((s.heap.push { cls := .type "dict", data := .dict #[] }).update e fun o => { cls := o.cls, dict := some s.heap.objs.size, data := o.data, slots := o.slots }).get? b = some o := fun b o n hb =>
    (Heap.get?_update_ne _ _ _ _ n).trans (Heap.get?_push_of_some _ hb)
  generalize ((s.heap.push { cls := .type "dict", data := .dict #[] }).update e fun o => { cls := o.cls, dict := some s.heap.objs.size, data := o.data, slots := o.slots }) = h2 at he2 hd2 kp ⊢
  have nd : h2.Ns s.heap.objs.size (fun _ => none) := ⟨_, #[], _, hd2, rfl, fun e he => absurd he (by simp), fun _ => rfl⟩
  show wpAny _ _ (Builtin.ObjectAttr.storeInDict s.heap.objs.size (.str "at" s.toks) "at" v) _ _ _
  unfold Builtin.ObjectAttr.storeInDict Builtin.ObjectAttr.newKeyGuard
  refine wpAny_bind (wpAny_pure (wpAny_bind (wpAny_nsSet1 (Heap.Ns1.of_empty nd) fun h3 hn3 hs3 => ?_)))
  obtain ⟨oD, esD, epD, hoD, hdD, hcD⟩ := hn3.count (Within.cons "at" v Within.nil)
  refine wpAny_bind (wpAny_lookBehind hoD (by rw [hdD]; exact pastItsLine_dict (Nat.le_trans hcD (by rw [List.length_cons, List.length_nil, sizeLine_eq]; omega))) ?_)
  refine wpAny_pure ?_
  exact k h3 _ (fun b o n hb => (hs3.2 b (Nat.ne_of_lt (Heap.lt_size hb))).trans (kp b o n hb)) ((hs3.2 e hs0).trans he2) hn3
/-- x.at of an own exception, caught or not -/
theorem get_at (c : XIni K C R fI) (X : K.In s.heap) {e d : Addr} {o : Obj} {mA : Str → Option Value} {v : Value} {expr : Bool} {Q : Value → Shared → Prop} (he : s.heap.get? e = some o) (hcl : o.cls = .ref C) (hnc : notCls o = true) (hd : o.dict = some d) (hn : s.heap.Ns1 d mA) (hv : mA "at" = some v) (hh : handedIn v = true)
    (k : Q v { s with toks := s.toks + 1 }) : wpAny (model prog w) A (getAttr (.ref e) "at" expr) Q XE s := by
  obtain ⟨od, hod, hl⟩ := lookIn_ns hn
  have J : InstAt s.heap e o C (some od) := ⟨he, hcl, hnc, by rw [hd]; exact hod⟩
  have hf : findObj K C (some od) "at" = some (.value v) := findObj_own c.hd c.nat rfl (by rw [hl, hv])
  have L0 := J.type (M := model prog w)
  have L1 := looks_findIn (M := model prog w) X c.rd.ga
  have L2 := looks_findIn (M := model prog w) X c.rd.gh
  have L3 := looks_mroIn (M := model prog w) X c.rd.bx
  have L4 := looks_find (M := model prog w) X J hf
  have FB := PySem.F.attr_ValueError
  obtain ⟨h, g, dr, tk, os⟩ := s
  dsimp only at X L0 L1 L2 L3 L4 k ⊢
  unfold getAttr getAttrBy
  refine wpAny_bind (wpAny_mkText (wpAny_holding (wpAny_bind (L0.at (wpAny_bind (L1.at ?_))))))
  show wpAny _ _ (getAttrByItsOwn _ _ _ _ _ _) _ _ _
  unfold getAttrByItsOwn hookBefore
  rw [if_pos (show onTheHeap (Value.ref C) = true from rfl)]
  refine wpAny_bind (L2.at (wpAny_bind (wpAny_attempt (wpAny_holding ?_))))
  unfold callGetattribute
  rw [show (expr && onTheHeap (Value.builtin "BaseException.__getattribute__")) = false from Bool.and_false _, if_neg (by decide)]
  unfold boundAndCalled
  rw [FB.ga.bind (.ref e)]
  refine wpAny_bind (wpAny_pure (wpAny_call ?_))
  refine codeAny_call_builtin FB.ga.plain PySem.F.entry_bexc_ga ?_
  refine check_exc L0 L3 ?_
  unfold Builtin.«object.__getattribute__»
  refine wpAny_bind (wpAny_pure (wpAny_bind (wpAny_pure (wpAny_bind (L0.here (wpAny_bind (L4.here ?_)))))))
  refine wpAny_pure ?_
  show wpAny _ _ (handedOut v) _ _ _
  rw [handedOut_of hh]
  exact wpAny_pure k
end
end L2


set_option Elab.async false
set_option linter.all false
set_option maxRecDepth 100000
set_option maxHeartbeats 4000000
namespace L2
open PySem PySem.W PySem.Spec PySem.Calls PyProof.Rows
/-- an own exception being made: as yet without attributes, or with the dict d -/
def excM (e C : Addr) : HO := .ext fun h => ∃ t, h.get? e = some (eO C t none)
def excN (e C d : Addr) : HO := .ext fun h => ∃ t, h.get? e = some (eO C t (some d))
theorem excM_ok {P : Program} {w : World} {H : Hp} {h : Heap} {e C t : Addr} (x : h.get? e = some (eO C t none)) : ObjOk P w H h e (excM e C) :=
  ⟨⟨t, x⟩, ⟨_, x⟩, fun h1 h2 ⟨t', a⟩ k => ⟨t', k _ a⟩⟩
theorem excN_ok {P : Program} {w : World} {H : Hp} {h : Heap} {e C t d : Addr} (x : h.get? e = some (eO C t (some d))) : ObjOk P w H h e (excN e C d) :=
  ⟨⟨t, x⟩, ⟨_, x⟩, fun h1 h2 ⟨t', a⟩ k => ⟨t', k _ a⟩⟩
section
variable {X : Cx} {C R fI : Addr} {x : Str} {e v2 : Expr} {es : List Expr} {t : TA} {te : TE} {np apos pos p1 p2 p3 : Pos} {cc : Str} {j : Nat}
/-- f'..{e}', e a number -/
def tFstr (te : TE) : TE := fun σ H Q => te σ H fun v H1 => ∃ i : Int, v = .int i ∧ i.natAbs < 10 ^ 12 ∧ ∀ u : Str, Q (.str u) H1
theorem pe_fstr (he : PE X e te) (hc : cc.length ≤ 1000) : PE X (.JoinedStr [.Constant (.str cc) j p1, .FormattedValue e (-1) none p2] p3) (tFstr te) := by
  intro pins s σ H Q I h
  refine JoinedStr_many (joinParts_cons (Constant_str ⟨?_, joinParts_cons (FormattedValue_plain (thn (he pins _ σ H _ (I.tok _) h) fun u s1 ⟨v, H1, I1, r1, i, ev, hi, q⟩ => ?_))⟩))
  · rw [strLen_append]
    have : (Str.empty).length = 0 := rfl
    rw [sizeLine_eq]
    omega
  · subst ev
    obtain ⟨tk, rfl⟩ := (show ∃ tk, u = Value.int i tk from r1)
    have hl : i.natAbs.log2 < 1920 := by
      by_cases z : i.natAbs = 0
      · rw [z]; decide
      · refine (Nat.log2_lt z).mpr (Nat.lt_of_lt_of_le hi ?_)
        exact Nat.le_trans (show 10 ^ 12 ≤ 2 ^ 40 by decide) (Nat.pow_le_pow_right (by decide) (by decide))
    refine formatField_int_small hl ⟨?_, joinParts_nil ⟨.str _, H1, I1.tok _, ⟨_, rfl⟩, q _⟩ ?_⟩
    all_goals
      have h10 := int_text_length_le10 (a := i) (k := 12) (by decide) hi
      have h11 : (Str.ofString (toString i)).length = (toString i).length := PySem.ofString_length _
      have h12 : (Str.empty).length = 0 := rfl
      rw [strLen_append, strLen_append, sizeLine_eq, h11]
      omega
/-- RowError.__init__(self, ..) -/
def tXini (C : Addr) (t : TA) : TE := fun σ H Q => t σ H fun vs H1 => ∃ e y, vs = [.ref e, y] ∧ H1 e = some (excM e C) ∧ Q .non (upd H1 e (excM e C))
theorem pe_xini {pl : Sem Bool} (c : XIni X.K C R fI) (hg : Gl X x) (hm : X.mg x = some (.ref R)) (ha : PA X (e :: es) t)
    (ht : eval (.Call (.Attribute (.Name x np) "__init__" apos) (e :: es) [] pos) X.env = (do
      let ov ← eval (.Name x np) X.env
      standAt apos.atName
      let (f, first) ← holding [ov] (getMethod ov "__init__" pl)
      callWith pos f first (backTo pos (starEach (e :: es) X.env)) (backToKw pos (keywordEach [] X.env))) := by rfl)
    (he : starEach (e :: es) X.env = (false, eval e X.env) :: starEach es X.env := by rfl) (hpl : (backTo pos (starEach es X.env)).any (·.1) = false := by rfl) (hdb : (x == ("__debug__" : Str)) = false := by decide) :
    PE X (.Call (.Attribute (.Name x np) "__init__" apos) (e :: es) [] pos) (tXini C t) := by
  intro pins s σ H Q I h
  refine methodCall_KW (pl := pl) (ld_glob I hg hm ?_ hdb) ht
  refine method_cls I.kIn c.sg (cls_value I.kIn c.rr c.fi rfl ?_)
  refine callWith_builtin1 (thn (ha pos pins _ σ H _ (I.tok _) h) fun us s1 ⟨vs, H1, I1, r1, e0, y, ev, hx, q⟩ => ?_) he hpl
  subst ev
  cases r1 with
  | cons r1 r2 =>
    cases r2 with
    | cons r2 r3 =>
      cases r3
      obtain rfl : _ = Value.ref e0 := r1
      obtain ⟨t0, ht0⟩ := (I1.hok e0 _ hx).1
      exact base_ini c I1.kIn ht0 fun h' kp e2 => ⟨.non, _, I1.write (x := e0) (e := e0) (t' := s1.toks) (by rw [hx]; exact True.intro) (.inl rfl) kp ⟨_, e2⟩ (excM_ok e2), rfl, q⟩
/-- self.at = e -/
def sXat (C : Addr) (ta tv : TE) : TS := fun D σ H => tv σ H fun y H1 => ta σ H1 fun z H2 => ∃ e0, z = .ref e0 ∧ H2 e0 = some (excM e0 C) ∧ ∀ d, H2 d = none → d ≠ e0 → D.nx σ (upd (upd H2 d (.xd [("at", y)])) e0 (excN e0 C d))
theorem RelO_at {y : V} {u : Value} (r : RelV y u) (f : Str) : RelO (([("at", y)] : List (Str × V)).lookup f) (if f = "at" then some u else none) := by
  by_cases h : f = "at"
  · subst h
    rw [if_pos rfl, List.lookup_cons_self]
    exact r
  · rw [if_neg h, List.lookup_cons, show (f == ("at" : Str)) = false from beq_eq_false_iff_ne.mpr h]
    exact True.intro
theorem ps_xat {o value : Expr} {ta tv : TE} {pos' : Pos} (c : XIni X.K C R fI) (ha : PE X o ta) (hv : PE X value tv) (hs : swapsWith value (some (.Attribute o "at" pos')) pos.line X.env = pure false) : PS X (.Assign [.Attribute o "at" pos'] value pos) (sXat C ta tv) := by
  intro pins s σ H D I h
  refine plainObj_wpAny_Assign_Attribute (thn (hv pins s σ H _ I h) fun u s1 ⟨y, H1, I1, ry, q⟩ => thn (ha pins s1 σ H1 _ I1 q) fun ov s2 ⟨z, H2, I2, rz, e0, ez, hx, q2⟩ => ?_) hs
  subst ez
  obtain rfl : ov = Value.ref e0 := rz
  obtain ⟨t0, ht0⟩ := (I2.hok e0 _ hx).1
  refine set_at c I2.kIn ht0 fun h' tk kp e2 ns => ?_
  have n0 : s2.heap.objs.size ≠ e0 := Nat.ne_of_gt (Heap.lt_size ht0)
  obtain ⟨oD, esD, epD, hoD, rD⟩ := id ns
  have fr : oD.isFreed = false := (Heap.get?_some_iff.mp hoD).2
  have g1 : (s2.heap.push oD).get? s2.heap.objs.size = some oD := Heap.get?_push_size s2.heap fr
  have I3 := I2.laid (a := s2.heap.objs.size) (o := .xd [("at", y)]) (h' := s2.heap.push oD) (t' := tk) (fun b u e => Heap.get?_push_of_some _ e) (Nat.le_refl _) ⟨_, ⟨oD, esD, epD, g1, rD⟩, RelO_at ry⟩
  have I4 := I3.write (x := e0) (e := e0) (o := excN e0 C s2.heap.objs.size) (h' := h') (t' := tk) (by rw [upd_ne n0.symm, hx]; exact True.intro) (.inl rfl) (fun b u n e => ?_) ⟨_, e2⟩ (excN_ok e2)
  · exact ⟨σ, _, I4, q2 _ I2.fresh n0⟩
  · by_cases hb : b = s2.heap.objs.size
    · subst hb
      rw [g1] at e
      cases e
      exact hoD
    · refine kp b u n ?_
      rw [← e]
      exact (Heap.get?_push_ne _ _ _ hb).symm
end
end L2


set_option Elab.async false
set_option linter.all false
set_option maxRecDepth 100000
set_option maxHeartbeats 4000000
namespace L2
open PySem PySem.W PySem.Spec PySem.Calls PyProof.Rows
/-- what the __init__ of such a class does -/
def spXI (C : Addr) : Sp := fun vs H Q _ => ∃ (e : Addr) (i : Int), vs = [.ref e, .int i] ∧ H e = some (excM e C) ∧ i.natAbs < 10 ^ 12 ∧ ∀ d, H d = none → d ≠ e → Q .non (upd (upd H d (.xd [("at", .int i)])) e (excN e C d))
theorem upd3 {H : Hp} {e d : Addr} {a b c : HO} (n : d ≠ e) : upd (upd (upd H e a) d b) e c = upd (upd H d b) e c := by
  funext x
  unfold upd
  by_cases h : x = e
  · simp [h]
  · by_cases h2 : x = d
    · simp [h, h2]
    · simp [h, h2]
/-- a heap without e -/
def rm (H : Hp) (e : Addr) : Hp := fun c => if c = e then none else H c
theorem rm_ne {H : Hp} {e c : Addr} (h : c ≠ e) : rm H e c = H c := by
  unfold rm
  rw [if_neg h]
theorem rm_same {H : Hp} {e : Addr} : rm H e e = none := by
  unfold rm
  rw [if_pos rfl]
theorem rm_upd2 {H : Hp} {e d : Addr} {a b : HO} (n : d ≠ e) (he : H e = none) : rm (upd (upd H d a) e b) e = upd H d a := by
  funext x
  by_cases h : x = e
  · subst h
    rw [rm_same, upd_ne n.symm, he]
  · rw [rm_ne h, upd_ne h]
/-- it flies over B; B has all that stood at the call (but the callers' frames) and all that is tracked; od its dict -/
def CX2 (P : Program) (w : World) : CXT := fun outer H s E e s' => ∃ (ea : Addr) (cls a0 : Value) (od : Option Addr) (H' : Hp) (B : Heap), e = .ref ea ∧ B.FlyingW outer ea cls a0 s'.heap ∧ Dct s'.heap ea od ∧
  (∀ b o, s.heap.get? b = some o → b ∉ frs outer → ∃ o', B.get? b = some o') ∧ (∀ b o, H' b = some o → ∃ o', B.get? b = some o') ∧
  s'.os = s.os ∧ AllBare s'.gens ∧ Un (frs outer) [] H H' s.heap s'.heap ∧ HOk P w H' s'.heap ∧ E cls od H'
section
variable {X : Cx} {C R f : Addr} {fd : FuncData} {k : Nat}
/-- C(i), its __init__ run -/
theorem run_mkx {pins : List (Addr × Obj)} {σ : St} {H : Hp} {s : Shared} {i : Int} {us : List Value} {Q : VK} {XE : Value → Shared → Prop} (c : XIni X.K C R f) (F : FnOk X.prog X.w X.K X.mg X.base CX0 k f fd ["self", "at"] (spXI C)) (hr : Room (k + 1) X.A) (hb : Binds X.K fd ["self", "at"] []) (I : Inv X pins σ H s) (r : Vals [.int i] us) (hi : i.natAbs < 10 ^ 12)
    (h : ∀ e d, s.heap.objs.size ≤ e → H e = none → H d = none → d ≠ e → Q (.ref e) (upd (upd H d (.xd [("at", .int i)])) e (excN e C d))) : wpAny (model X.prog X.w) X.A (call (.ref C) us) (EP X pins σ Q) XE s := by
  have hz : us.length ≤ sizeLine := by
    rw [← r.length, sizeLine_eq]
    show 1 ≤ 16777216
    decide
  have I1 := I.kept (t' := s.toks) (h' := s.heap.push { cls := .type "tuple", data := .seq us.toArray }) (fun b u e => Heap.get?_push_of_some _ e)
  have he : ((s.heap.push { cls := .type "tuple", data := .seq us.toArray }).push (eO C s.heap.objs.size none)).get? (s.heap.objs.size + 1) = some (eO C s.heap.objs.size none) := by heap_get
  have I2 := I1.laid (a := s.heap.objs.size + 1) (o := excM (s.heap.objs.size + 1) C) (t' := s.toks) (h' := (s.heap.push { cls := .type "tuple", data := .seq us.toArray }).push (eO C s.heap.objs.size none)) (fun b u e => Heap.get?_push_of_some _ e) (Nat.le_of_eq (Heap.size_push _ _)) (excM_ok he)
  have hn : H (s.heap.objs.size + 1) = none := I.hok.fresh (Nat.le_succ _)
  have r2 : Vals (V.ref (s.heap.objs.size + 1) :: [V.int i]) (Value.ref (s.heap.objs.size + 1) :: us) := .cons rfl r
  have hl : (Value.ref (s.heap.objs.size + 1) :: us ++ []).length = ["self", "at"].length := by
    have e := r2.length
    rw [List.append_nil]
    exact e.symm
  have hq : spXI C [V.ref (s.heap.objs.size + 1), V.int i] (upd H (s.heap.objs.size + 1) (excM (s.heap.objs.size + 1) C)) (fun v H2 => v = .non ∧ Q (.ref (s.heap.objs.size + 1)) H2) E0 := by
    refine ⟨_, i, rfl, upd_same, hi, fun d hd ne => ⟨rfl, ?_⟩⟩
    rw [upd3 ne]
    rw [upd_ne ne] at hd
    exact h _ d (Nat.le_succ _) hn hd ne
  refine call_ini c I.kIn hz (wpAny_call (codeAny_mono (F.run _ X.stack _ _ ⟨Value.ref (s.heap.objs.size + 1) :: us, []⟩ (Value.ref (s.heap.objs.size + 1) :: us) _ _ E0 (hr.make C us []) (I2.env0.make C us []) (by have := hb _ (Value.ref (s.heap.objs.size + 1) :: us) I2.kIn hl; rw [List.append_nil] at this; exact this) r2 hq) fun r s' hq' => ?_))
  cases r with
  | error e => exact False.elim hq'
  | ok fl =>
    cases fl with
    | ret u =>
      obtain ⟨v, H', I3, rv, ev, q3⟩ := I2.after hq'
      subst ev
      exact ⟨rv, ⟨V.ref (s.heap.objs.size + 1), H', I3, rfl, q3⟩⟩
    | next => exact False.elim hq'
    | brk => exact False.elim hq'
    | cont => exact False.elim hq'
theorem raise_made {M : Model} {A : Around} {XE : Value → Shared → Prop} {K : PySem.W.Frag} {s : Shared} {env : Env} {z : Sem Value} {Q : Flow → Shared → Prop} (c : XIni K C R f) (hh : A.handled = none)
    (h : wpAny M A z (fun v s1 => ∃ e t od, v = .ref e ∧ K.In s1.heap ∧ s1.heap.get? e = some (eO C t od) ∧ XE (.ref e) s1) XE s) : wpAny M A (raiseStmt env (some z) none) Q XE s := by
  have hcB : (Value.ref C :: .ref R :: vmVE).contains (.type "BaseException") = true := by simp
  unfold raiseStmt
  refine wpAny_bind (wpAny_mono h (fun v s1 h1 => ?_) fun _ _ x => x)
  obtain ⟨e, t, od, rfl, X, he, hE⟩ := h1
  obtain ⟨N, nm, q, bs, sn, sub, ab, col, dd, k0, k1, k2, k3, k5, hC⟩ := c.obj X
  obtain ⟨hp, g, d, tk, os⟩ := s1
  dsimp only at hC he X
  repeat (first | with_reducible refine wpAny_loadPart_at he ?_ | with_reducible refine wpAny_loadPart_at hC ?_ | (with_reducible refine wpAny_isSubtype_exc hC ?_; rw [hcB]) | wp_step)
  exact wpAny_raiseNew_none hh hE
end
end L2


set_option Elab.async false
set_option linter.all false
set_option maxRecDepth 100000
set_option maxHeartbeats 4000000
namespace L2
open PySem PySem.W PySem.Spec PySem.Calls PyProof.Rows
/-- raise C(i) -/
def sRaiseC (C : Addr) (t : TA) (E : XK) : TS := fun _ σ H => t σ H fun vs H1 => ∃ i : Int, vs = [.int i] ∧ i.natAbs < 10 ^ 12 ∧ ∀ d, H1 d = none → E (.ref C) (some d) (upd H1 d (.xd [("at", .int i)]))
section
variable {P : Program} {w : World} {K : PySem.W.Frag} {mg : Str → Option Value} {base : Heap} {N : List Str} {qual : Str} {scope : Scope} {f : Addr} {cd : Value} {A : Around} {outer : List Env} {s₀ : Shared} {H₀ : Hp} {E : XK}
theorem ps_raiseC {C R fI : Addr} {fd : FuncData} {k : Nat} {x : Str} {np cpos pos : Pos} {a : Expr} {as : List Expr} {t : TA} (c : XIni K C R fI) (kp : keepIn K (.ref C) = true) (F : FnOk P w K mg base CX0 k fI fd ["self", "at"] (spXI C)) (hb : Binds K fd ["self", "at"] []) (hr : Room (k + 1) (A.deeper (envOfC qual scope s₀.heap.objs.size f cd))) (hm : mg x = some (.ref C))
    (hg : Gl (cxOf (CX2 P w) P w K mg base N qual scope f cd A outer s₀ H₀ E) x) (ha : PA (cxOf (CX2 P w) P w K mg base N qual scope f cd A outer s₀ H₀ E) (a :: as) t) (hd : (x == ("__debug__" : Str)) = false := by decide)
    (he : starEach (a :: as) (cxOf (CX2 P w) P w K mg base N qual scope f cd A outer s₀ H₀ E).env = (false, eval a (cxOf (CX2 P w) P w K mg base N qual scope f cd A outer s₀ H₀ E).env) :: starEach as (cxOf (CX2 P w) P w K mg base N qual scope f cd A outer s₀ H₀ E).env := by rfl)
    (hpl : (backTo cpos (starEach as (cxOf (CX2 P w) P w K mg base N qual scope f cd A outer s₀ H₀ E).env)).any (·.1) = false := by rfl) :
    PS (cxOf (CX2 P w) P w K mg base N qual scope f cd A outer s₀ H₀ E) (.Raise (some (.Call (.Name x np) (a :: as) [] cpos)) none pos) (sRaiseC C t E) := by
  intro pins s σ H D I h
  have hr' : Room (k + 1) (cxOf (CX2 P w) P w K mg base N qual scope f cd A outer s₀ H₀ E).A := hr
  rw [arm_exec_Raise]
  refine wpAny_bind (wpAny_standAt (raise_made c (I.ok.hd rfl) (wpAny_bind (wpAny_mono (wpAny_Call_Name_kw (ld_glob I hg hm (callWith_K (h₀ := base) I.ok.mod.kin kp (thn (ha cpos pins s σ H _ I h) fun us s1 ⟨vs, H1, I1, r, i, ev, hi, q⟩ => ⟨I1.kIn, ?_⟩) he hpl) hd)) (fun v s3 h3 => wpAny_bind (wpAny_standAt (wpAny_pure h3))) fun _ _ z => z))))
  subst ev
  refine thn (run_mkx (Q := fun v H2 => ∃ e d, v = .ref e ∧ s1.heap.objs.size ≤ e ∧ H1 e = none ∧ H1 d = none ∧ d ≠ e ∧ H2 = upd (upd H1 d (.xd [("at", .int i)])) e (excN e C d)) c F hr' hb I1 r hi fun e d h0 h1 h2 h3 => ⟨e, d, rfl, h0, h1, h2, h3, rfl⟩) fun v s4 hv => ?_
  obtain ⟨vv, H4, I4, rv, e, d, rfl, ge, ne, nd, de, hH4⟩ := hv
  obtain rfl : v = Value.ref e := rv
  have H4e : H4 e = some (excN e C d) := by rw [hH4, upd_same]
  have hrm : rm H4 e = upd H1 d (.xd [("at", .int i)]) := by rw [hH4]; exact rm_upd2 de ne
  obtain ⟨t0, ht0⟩ := (I4.hok e _ H4e).1
  refine ⟨e, t0, some d, rfl, I4.kIn, ht0, ?_⟩
  have bk := I4.bk
  have stk : ∀ {b o}, s₀.heap.get? b = some o → b ∉ frs outer → b ∉ frs ((envOfC qual scope s₀.heap.objs.size f cd) :: outer) := fun {b o} hb nf hx => by
    rcases List.mem_cons.mp (I4.stkSub b hx) with e | e
    · have h1 := Heap.lt_size hb
      have h2 : s₀.heap.objs.size ≤ (envOfC qual scope s₀.heap.objs.size f cd).locals := I4.ok.above
      have e : b = (envOfC qual scope s₀.heap.objs.size f cd).locals := e
      rw [e] at h1
      exact absurd h1 (Nat.not_lt.mpr h2)
    · exact nf e
  have ub : Un (frs outer) [] H₀ H4 s₀.heap s4.heap := I4.base
  have old : ∀ {b o}, s₀.heap.get? b = some o → b ≠ e := fun {b o} hb z => by
    have h1 := Heap.lt_size hb
    have h2 : s₀.heap.objs.size ≤ s1.heap.objs.size := I1.sz
    exact absurd h1 (Nat.not_lt.mpr (Nat.le_trans h2 (z ▸ ge)))
  have hk : ∀ {b o}, H4 b = some o → b ∉ frs ((envOfC qual scope s₀.heap.objs.size f cd) :: outer) := fun {b o} hb hx => by
    have := I4.stkFree b hx
    rw [hb] at this
    cases this
  have nin : ∀ {b}, b ∉ frs ((envOfC qual scope s₀.heap.objs.size f cd) :: outer) → b ≠ e → b ∉ frs ((envOfC qual scope s₀.heap.objs.size f cd) :: outer) ++ [e] := fun {b} h1 h2 h3 => by
    rcases List.mem_append.mp h3 with h | h
    · exact h1 h
    · exact h2 (by simpa using h)
  refine leavesD (B := less s4.heap (frs ((envOfC qual scope s₀.heap.objs.size f cd) :: outer) ++ [e])) (L := (envOfC qual scope s₀.heap.objs.size f cd).locals) I4.ok.frames (less_funs I4.stack fun b h => List.mem_append_left _ h) rfl ht0 less_stays (less_in (by simp)) rfl rfl rfl fun h'' fly up dc => ?_
  have stay : ∀ {b u}, b ∉ frs ((envOfC qual scope s₀.heap.objs.size f cd) :: outer) → b ≠ e → s4.heap.get? b = some u → h''.get? b = some u := fun {b u} hb hn hu => fly.1 b u (by rw [less_out (nin hb hn)]; exact hu)
  have notE : ∀ {b o}, rm H4 e b = some o → b ≠ e ∧ H4 b = some o := fun {b o} hb => by
    by_cases z : b = e
    · rw [z, rm_same] at hb; cases hb
    · exact ⟨z, by rw [rm_ne z] at hb; exact hb⟩
  have keepH : ∀ {b o}, H4 b = some o → (∀ φ, o ≠ .ext φ) → rm H4 e b = some o := fun {b o} hb n => by
    have z : b ≠ e := fun z => by
      rw [z, H4e] at hb
      cases hb
      exact n _ rfl
    rw [rm_ne z]
    exact hb
  have slots : ∀ b o, s₀.heap.get? b = some o → H₀ b = none → b ∈ frs outer → ∃ sl, h''.get? b = some { o with slots := sl } := fun b o e n hb => by
    obtain ⟨sl, e1⟩ := ub.slot b o e n hb (by simp)
    obtain ⟨_, o2, e2, nf⟩ := I4.funs.mem hb
    rw [e1] at e2
    cases e2
    obtain ⟨sl', e3⟩ := up b _ e1 nf
    exact ⟨sl', e3⟩
  refine ⟨e, .ref C, .ref t0, some d, rm H4 e, _, rfl, fly, dc, fun b o hb nf => ?_, fun b o hb => ?_, I4.os, I4.bare, ⟨fun b o e n nf nx => stay (stk e nf) (old e) (ub.keep b o e n nf nx), fun b o e n hb _ => slots b o e n hb, fun b o e n hx => ?_, fun b o e nx => ?_, fun b xs e => keepH (ub.tups b xs e) (by intro _ z; cases z), fun b o u e => keepH (ub.frzs b o u e) (by intro _ z; cases z), fun b ps e => ?_⟩, fun a o ha => ?_, by rw [hrm]; exact q d nd⟩
  · obtain ⟨o', e'⟩ := ub.there b o hb (by simp)
    exact ⟨o', by rw [less_out (nin (stk hb nf) (old hb))]; exact e'⟩
  · obtain ⟨z, hb⟩ := notE hb
    obtain ⟨o', e'⟩ := (I4.hok b o hb).some_
    exact ⟨o', by rw [less_out (nin (hk hb) z)]; exact e'⟩
  · rw [rm_ne (old e)]
    exact ub.free b o e n hx
  · by_cases hb : b ∈ frs outer
    · obtain ⟨_, o2, e2, nf⟩ := I4.funs.mem hb
      obtain ⟨sl', e3⟩ := up b _ e2 nf
      exact ⟨_, e3⟩
    · obtain ⟨o', e'⟩ := ub.there b o e nx
      exact ⟨o', stay (stk e hb) (old e) e'⟩
  · obtain ⟨more, z⟩ := ub.tbls b ps e
    exact ⟨more, keepH z (by intro _ z; cases z)⟩
  · obtain ⟨z, ha⟩ := notE ha
    refine (I4.hok a o ha).stay (fun b u hc q => ?_) (fun c q => keepH q (by intro _ z; cases z)) (fun c xs q => keepH q (by intro _ z; cases z))
    rcases hc with rfl | hc
    · exact stay (hk ha) z q
    · refine stay (hk hc) (fun z => ?_) q
      rw [z, H4e] at hc
      cases hc
end
end L2


set_option Elab.async false
set_option linter.all false
set_option maxRecDepth 100000
set_option maxHeartbeats 4000000
namespace L2
open PySem PySem.W PySem.Spec PySem.Calls PyProof.Rows
/-- a caught exception's object, of the class cls, its dict od -/
def excD (ea : Addr) (cls : Value) (od : Option Addr) : HO := .ext fun h => ∃ o, h.get? ea = some o ∧ o.cls = cls ∧ notCls o = true ∧ o.dict = od
section
variable {X : Cx} {pins : List (Addr × Obj)} {σ : St} {H : Hp} {s : Shared}
theorem Inv.trackD {ea : Addr} {cls : Value} {od : Option Addr} (I : Inv X pins σ H s) (hn : H ea = none) (hs₀ : X.s₀.heap.get? ea = none) (hne : ea ≠ X.env.locals) (hc : ∀ x c, X.env.cells.lookup x = some c → c ≠ ea) (hp : ∀ p ∈ X.pn ++ pins, p.1 ≠ ea) (ho : ∃ o, s.heap.get? ea = some o ∧ o.cls = cls ∧ notCls o = true ∧ o.dict = od) :
    Inv X pins σ (upd H ea (excD ea cls od)) s := by
  have ne : ∀ {b}, b ≠ ea → upd H ea (excD ea cls od) b = H b := fun h => upd_ne h
  have old : ∀ {b o}, X.s₀.heap.get? b = some o → b ≠ ea := fun {b o} h z => by rw [z, hs₀] at h; cases h
  refine ⟨I.ok, I.os, I.bare, ⟨I.base.keep, I.base.slot, fun b o e n hx => ?_, I.base.there, fun b xs e => ?_, fun b o u e => ?_, fun b ps e => ?_⟩, I.loc, I.cell, ?_, fun x c e => ?_, fun p hp' => ?_, fun b o e => ?_, I.len⟩
  · rw [ne (old e)]; exact I.base.free b o e n hx
  · have := I.base.tups b xs e
    rw [ne (ne_of_none this hn)]; exact this
  · have := I.base.frzs b o u e
    rw [ne (ne_of_none this hn)]; exact this
  · obtain ⟨more, this⟩ := I.base.tbls b ps e
    exact ⟨more, by rw [ne (ne_of_none this hn)]; exact this⟩
  · rw [ne hne.symm]; exact I.free
  · rw [ne (hc x c e)]; exact I.freeC x c e
  · obtain ⟨a1, a2, a3⟩ := I.pin p hp'
    exact ⟨a1, by rw [ne (hp p hp')]; exact a2, a3⟩
  · by_cases hb : b = ea
    · subst hb
      rw [upd_same] at e
      cases e
      obtain ⟨o, h1, h2⟩ := ho
      exact ⟨⟨o, h1, h2⟩, ⟨o, h1⟩, fun h1 h2 ⟨o, a, b⟩ k => ⟨o, k o a, b⟩⟩
    · rw [ne hb] at e
      exact (I.hok b o e).stay (fun c u _ q => q) (fun c q => by rw [ne (ne_of_none q hn)]; exact q) (fun c xs q => by rw [ne (ne_of_none q hn)]; exact q)
end
section
variable {X : Cx} {pins : List (Addr × Obj)} {σ : St}
/-- an exception of a callee has come to the body's try: it lands -/
theorem caughtD {H : Hp} {s s' : Shared} {e : Value} {E : XK} {L : Addr} {hs : List ExceptHandler} {Q : Flow → Shared → Prop} {XE : Value → Shared → Prop} (I : Inv X pins σ H s) (hst : X.stack = X.env :: X.outer) (hL : X.env.frame = some L) (cx : CX2 X.prog X.w X.stack H s E e s')
    (k : ∀ (ea : Addr) (cls a0 : Value) (od : Option Addr) (H' : Hp) (B : Heap) (s2 : Shared), e = .ref ea → E cls od H' → Dct s2.heap ea od → Inv X pins σ H' s2 → B.FlyingW X.stack ea cls a0 s2.heap → (∀ b o, H' b = some o → ∃ o', B.get? b = some o') → (∀ b o, s.heap.get? b = some o → b ∉ frs X.stack → ∃ o', B.get? b = some o') →
      (∀ h6, B.FlyingW X.stack ea cls a0 h6 → s2.heap.UpToSlots h6 → Inv X pins σ H' { s2 with heap := h6 }) → wpAny (model X.prog X.w) X.A (handleBy e X.env hs) Q XE s2) :
    wpAny (model X.prog X.w) X.A (noteFrame e X.env) (fun _ s2 => wpAny (model X.prog X.w) X.A (setFlight e none) (fun _ s3 => wpAny (model X.prog X.w) X.A (handleBy e X.env hs) Q XE s3) XE s2) XE s' := by
  obtain ⟨ea, cls, a0, od, H', B, rfl, fly, dc, hB, hH, os, bare, un, hok, hE⟩ := cx
  obtain ⟨T, be, bT, fly2⟩ := fly_less fly
  have fly2' := fly2
  rw [hst] at fly2'
  have apart : ∀ {b o}, B.get? b = some o → b ∉ frs X.stack → b ∉ frs X.stack ++ [ea, T] := fun {b o} hb nf hx => by
    rcases List.mem_append.mp hx with h | h
    · exact nf h
    · rcases (show b = ea ∨ b = T by simpa using h) with rfl | rfl
      · rw [be] at hb; cases hb
      · rw [bT] at hb; cases hb
  have fr' : ∀ b ∈ frs X.stack, H' b = none := fun b hb => by
    obtain ⟨_, o, ho, _⟩ := I.stack.mem hb
    exact un.free b o ho (I.stkFree b hb) (by simp)
  refine looksD (B := less s'.heap (frs (X.env :: X.outer) ++ [ea, T])) (by rw [I.ok.frames, hst]) hL (by rw [← hst] at fly2' ⊢; exact fly2') dc fun h4 held4 up4 dc4 => ?_
  refine landsD (s := { s' with heap := h4 }) held4 dc4 fun h5 fly5 up5 dc5 => ?_
  have up := up4.trans up5
  rw [← hst] at fly5
  have kH : ∀ {b o}, H' b = some o → b ∉ frs X.stack ++ [ea, T] := fun {b o} hb => by
    obtain ⟨o', h1⟩ := hH b o hb
    exact apart h1 fun z => by rw [fr' b z] at hb; cases hb
  have inv : ∀ h5, (less s'.heap (frs X.stack ++ [ea, T])).FlyingW X.stack ea cls a0 h5 → s'.heap.UpToSlots h5 → Inv X pins σ H' { s' with heap := h5 } := fun h5 fly5 up => by
    have stay : ∀ {b u}, b ∉ frs X.stack ++ [ea, T] → s'.heap.get? b = some u → h5.get? b = some u := fun {b u} hb hu => fly5.1 b u (by rw [less_out hb]; exact hu)
    have up1 : ∀ b o, s'.heap.get? b = some o → b ∈ frs X.stack → ∃ sl, h5.get? b = some { o with slots := sl } := fun b o ho hb => by
      obtain ⟨_, o2, e2, nf⟩ := fly.2.2.1.mem hb
      rw [ho] at e2
      cases e2
      exact up b o ho nf
    have un5 : Un (frs X.stack) [] H H' s.heap h5 := by
      refine ⟨fun b o e n nf nx => ?_, fun b o e n hb nx => ?_, un.free, fun b o e nx => ?_, un.tups, un.frzs, un.tbls⟩
      · obtain ⟨o', hb⟩ := hB b o e nf
        exact stay (apart hb nf) (un.keep b o e n nf nx)
      · obtain ⟨sl, e1⟩ := un.slot b o e n hb nx
        obtain ⟨sl', e2⟩ := up1 b _ e1 hb
        exact ⟨sl', e2⟩
      · obtain ⟨o', e1⟩ := un.there b o e nx
        by_cases hb : b ∈ frs X.stack
        · obtain ⟨sl', e2⟩ := up1 b _ e1 hb
          exact ⟨_, e2⟩
        · obtain ⟨o2, h2⟩ := hB b o e hb
          exact ⟨o', stay (apart h2 hb) e1⟩
    have hok5 : HOk X.prog X.w H' h5 := fun a o e => (hok a o e).stay (fun b u hc q => by
      rcases hc with rfl | hc
      · exact stay (kH e) q
      · exact stay (kH hc) q) (fun _ q => q) fun _ _ q => q
    exact I.call' (s' := { s' with heap := h5 }) (ch := []) os un5 hok5 bare (fun b z => absurd z (by simp))
  refine k ea cls a0 od H' (less s'.heap (frs X.stack ++ [ea, T])) _ rfl hE dc5 (inv h5 fly5 up) fly5 (fun b o hb => ?_) (fun b o hb nf => ?_) (fun h6 f6 u6 => inv h6 f6 (up.trans u6))
  · obtain ⟨u, hu⟩ := (hok b o hb).some_
    exact ⟨u, by rw [less_out (kH hb)]; exact hu⟩
  · obtain ⟨o2, h2⟩ := hB b o hb nf
    obtain ⟨o', e1⟩ := un.there b o hb (by simp)
    exact ⟨o', by rw [less_out (apart h2 nf)]; exact e1⟩
end
section
variable {X : Cx} {k : Nat} {f cR : Addr} {fd : FuncData} {ps : List Str} {sp : Sp} {dvs : List V} {ds : List Value} {x g n : Str} {np gp pos p2 p3 p4 : Pos} {a : Expr} {as : List Expr} {t : TA} {ts : TS} {i : Nat} {b₀ : Stmt} {suite : List Stmt} {L : Addr}
theorem run_fnD {pins : List (Addr × Obj)} {σ : St} {H : Hp} {s : Shared} {Q : VK} {E : XK} {us : List Value} {vs : List V} {XE : Value → Shared → Prop} (F : FnOk X.prog X.w X.K X.mg X.base (CX2 X.prog X.w) k f fd ps sp) (hr : Room k X.A) (hb : Binds X.K fd ps ds) (hd : Vals dvs ds)
    (I : Inv X pins σ H s) (r : Vals vs us) (h : sp (vs ++ dvs) H Q E) (hx : ∀ e s', CX2 X.prog X.w X.stack H s E e s' → XE e s') : wpAny (model X.prog X.w) X.A (call (.ref f) us) (EP X pins σ Q) XE s := by
  have r2 : Vals (vs ++ dvs) (us ++ ds) := r.append hd
  have hl : (us ++ ds).length = ps.length := by rw [← r2.length]; exact F.len _ _ _ _ h
  refine wpAny_call (codeAny_mono (F.run X.A X.stack s H ⟨us, []⟩ (us ++ ds) (vs ++ dvs) Q E hr I.env0 (hb s us I.kIn hl) r2 h) fun r s' hq => ?_)
  cases r with
  | error e => exact hx e s' hq
  | ok fl =>
    cases fl with
    | ret u => exact I.after hq
    | next => exact False.elim hq
    | brk => exact False.elim hq
    | cont => exact False.elim hq
end
end L2


set_option Elab.async false
set_option linter.all false
set_option maxRecDepth 100000
set_option maxHeartbeats 4000000
namespace L2
open PySem PySem.W PySem.Spec PySem.Calls PyProof.Rows
section
variable {X : Cx} {C R fI : Addr} {Bn : String}
/-- isinstance(e, c), e a caught exception of the own class C -/
def rIsD (K : PySem.W.Frag) (C : Addr) : List V → Hp → VK → Prop := fun xs H Q => ∃ (ea : Addr) (od : Option Addr) (c : V) (b : Bool), xs = [.ref ea, c] ∧ H ea = some (excD ea (.ref C) od) ∧ (∀ cv, RelV c cv → kitOne K (.ref C) cv = some b) ∧ Q (.bl b) H
theorem call_isd (R : XRead X.K C) (FB : ExcAttrFacts Bn) : CallR X (.builtin "isinstance") (rIsD X.K C) := by
  intro pins s σ H xs us Q I r h
  obtain ⟨ea, od, c, b, rfl, he, hk, q⟩ := h
  cases r with
  | cons r1 r =>
    cases r with
    | cons r2 r =>
      cases r
      cases r1
      obtain ⟨o, h1, h2, _⟩ := (I.hok ea _ he).1
      exact kia_one (kitx_exc (ea := ea) R FB) I.kIn ⟨o, h1, h2⟩ (hk _ r2) (by intro z; cases z) fun tk => ⟨.bl b, H, I.tok tk, rfl, q⟩
/-- isinstance(e, (c1, c2, ..)) -/
def rIsDT (K : PySem.W.Frag) (C : Addr) : List V → Hp → VK → Prop := fun xs H Q => ∃ (ea tp : Addr) (od : Option Addr) (cs : List V) (b : Bool), xs = [.ref ea, .ref tp] ∧ H ea = some (excD ea (.ref C) od) ∧ H tp = some (.tup cs) ∧ (∀ cvs, Vals cs cvs → kitAny K (.ref C) cvs = some b) ∧ Q (.bl b) H
theorem call_isdT (R : XRead X.K C) (FB : ExcAttrFacts Bn) : CallR X (.builtin "isinstance") (rIsDT X.K C) := by
  intro pins s σ H xs us Q I r h
  obtain ⟨ea, tp, od, cs, b, rfl, he, ht, hk, q⟩ := h
  cases r with
  | cons r1 r =>
    cases r with
    | cons r2 r =>
      cases r
      cases r1
      cases r2
      obtain ⟨o, h1, h2, _⟩ := (I.hok ea _ he).1
      obtain ⟨z, its, rv, ob, ho, hc, n, hd⟩ := (show ObjOk X.prog X.w H s.heap tp (.tup cs) from I.hok tp _ ht)
      obtain ⟨oc, od, odt, osl⟩ := ob
      dsimp only at hc hd
      subst hc hd
      exact kia_tup (kitx_exc (ea := ea) R FB) I.kIn ⟨o, h1, h2⟩ ho (hk _ rv) (by intro z; cases z) fun tk => ⟨.bl b, H, I.tok tk, rfl, q⟩
/-- e.at of a caught one -/
def tXat (C : Addr) (ta : TE) : TE := fun σ H Q => ta σ H fun x H1 => ∃ (ea d : Addr) (i : Int), x = .ref ea ∧ H1 ea = some (excD ea (.ref C) (some d)) ∧ H1 d = some (.xd [("at", .int i)]) ∧ Q (.int i) H1
theorem pe_xat {o : Expr} {ta : TE} {pos : Pos} (c : XIni X.K C R fI) (ha : PE X o ta) (hb : attributeBase o "at" X.env (eval o X.env) = eval o X.env := by rfl) : PE X (.Attribute o "at" pos) (tXat C ta) := by
  intro pins s σ H Q I h
  refine attr_of hb (thn (ha pins s σ H _ I h) fun u s1 ⟨x, H1, I1, r1, ea, d, i, ex, he, hd, q⟩ => ?_)
  subst ex
  obtain rfl : u = Value.ref ea := r1
  obtain ⟨ob, h1, h2, h3, h4⟩ := (I1.hok ea _ he).1
  obtain ⟨mA, ns, rl⟩ := (show ObjOk X.prog X.w H1 s1.heap d (.xd [("at", .int i)]) from I1.hok d _ hd)
  have ra := rl "at"
  rw [List.lookup_cons_self] at ra
  cases hv : mA "at" with
  | none => rw [hv] at ra; exact False.elim ra
  | some v =>
    rw [hv] at ra
    obtain ⟨tk, rfl⟩ := (show ∃ tk, v = Value.int i tk from ra)
    exact get_at c I1.kIn h1 h2 h3 h4 ns hv rfl ⟨.int i, H1, I1.tok _, ⟨_, rfl⟩, q⟩
end
end L2


set_option Elab.async false
set_option linter.all false
set_option maxRecDepth 100000
set_option maxHeartbeats 4000000
namespace L2
open PySem PySem.W PySem.Spec PySem.Calls PyProof.Rows
/-! ### a try whose one statement has the call of f within: x = f(..), x = g(f(..)), return f(..) -/
section
variable {X : Cx}
def PEr (X : Cx) (e : Expr) (f : Addr) (t : TA) (c : V → TE) : Prop := ∀ (XE : Value → Shared → Prop) (pins : List (Addr × Obj)) (s : Shared) (σ : St) (H : Hp) (Q : VK) (W : List V → Hp → Prop), Inv X pins σ H s → t σ H W →
  (∀ vs H1 s1 us, W vs H1 → Inv X pins σ H1 s1 → Vals vs us → wpAny (model X.prog X.w) X.A (call (.ref f) us) (EP X pins σ fun v H2 => c v σ H2 Q) XE s1) → wpAny (model X.prog X.w) X.A (eval e X.env) (EP X pins σ Q) XE s
def PSr (X : Cx) (st : Stmt) (f : Addr) (t : TA) (r : V → TS) : Prop := ∀ (XE : Value → Shared → Prop) (pins : List (Addr × Obj)) (s : Shared) (σ : St) (H : Hp) (D : Ends) (W : List V → Hp → Prop), Inv X pins σ H s → t σ H W →
  (∀ vs H1 s1 us, W vs H1 → Inv X pins σ H1 s1 → Vals vs us → wpAny (model X.prog X.w) X.A (call (.ref f) us) (EP X pins σ fun v H2 => r v D σ H2) XE s1) → wpAny (model X.prog X.w) X.A (exec st X.env) (SP X pins D) XE s
def cId : V → TE := fun v _ H Q => Q v H
theorem per_call {g : Str} {gp pos : Pos} {a : Expr} {as : List Expr} {t : TA} {f : Addr} (ha : PA X.nox (a :: as) t) (hgg : Gl X g) (hm : X.mg g = some (.ref f)) (kp : keepIn X.K (.ref f) = true) (hdg : (g == ("__debug__" : Str)) = false := by decide)
    (he : starEach (a :: as) X.env = (false, eval a X.env) :: starEach as X.env := by rfl) (hpl : (backTo pos (starEach as X.env)).any (·.1) = false := by rfl) : PEr X (.Call (.Name g gp) (a :: as) [] pos) f t cId := by
  intro XE pins s σ H Q W I h hW
  refine wpAny_Call_Name_kw (ld_glob I hgg hm (callWith_K (h₀ := X.base) I.ok.mod.kin kp (wpAny_mono (ha pos pins s σ H _ (I.wish _) h) (fun us s1 hu => ?_) fun _ _ z => False.elim z) he hpl) hdg)
  obtain ⟨vs, H1, I1', r, q⟩ := hu
  have I1 : Inv X pins σ H1 s1 := I1'.unwish
  exact ⟨I1.kIn, hW vs H1 s1 us q I1 r⟩
theorem psr_set {i : Nat} {x : Str} {e : Expr} {f : Addr} {t : TA} {c : V → TE} {pos pos' : Pos} (hN : X.N.Nodup) (hi : X.N[i]? = some x) (hx : Loc X.env.scope x) (he : PEr X e f t c) (hs : swapsWith e (some (.Name x pos')) pos.line X.env = pure false := by rfl) (hf : X.fn x = true ∨ X.env.scope.names.lookup x = some .local := by first | exact .inl rfl | exact .inr rfl | assumption) :
    PSr X (.Assign [.Name x pos'] e pos) f t (fun v D σ H => c v σ H fun y H1 => D.nx (σ.set i (some y)) H1) := by
  intro XE pins s σ H D W I h hW
  refine wpAny_Assign_Name (wpAny_mono (he XE pins s σ H (fun y H1 => D.nx (σ.set i (some y)) H1) W I h hW) (fun v s1 hv => ?_) fun _ _ z => z) hs
  obtain ⟨y, H1, I1, r1, q1⟩ := hv
  exact store_ok I1 hN hi hx r1 (fun s2 I2 => ⟨_, H1, I2, q1⟩) hf
end
def tTryG (K : PySem.W.Frag) (sp : Sp) (dvs : List V) (t : TA) (r : V → TS) (i : Nat) (cR : Value) (ts : TS) : TS := fun D σ H => t σ H fun vs H1 =>
  sp (vs ++ dvs) H1 (fun v H2 => r v D σ H2) fun cls od H2 => exmOne K cls cR = some true ∧ ∀ ea, H2 ea = none → ts (D.less i) (σ.set i (some (.ref ea))) (upd H2 ea (excD ea cls od))
section
variable {X : Cx} {k : Nat} {f cR : Addr} {fd : FuncData} {ps : List Str} {sp : Sp} {dvs : List V} {ds : List Value} {x n : Str} {np p3 p4 : Pos} {t : TA} {ts : TS} {i : Nat} {st b₀ : Stmt} {suite : List Stmt} {L : Addr} {r : V → TS}
theorem ps_tryG (hst0 : PSr X st f t r) (F : FnOk X.prog X.w X.K X.mg X.base (CX2 X.prog X.w) k f fd ps sp) (hr : Room k X.A) (hb : Binds X.K fd ps ds) (hd : Vals dvs ds)
    (hst : X.stack = X.env :: X.outer) (hL : X.env.frame = some L) (hLl : X.env.locals = L) (hex : X.ex = []) (hg : Gl X x) (hmg : X.mg x = some (.ref cR)) (hN : X.N.Nodup) (hi : X.N[i]? = some n) (hn : X.env.kindOf n = some .local)
    (hs : ∀ ea, PSs (X.inSuite ea) (b₀ :: suite) ts) (hdb : (x == ("__debug__" : Str)) = false := by decide) :
    PS X (.Try [st] [.ExceptHandler (some (.Name x np)) (some n) (b₀ :: suite) p3] [] [] p4) (tTryG X.K sp dvs t r i (.ref cR) ts) := by
  intro pins s σ H D I h
  refine wpAny_Try_except (wpAny_execs_cons (wpAny_mono (hst0 _ pins s σ H D _ I h fun vs H1 s1 us q I1 r => ?_) (fun fl s1 q => ?_) fun _ _ z => z))
  · refine run_fnD F hr hb hd I1 r q fun e s' cx => ?_
    refine caughtD I1 hst hL cx fun ex cls a0 od H' B s2 ee hE dc I2 fly hH hB again => ?_
    subst ee
    obtain ⟨hcls, hsuite⟩ := hE
    obtain ⟨oe, vs, T, oT, tss, g1, g2, g3, g4, g5, g6, g7, g8, g9⟩ := fly.2.2.2
    have nfr : ex ∉ frs X.stack := fun z => by
      obtain ⟨_, o2, e2, nf⟩ := fly.2.2.1.mem z
      rw [g1] at e2
      cases e2
      exact nf _ g3
    have apart : ∀ {b o}, s1.heap.get? b = some o → b ≠ ex := fun {b o} hb z => by
      subst z
      obtain ⟨o', h'⟩ := hB b o hb nfr
      rw [fly.2.1] at h'
      cases h'
    have hnone : H' ex = none := by
      cases e : H' ex with
      | none => rfl
      | some o' =>
        obtain ⟨o2, h2⟩ := hH ex o' e
        rw [fly.2.1] at h2
        cases h2
    have IS := I2.suite ex
    refine wpAny_handleBy_cons (codeAny_handlers_test (ld_glob IS hg hmg ?_ hdb)) (by intro z; cases z)
    have LT : Looks (model X.prog X.w) s2.heap (typeOf (.ref ex)) cls := by
      have this : Looks (model X.prog X.w) s2.heap (typeOf (.ref ex)) oe.cls := (Looks.ld g1).andThen .now
      rw [g2.1] at this
      exact this
    refine (exm_one I2.kIn LT hcls).here ?_
    refine codeAny_handlers_suite_as (againD fly dc fun h6 fly6 up6 dc6 => ?_)
    have I6 := again h6 fly6 up6
    obtain ⟨oe6, vs6, T6, oT6, ts6, k1, k2, k3, _⟩ := fly6.2.2.2
    obtain ⟨oe7, k4, k5⟩ := dc6
    cases k1.symm.trans k4
    have I7 := I6.trackD (cls := cls) (od := od) hnone (by
      cases e : X.s₀.heap.get? ex with
      | none => rfl
      | some o' =>
        obtain ⟨o2, h2⟩ := I1.base.there ex o' e (by rw [hex]; simp)
        exact absurd rfl (apart h2)) (fun z => nfr (by
          rw [hst, z, hLl]
          unfold frs
          rw [List.filterMap_cons, hL]
          simp)) (fun y c e => by
        obtain ⟨v, oc, hc, _⟩ := I1.cell y c e
        exact apart hc) (fun p hp => apart (I1.pin p hp).1) ⟨oe6, k1, k2.1, by unfold notCls; rw [k3], k5⟩
    refine store_ok I7 hN hi (.inl hn) (v := .ref ex) (u := .ref ex) rfl (fun s8 I8 => ?_) (.inr hn)
    refine wpAny_mono (hs ex pins s8 _ _ _ (I8.suite ex) (hsuite ex hnone)) (fun fl s9 q9 => ?_) fun _ _ z => False.elim z
    show wpAny _ _ _ _ _ _
    cases fl with
    | next =>
      obtain ⟨σ9, H9, I9, q⟩ := q9
      exact forget_ok (I9.unsuite I.ok) hN hi hn fun s10 I10 => ⟨_, H9, I10, q⟩
    | brk =>
      obtain ⟨σ9, H9, I9, q⟩ := q9
      exact forget_ok (I9.unsuite I.ok) hN hi hn fun s10 I10 => ⟨_, H9, I10, q⟩
    | cont =>
      obtain ⟨σ9, H9, I9, q⟩ := q9
      exact forget_ok (I9.unsuite I.ok) hN hi hn fun s10 I10 => ⟨_, H9, I10, q⟩
    | ret u =>
      obtain ⟨v, σ9, H9, I9, r, q⟩ := q9
      exact forget_ok (I9.unsuite I.ok) hN hi hn fun s10 I10 => ⟨v, _, H9, I10, r, q⟩
  · cases fl with
    | next => exact wpAny_execs_nil (wpAny_execs_nil q)
    | brk => exact q
    | cont => exact q
    | ret u => exact q
end
end L2


set_option Elab.async false
set_option linter.all false
set_option maxRecDepth 100000
set_option maxHeartbeats 4000000
namespace L2
open PySem PySem.Spec PyProof.Rows
section
variable {X : Cx}
/-! ### sum(list of ints) -/
end
end L2


set_option Elab.async false
set_option linter.all false
set_option maxRecDepth 100000
set_option maxHeartbeats 4000000
namespace L2
open PySem PySem.Spec PyProof.Rows


section
variable {X : Cx} {scope : Scope} {N' : List Str} {fr : List (Option Nat)} {pins : List (Addr × Obj)} {σ : St} {H : Hp} {s : Shared} {fp : List Addr} {y0 : Str}
end
end L2


set_option Elab.async false
set_option linter.all false
set_option maxRecDepth 100000
set_option maxHeartbeats 4000000
namespace L2
open PySem PySem.Spec PyProof.Rows

end L2


set_option Elab.async false
set_option linter.all false
set_option maxRecDepth 100000
set_option maxHeartbeats 4000000
namespace L2
open PySem PySem.Spec PyProof.Rows
/-! ### t + u, either may be empty; the outcome told in one way -/
end L2


set_option Elab.async false
set_option linter.all false
set_option maxRecDepth 100000
set_option maxHeartbeats 4000000
namespace L2
open PySem PySem.Spec PyProof.Rows
section
variable {X : Cx}
end
end L2


set_option Elab.async false
set_option linter.all false
set_option maxRecDepth 100000
set_option maxHeartbeats 4000000
namespace L2
open PySem PySem.Spec PyProof.Rows
section
variable {prog : Program} {w : World} {A : Around} {E : Value → Shared → Prop} {s : Shared}
end
end L2


set_option Elab.async false
set_option linter.all false
set_option maxRecDepth 100000
set_option maxHeartbeats 4000000
namespace L2
open PySem PySem.Spec PyProof.Rows
section
variable {prog : Program} {w : World} {A : Around} {E : Value → Shared → Prop} {s : Shared}
end
section
variable {X : Cx}
end
end L2


set_option Elab.async false
set_option linter.all false
set_option maxRecDepth 100000
set_option maxHeartbeats 4000000
namespace L2
open PySem PySem.Spec PyProof.Rows
theorem comp_tup {K : PySem.W.Frag} {a : Addr} {xs : List V} {g : TG} {tt : TT} {te : TE} {R : Hp → Prop} {D : Addr} {σ0 : St} {H0 : Hp} (Pv : Nat → St → List V → Hp → Prop) (h0 : Pv 0 σ0 [] H0) (hl : ∀ i σ ys H, i ≤ xs.length → Pv i σ ys H → SqT K H a xs)
    (hs : ∀ i x σ ys H, xs[i]? = some x → Pv i σ ys H → g x σ H fun σ2 H2 => tt σ2 H2 fun b H3 =>
      if b = true then te σ2 H3 fun v H4 => H4 D = some (.lst ys) ∧ ys.length < sizeLine ∧ Pv (i + 1) σ2 (ys ++ [v]) (upd H4 D (.lst (ys ++ [v]))) else Pv (i + 1) σ2 ys H3)
    (hd : ∀ σ ys H, Pv xs.length σ ys H → R H) :
    ∃ W : Nat → Nat → St → List V → Hp → Prop, (∃ m, W 0 m σ0 [] H0) ∧ ∀ i m σ ys H, W i m σ ys H →
      ((Itt K a).stop i H ∧ R H) ∨ ((Itt K a).go i H ∧ ∃ N : St → List V → Hp → Prop, (∀ σ' ys' H', N σ' ys' H' → ∃ m', m' < m ∧ W (i + 1) m' σ' ys' H') ∧ ∀ x H', (Itt K a).yld i H x H' → g x σ H' fun σ2 H2 => tt σ2 H2 fun b H3 =>
        if b = true then te σ2 H3 fun v H4 => H4 D = some (.lst ys) ∧ ys.length < sizeLine ∧ N σ2 (ys ++ [v]) (upd H4 D (.lst (ys ++ [v]))) else N σ2 ys H3) := by
  refine ⟨fun i m σ ys H => m = xs.length - i ∧ i ≤ xs.length ∧ Pv i σ ys H, ⟨xs.length, by simp, Nat.zero_le _, h0⟩, ?_⟩
  rintro i m σ ys H ⟨rfl, hi, p⟩
  have q := hl i σ ys H hi p
  by_cases hlt : i < xs.length
  · refine .inr ⟨⟨xs, xs[i], q, by simp [hlt]⟩, Pv (i + 1), fun σ' ys' H' p' => ⟨xs.length - (i + 1), by omega, rfl, hlt, p'⟩, fun x H' y => ?_⟩
    obtain ⟨e, y⟩ := y
    subst e
    exact hs i x σ ys _ (y xs q) p
  · have e : i = xs.length := by omega
    subst e
    exact .inl ⟨⟨xs, q, Nat.le_refl _⟩, hd σ ys H p⟩
end L2


set_option Elab.async false
set_option linter.all false
set_option maxRecDepth 100000
set_option maxHeartbeats 4000000
namespace My
open PySem L2
def top (i : Nat) : Stmt := PySem.Challenge.pw_widenrows_k15_units_of_any_kind.main.body.getD i (.Pass ⟨0, 0, 0, 0⟩)
abbrev sGoesOn : Stmt := top 10
abbrev sTargets : Stmt := top 11
abbrev sWithT : Stmt := top 12
abbrev sWholeF : Stmt := top 17
abbrev sNumOf : Stmt := top 18
abbrev sHasFar : Stmt := top 19
abbrev sSize : Stmt := top 22
abbrev sBegins : Stmt := top 23
abbrev sWholeAt : Stmt := top 30
abbrev sFits : Stmt := top 31
abbrev sTableAt : Stmt := top 32
abbrev sNumAt : Stmt := top 33
abbrev sPartAt : Stmt := top 34
abbrev sJumpAt : Stmt := top 35
abbrev sRowAt : Stmt := top 36
abbrev sRowsWD : Stmt := top 37
abbrev sRowsOU : Stmt := top 38
abbrev sStream : Stmt := top 41
abbrev sLWhole : Stmt := top 42
abbrev sLFirst : Stmt := top 43
abbrev sLNext : Stmt := top 44
abbrev sLTable : Stmt := top 45
abbrev sLed : Stmt := top 46
abbrev sDue : Stmt := top 47
abbrev sLRead : Stmt := top 48
abbrev sLUnit : Stmt := top 49
abbrev sRightL : Stmt := top 50
abbrev sLaw : Stmt := top 51
theorem bt_list : bootBuiltins "list" = some (.type "list") := by decide +kernel
theorem bt_tuple : bootBuiltins "tuple" = some (.type "tuple") := by decide +kernel
theorem bt_bool : bootBuiltins "bool" = some (.type "bool") := by decide +kernel
theorem bt_len : bootBuiltins "len" = some (.builtin "len") := by decide +kernel
theorem bt_isi : bootBuiltins "isinstance" = some (.builtin "isinstance") := by decide +kernel
theorem at0 {α : Type} (a : α) (r : List α) : atI (a :: r) 0 = some a := atI_nat (j := 0) rfl
theorem at1 {α : Type} (a b : α) (r : List α) : atI (a :: b :: r) 1 = some b := atI_nat (j := 1) rfl
theorem at2 {α : Type} (a b c : α) (r : List α) : atI (a :: b :: c :: r) 2 = some c := atI_nat (j := 2) rfl
theorem strEq {a b : Str} (h : decide (V.str a = V.str b) = true) : a = b := V.str.inj (of_decide_eq_true h)
theorem strNe {a b : Str} (h : ¬ decide (V.str a = V.str b) = true) : ¬ a = b := fun e => h (by rw [e]; exact decide_eq_true rfl)
/-! ### words -/
theorem inV_str (w : Str) : ∀ ss : List Str, inV (.str w) (ss.map V.str) = decide (w ∈ ss)
  | [] => rfl
  | x :: r => by
    have ih := inV_str w r
    unfold inV at ih ⊢
    rw [List.map_cons, List.any_cons, ih]
    show ((x == w) || _) = _
    by_cases h : x = w
    · subst h
      simp
    · have h' : ¬ w = x := fun e => h e.symm
      simp [h, h']
theorem same_new {H : Hp} {l : Addr} {o : HO} (h : H l = none) : Same H (upd H l o) := fun b u e => by
  rw [upd_ne (ne_of_none e h)]
  exact e
theorem bt_int : bootBuiltins "int" = some (.type "int") := by decide +kernel
/-! ### small steps of a reading -/
theorem same_put {H H1 : Hp} {l : Addr} {o : HO} (e : Same H H1) (h : H l = none) : Same H (upd H1 l o) := fun b u z => by
  rw [upd_ne (ne_of_none z h)]
  exact e b u z
def all20 : List Str := ["stop", "back", "halt", "set", "more", "copy", "add", "less", "load", "keep", "tell", "see", "put", "take", "jump", "zero", "below", "call", "mark", "table"]
def w2 : List Str := ["copy", "add", "less", "load", "keep"]
def w1 : List Str := ["set", "more", "tell", "see", "put", "take", "zero", "below", "table"]
/-- what stands behind a word -/
def ItemsOk (u : Str) (items : List V) : Prop := (u ∈ w2 → ∃ b c : Int, items = [.int b, .int c]) ∧ (u ∈ w1 → ∃ (b : Int) (r : List V), items = .int b :: r)
theorem ItemsOk.one {u : Str} {b : Int} {r : List V} (h : ¬ u ∈ w2) : ItemsOk u (.int b :: r) := ⟨fun z => absurd z h, fun _ => ⟨b, r, rfl⟩⟩
theorem kit_ty {K : PySem.W.Frag} {a b : String} {r : Bool} (h1 : (Value.type a == Value.type b) = false) (h2 : PySem.W.kitMeta b = true) (h3 : (fastBuiltinMro a).map (·.contains (Value.type b)) = some r) : PySem.W.kitOne K (.type a) (.type b) = some r := by
  unfold PySem.W.kitOne
  rw [if_neg (by rw [h1]; decide)]
  show (if PySem.W.kitMeta b = true then (fastBuiltinMro a).map (·.contains (Value.type b)) else none) = some r
  rw [if_pos h2]
  exact h3
theorem kit_eq {K : PySem.W.Frag} {a : String} (h : (Value.type a == Value.type a) = true) : PySem.W.kitOne K (.type a) (.type a) = some true := by
  unfold PySem.W.kitOne
  rw [if_pos h]
theorem k_int_bool {K : PySem.W.Frag} : PySem.W.kitOne K (.type "int") (.type "bool") = some false := kit_ty (by decide) (by decide +kernel) (by decide +kernel)
theorem k_int_int {K : PySem.W.Frag} : PySem.W.kitOne K (.type "int") (.type "int") = some true := kit_eq (by decide)
theorem k_list_list {K : PySem.W.Frag} : PySem.W.kitOne K (.type "list") (.type "list") = some true := kit_eq (by decide)
def notOn : List Str := ["stop", "back", "halt", "jump"]
def jcm : List Str := ["jump", "call", "mark"]
def zb : List Str := ["zero", "below"]
/-- what a row's own parts tell of its targets -/
def Parts (H : Hp) (w : Str) (items : List V) (ts : List Int) : Prop :=
  if w = "table" then ∃ (b : V) (q : Addr), items = [b, .ref q] ∧ H q = some (.tup (ts.map V.int))
  else if w ∈ jcm then ∃ (t : Int) (f : V), items = [.int t, f] ∧ ts = [t]
  else if w ∈ zb then ∃ (b : V) (t : Int) (f : V), items = [b, .int t, f] ∧ ts = [t] else ts = []
/-- a row at r: its word, its targets -/
def RowAt (H : Hp) (r : Addr) (w : Str) (ts : List Int) : Prop := ∃ items, H r = some (.tup (.str w :: items)) ∧ Parts H w items ts
def kinds : List (Str × List Str) := [("stop", []), ("back", []), ("halt", ["number"]), ("set", ["box", "value"]), ("more", ["box", "value"]), ("copy", ["box", "box"]), ("add", ["box", "box"]), ("less", ["box", "box"]), ("load", ["box", "box"]), ("keep", ["box", "box"]),
  ("tell", ["box"]), ("see", ["box", "number"]), ("put", ["box", "aside"]), ("take", ["box", "aside"]), ("jump", ["target", "far"]), ("zero", ["box", "target", "far"]), ("below", ["box", "target", "far"]), ("call", ["target", "far"]), ("mark", ["target", "far"]), ("table", ["box", "targets"])]
def five : List Str := ["jump", "call", "mark", "zero", "below"]
def six : List Str := ["set", "more", "put", "take", "see", "halt"]
def heads : List (Str × Int) := [("stop", 0), ("back", 0), ("halt", 0), ("set", 0), ("more", 0), ("copy", 0), ("add", 0), ("less", 0), ("load", 0), ("keep", 0), ("tell", 0), ("see", 0), ("put", 0), ("take", 0), ("jump", 0), ("zero", 0), ("below", 0), ("call", 0), ("mark", 0), ("table", 0), ("jump", 1), ("zero", 1), ("below", 1), ("call", 1), ("mark", 1)]
def bounds : List (Str × Int × Int) := [("box", 0, 7), ("aside", 0, 1000000), ("target", 0, 1000000000), ("number", 0, 1000000), ("value", -1000000000, 1000000000), ("far", 0, 1)]
/-- what the walk asks of the module -/
structure Txt (K : PySem.W.Frag) (pr : Params) (mg : Str → Option Value) : Prop where
  prt : ∃ p, mg "PARTS" = some (.ref p) ∧ ∀ x ∈ kinds, ∃ q, KHas K pr p x.1 (some (.ref q)) ∧ ∀ H, SqT K H q (x.2.map V.str)
  two : ∃ p, mg "TWO_UNITS" = some (.ref p) ∧ ∀ H, SqT K H p (six.map V.str)
  cst : ∃ t, mg "CODE_STEP" = some (.int 1024 t)
  bst : ∃ t, mg "BOX_STEP" = some (.int 128 t)
  sad : ∃ t, mg "SHORT_ADDED" = some (.int 64 t)
  hds : ∃ p, mg "HEADS" = some (.ref p) ∧ (∃ o, K.lookup p = some o ∧ o.cls = .type "tuple" ∧ o.dict = none) ∧ ∀ H, ∃ qs : List Addr, SqT K H p (qs.map V.ref) ∧ qs.length = heads.length ∧ ∀ (i : Nat) q h, qs[i]? = some q → heads[i]? = some h → SqT K H q [.str h.1, .int h.2]
  hdq : ∃ (p : Addr) (qs : List Addr), mg "HEADS" = some (.ref p) ∧ (∀ H, SqT K H p (qs.map V.ref)) ∧ qs.length = heads.length ∧ ∀ (i : Nat) q h, qs[i]? = some q → heads[i]? = some h → ∀ H, SqT K H q [.str h.1, .int h.2]
  prk : ∃ p, mg "PARTS" = some (.ref p) ∧ ∀ x ∈ kinds, ∃ q, KHas K pr p x.1 (some (.ref q)) ∧ (∃ o, K.lookup q = some o ∧ o.cls = .type "tuple" ∧ o.dict = none) ∧ ∀ H, SqT K H q (x.2.map V.str)
  bnd : ∃ p, mg "BOUNDS" = some (.ref p) ∧ ∀ x ∈ bounds, ∃ q, KHas K pr p x.1 (some (.ref q)) ∧ ∀ H, SqT K H q [.int x.2.1, .int x.2.2]
  mtg : ∃ t, mg "MOST_TARGETS" = some (.int 16 t)
  bxs : ∃ t, mg "BOXES" = some (.int 8 t)
  non : ∃ p, mg "NOT_GOING_ON" = some (.ref p) ∧ ∀ H, SqT K H p (notOn.map V.str)
  len : mg "len" = none
  list : mg "list" = none
  tuple : mg "tuple" = none
  int : mg "int" = none
  bool : mg "bool" = none
  isi : mg "isinstance" = none
  enum : mg "enumerate" = none
  range : mg "range" = none
  dict : mg "dict" = none
/-- how many parts a word has -/
def ksOf (u : Str) : List Str := ((kinds.find? fun x => x.1 == u).map (·.2)).getD []
def arI (u : Str) : Nat := (ksOf u).length
theorem small_len {n : Nat} (h : n ≤ 1000000) : n ≤ sizeLine := Nat.le_trans h (by decide)
theorem small_lt {n : Nat} (h : n ≤ 1000000) : n < sizeLine := Nat.lt_of_le_of_lt h (by decide)
/-! ### rows as data: word, numbers, targets -/
structure FR where
  u : Str
  is : List Int
  ts : List Int
/-- numbers and targets by the word -/
def FR.Ok (d : FR) : Prop := d.u ∈ all20 ∧ (d.u = "table" → ∃ b, d.is = [b]) ∧ (d.u ∈ jcm → ∃ t f, d.is = [t, f] ∧ d.ts = [t]) ∧ (d.u ∈ zb → ∃ b t f, d.is = [b, t, f] ∧ d.ts = [t]) ∧
  (¬ d.u = "table" → ¬ d.u ∈ jcm → ¬ d.u ∈ zb → d.ts = [] ∧ d.is.length = arI d.u) ∧ (d.u ∈ w2 → ∃ b c, d.is = [b, c]) ∧ (d.u ∈ w1 → ∃ b r, d.is = b :: r)
def FRAt (H : Hp) (q : Addr) (d : FR) : Prop := (d.u = "table" ∧ ∃ b p, d.is = [b] ∧ H q = some (.tup [.str d.u, .int b, .ref p]) ∧ H p = some (.tup (d.ts.map V.int))) ∨ (¬ d.u = "table" ∧ H q = some (.tup (.str d.u :: d.is.map V.int)))
def RowF (H : Hp) (q : Addr) (d : FR) : Prop := d.Ok ∧ FRAt H q d
theorem RowF.same {H H' : Hp} {q : Addr} {d : FR} (s : Same H H') (h : RowF H q d) : RowF H' q d := by
  obtain ⟨o, h⟩ := h
  refine ⟨o, ?_⟩
  rcases h with ⟨a, b, p, e, h1, h2⟩ | ⟨a, h1⟩
  · exact .inl ⟨a, b, p, e, s _ _ h1, s _ _ h2⟩
  · exact .inr ⟨a, s _ _ h1⟩
/-- what the functions of rows ask for -/
theorem RowF.parts {H : Hp} {q : Addr} {d : FR} (h : RowF H q d) : ∃ items, H q = some (.tup (.str d.u :: items)) ∧ ItemsOk d.u items ∧ Parts H d.u items d.ts ∧ ∀ (i : Nat) (b : Int), (d.u ∈ w1 ∨ d.u ∈ w2) → i < 2 → (d.u ∈ w1 → i = 0) → (items[i]? = some (.int b) ↔ d.is[i]? = some b) := by
  obtain ⟨⟨hu, h1, h2, h3, h4, h5, h6⟩, h⟩ := h
  rcases h with ⟨a, b, p, e, g1, g2⟩ | ⟨a, g1⟩
  · refine ⟨_, g1, ItemsOk.one (by rw [a]; decide), ?_, fun i b' _ hi hw => ?_⟩
    · unfold Parts
      rw [if_pos a]
      exact ⟨_, p, rfl, g2⟩
    · have : i = 0 := hw (by rw [a]; decide)
      subst this
      rw [e]
      simp
  · refine ⟨_, g1, ⟨fun z => ?_, fun z => ?_⟩, ?_, fun i b' _ hi hw => ?_⟩
    · obtain ⟨b, c, e⟩ := h5 z
      exact ⟨b, c, by rw [e]; rfl⟩
    · obtain ⟨b, r, e⟩ := h6 z
      exact ⟨b, r.map V.int, by rw [e]; rfl⟩
    · unfold Parts
      rw [if_neg a]
      split
      · rename_i z
        obtain ⟨t, f, e1, e2⟩ := h2 z
        exact ⟨t, .int f, by rw [e1]; rfl, e2⟩
      · rename_i z1
        split
        · rename_i z
          obtain ⟨b, t, f, e1, e2⟩ := h3 z
          exact ⟨.int b, t, .int f, by rw [e1]; rfl, e2⟩
        · rename_i z2
          exact (h4 a z1 z2).1
    · rw [List.getElem?_map, Option.map_eq_some_iff]
      exact ⟨fun ⟨y, e1, e2⟩ => by cases e2; exact e1, fun e => ⟨b', e, rfl⟩⟩
/-- the rows of a list -/
def RowsF (H : Hp) (lr : Addr) (ds : List FR) : Prop := ∃ qs : List Addr, H lr = some (.lst (qs.map V.ref)) ∧ qs.length = ds.length ∧ ∀ (i : Nat) q d, qs[i]? = some q → ds[i]? = some d → RowF H q d
theorem RowsF.same {H H' : Hp} {lr : Addr} {ds : List FR} (s : Same H H') (h : RowsF H lr ds) : RowsF H' lr ds := by
  obtain ⟨qs, a, b, c⟩ := h
  exact ⟨qs, s _ _ a, b, fun i q d h1 h2 => (c i q d h1 h2).same s⟩
def isStar : Expr → Bool
  | .Starred _ _ => true
  | _ => false
theorem star_no {e : Expr} {es : List Expr} {env : Env} (h : isStar e = false) : starEach (e :: es) env = (false, eval e env) :: starEach es env := starEach.eq_3 _ _ _ (fun e1 p h1 => by rw [h1] at h; cases h)
/-! ### a display of many things: its parts shut off one by one -/
inductive PAs (X : Cx) : List Expr → List TE → Prop where
  | nil : PAs X [] []
  | cons {e : Expr} {te : TE} {es : List Expr} {ts : List TE} (h : PE X e te) (r : PAs X es ts) (hs : isStar e = false := by rfl) : PAs X (e :: es) (te :: ts)
def tAll : List TE → TA
  | [] => tNil
  | te :: ts => tCons te (tAll ts)
theorem PAs.pa {X : Cx} {es : List Expr} {ts : List TE} (h : PAs X es ts) : PA X es (tAll ts) := by
  induction h with
  | nil => exact pa_nil
  | cons h r hs ih => exact pa_cons h ih (star_no hs)
theorem pe_tupS {X : Cx} {es : List Expr} {ts : List TE} {pos : Pos} {x1} (h : PAs X es ts) : PE X (.Tuple es x1 pos) (tTup (tAll ts)) := pe_tup h.pa
/-! ### a display of many constants: shut off, else the reading of the goal runs through it -/
@[irreducible] def PEi (X : Cx) (e : Expr) (t : TE) : Prop := PE X e t
@[irreducible] def PSi (X : Cx) (e : Stmt) (t : TS) : Prop := PS X e t
theorem pei_lst {X : Cx} {es : List Expr} {ts : List TE} {pos : Pos} (h : PAs X es ts) : PEi X (.List es pos) (tLst (tAll ts)) := by
  unfold PEi
  exact pe_lst h.pa
theorem psi_set {X : Cx} {pos : Pos} {i : Nat} {x : Str} {e : Expr} {te : TE} {pos' : Pos} (hN : X.N.Nodup) (hi : X.N[i]? = some x) (hx : Loc X.env.scope x) (he : PEi X e te) (hs : swapsWith e (some (.Name x pos')) pos.line X.env = pure false := by rfl) (hf : X.fn x = true ∨ X.env.scope.names.lookup x = some .local := by first | exact .inl rfl | exact .inr rfl | assumption) :
    PSi X (.Assign [.Name x pos'] e pos) (tAsg te (gName i)) := by
  unfold PEi at he
  unfold PSi
  exact ps_set hN hi hx he hs hf
theorem psx_of_i {X : Cx} {st : Stmt} {t : TS} (h : PSi X st t) : PSx X st t := by
  unfold PSi at h
  exact psx_of h
theorem iteP {c A B : Prop} [Decidable c] (h : c) (a : A) : if c then A else B := by rw [if_pos h]; exact a
theorem iteN {c A B : Prop} [Decidable c] (h : ¬ c) (b : B) : if c then A else B := by rw [if_neg h]; exact b
def farF (d : FR) : Int := d.is.getLastD 0
def szF (d : FR) : Int := if d.u = "table" then 2 + d.ts.length else if d.u ∈ five then 1 + farF d else if d.u ∈ six then 2 else 1
theorem five_row {H : Hp} {q : Addr} {d : FR} (h : RowF H q d) (hu : d.u ∈ five) : ¬ d.u = "table" ∧ H q = some (.tup (.str d.u :: d.is.map V.int)) ∧ atI (V.str d.u :: d.is.map V.int) (-1) = some (.int (farF d)) ∧ ∃ t, d.ts = [t] ∧ atI (V.str d.u :: d.is.map V.int) (-2) = some (.int t) := by
  have nt : ¬ d.u = "table" := fun z => absurd hu (by rw [z]; decide)
  have hc := (by decide +kernel : ∀ u ∈ five, u ∈ jcm ∨ u ∈ zb) _ hu
  rcases h.2 with ⟨z, _⟩ | ⟨_, e⟩
  · exact absurd z nt
  · refine ⟨nt, e, ?_⟩
    unfold farF
    rcases hc with z | z
    · obtain ⟨t, f, e1, e2⟩ := h.1.2.2.1 z
      rw [e1]
      exact ⟨rfl, t, e2, rfl⟩
    · obtain ⟨b, t, f, e1, e2⟩ := h.1.2.2.2.1 z
      rw [e1]
      exact ⟨rfl, t, e2, rfl⟩
theorem kinds_far : ∀ x ∈ kinds, (decide (("far" : Str) ∈ x.2)) = decide (x.1 ∈ five) := by decide +kernel
theorem kinds_all : ∀ u ∈ all20, ∃ ks, (u, ks) ∈ kinds := fun u hu => by
  have : u ∈ kinds.map (·.1) := (by decide +kernel : ∀ u ∈ all20, u ∈ kinds.map (·.1)) u hu
  obtain ⟨x, hx, rfl⟩ := List.mem_map.mp this
  exact ⟨x.2, hx⟩
end My


set_option Elab.async false
set_option linter.all false
set_option maxRecDepth 100000
set_option maxHeartbeats 4000000
namespace My
open PySem L2
section
variable {P : Program} {w : World} {K : PySem.W.Frag} {mg : Str → Option Value} {base : Heap}
/-! ### targets_of -/
def spTargets : Sp := fun vs H Q _ => ∃ (r : Addr) (w : Str) (ts : List Int), vs = [.ref r] ∧ RowAt H r w ts ∧ ∀ (l : Addr) (H' : Hp), Same H H' → H l = none → H' l = some (.lst (ts.map V.int)) → Q (.ref l) H'
theorem scTargets : FnScope ["row", "word"] ["row"] (defScope sTargets) := ⟨rfl, rfl, rfl, by decide +kernel, rfl, by decide +kernel, by decide +kernel⟩
theorem ok_targets {f : Addr} {fd : FuncData} (F : Fun K "targets_of" "targets_of" sTargets f fd) (T : Txt K w.params mg) : FnOk P w K mg base CX0 1 f fd ["row"] spTargets := by
  refine F.ok scTargets (fun vs H Q E h => ?_) (fun cdv A outer s H vs Q E hr h => ?_)
  · obtain ⟨r, w, ts, rfl, _⟩ := h
    rfl
  · obtain ⟨r, w', ts, rfl, ⟨items, hR, hP⟩, k⟩ := h
    refine ⟨_, pss_cons (ps_set (i := 1) scTargets.nd rfl (Or.inl rfl) (pe_ix ix_tup (pv 0) pe_int (fun _ _ => rfl)))
      (pss_cons (ps_if (pt_cmpR op_eq (pv 1) pe_str (nomark _)) (pss_one (ps_ret (pe_callTy call_list_of (by rfl) T.list bt_list (pa_cons (pe_ix ix_tup (pv 0) pe_int (fun _ _ => rfl)) pa_nil)))) pss_nil)
      (pss_cons (ps_if (pt_cmpR op_in_seq (pv 1) (pe_tup (pa_cons pe_str (pa_cons pe_str (pa_cons pe_str pa_nil)))) rfl) (pss_one (ps_ret (pe_lst (pa_cons (pe_ix ix_tup (pv 0) pe_int (fun _ _ => rfl)) pa_nil)))) pss_nil)
      (pss_cons (ps_if (pt_cmpR op_in_seq (pv 1) (pe_tup (pa_cons pe_str (pa_cons pe_str pa_nil))) rfl) (pss_one (ps_ret (pe_lst (pa_cons (pe_ix ix_tup (pv 0) pe_int (fun _ _ => rfl)) pa_nil)))) pss_nil)
      (pss_one (ps_ret (pe_lst pa_nil)))))), ?_⟩
    refine ⟨_, rfl, r, _, 0, .str w', rfl, rfl, SqT.of hR, at0 _ _, _, rfl, rfl, _, rfl, ?_⟩
    refine ite2 (fun h1 => ?_) (fun h1 => ?_)
    · have h1 := strEq h1
      unfold Parts at hP
      rw [if_pos h1] at hP
      obtain ⟨b, q, rfl, hq⟩ := hP
      refine ⟨_, rfl, r, _, 2, .ref q, rfl, rfl, SqT.of hR, at2 _ _ _ _, q, _, rfl, .inr (SqT.of hq), fun l hl => ?_⟩
      exact k l _ (same_new hl) hl upd_same
    · have h1 := strNe h1
      unfold Parts at hP
      rw [if_neg h1] at hP
      refine ⟨_, rfl, (by show 3 ≤ sizeLine; decide), fun t ht => ⟨t, jcm.map V.str, rfl, .inr (SqT.of upd_same), rfl, rfl, _, rfl, ?_⟩⟩
      have s1 := same_new (o := .tup (jcm.map V.str)) ht
      have hR1 := s1 _ _ hR
      rw [show inV (.str w') (jcm.map V.str) = decide (w' ∈ jcm) from inV_str _ _]
      refine ite2 (fun h2 => ?_) (fun h2 => ?_)
      · have h2 := of_decide_eq_true h2
        rw [if_pos h2] at hP
        obtain ⟨t', f', rfl, rfl⟩ := hP
        refine ⟨_, rfl, r, _, 1, .int t', rfl, rfl, SqT.of hR1, at1 _ _ _, (by show 1 ≤ sizeLine; decide), fun l hl => ?_⟩
        exact k l _ (s1.trans (same_new hl)) (s1.free hl) upd_same
      · have h2 : ¬ w' ∈ jcm := fun e => h2 (decide_eq_true e)
        rw [if_neg h2] at hP
        refine ⟨_, rfl, (by show 2 ≤ sizeLine; decide), fun t2 ht2 => ⟨t2, zb.map V.str, rfl, .inr (SqT.of upd_same), rfl, rfl, _, rfl, ?_⟩⟩
        have s2 := s1.trans (same_new (o := .tup (zb.map V.str)) ht2)
        have hR2 := s2 _ _ hR
        rw [show inV (.str w') (zb.map V.str) = decide (w' ∈ zb) from inV_str _ _]
        refine ite2 (fun h3 => ?_) (fun h3 => ?_)
        · have h3 := of_decide_eq_true h3
          rw [if_pos h3] at hP
          obtain ⟨b, t', f', rfl, rfl⟩ := hP
          refine ⟨_, rfl, r, _, 2, .int t', rfl, rfl, SqT.of hR2, at2 _ _ _ _, (by show 1 ≤ sizeLine; decide), fun l hl => ?_⟩
          exact k l _ (s2.trans (same_new hl)) (s2.free hl) upd_same
        · have h3 : ¬ w' ∈ zb := fun e => h3 (decide_eq_true e)
          rw [if_neg h3] at hP
          subst hP
          refine ⟨(by show 0 ≤ sizeLine; decide), fun l hl => ?_⟩
          exact k l _ (s2.trans (same_new hl)) (s2.free hl) upd_same
/-! ### has_far -/
def spFar : Sp := fun vs H Q _ => ∃ u : Str, vs = [.str u] ∧ u ∈ all20 ∧ Q (.bl (decide (u ∈ five))) H
theorem scFar : FnScope ["word"] ["word"] (defScope sHasFar) := ⟨rfl, rfl, rfl, by decide +kernel, rfl, by decide +kernel, by decide +kernel⟩
theorem ok_far {f : Addr} {fd : FuncData} (F : Fun K "has_far" "has_far" sHasFar f fd) (T : Txt K w.params mg) : FnOk P w K mg base CX0 1 f fd ["word"] spFar := by
  refine F.ok scFar (fun vs H Q E h => ?_) (fun cdv A outer s H vs Q E hr h => ?_)
  · obtain ⟨u, rfl, _⟩ := h
    rfl
  · obtain ⟨u, rfl, hu, k⟩ := h
    obtain ⟨ks, hks⟩ := kinds_all u hu
    obtain ⟨p, hp, hk⟩ := T.prt
    obtain ⟨q, hq, hS⟩ := hk _ hks
    refine ⟨_, (pss_one (ps_ret (pe_cmpR op_in_seq pe_str (pe_kget (pe_glob (v := .ref p) (by rfl) hp rfl) (pv 0) (fun _ _ => rfl)) rfl))), ?_⟩
    refine ⟨_, rfl, p, u, _, rfl, rfl, hq, q, ks.map V.str, rfl, .inr (hS _), rfl, (by rw [List.all_map]; exact List.all_eq_true.mpr fun _ _ => rfl), ?_⟩
    show Q (.bl (inV (.str "far") (ks.map V.str))) H
    rw [inV_str, kinds_far _ hks]
    exact k
/-! ### size_of -/
def spSize : Sp := fun vs H Q _ => ∃ (q : Addr) (d : FR), vs = [.ref q] ∧ RowF H q d ∧ Q (.int (szF d)) H
theorem scSize : FnScope ["row", "word"] ["row"] (defScope sSize) := ⟨rfl, rfl, rfl, by decide +kernel, rfl, by decide +kernel, by decide +kernel⟩
theorem ok_size {f fH : Addr} {fd fdH : FuncData} (F : Fun K "size_of" "size_of" sSize f fd) (T : Txt K w.params mg) (GH : FnOk P w K mg base CX0 1 fH fdH ["word"] spFar) (kH : PySem.W.keepIn K (.ref fH) = true) (bH : Binds K fdH ["word"] []) (mH : mg "has_far" = some (.ref fH)) : FnOk P w K mg base CX0 2 f fd ["row"] spSize := by
  refine F.ok scSize (fun vs H Q E h => ?_) (fun cdv A outer s H vs Q E hr h => ?_)
  · obtain ⟨q, d, rfl, _⟩ := h
    rfl
  · obtain ⟨q, d, rfl, hR, k⟩ := h
    obtain ⟨p, hp, hq⟩ := T.two
    obtain ⟨items, i1, _, i3, _⟩ := hR.parts
    unfold szF at k
    refine ⟨_, (pss_cons (ps_set (i := 1) scSize.nd rfl (Or.inl rfl) (pe_ix ix_tup (pv 0) pe_int (fun _ _ => rfl)))
      (pss_cons (ps_if (pt_cmpR op_eq (pv 1) pe_str (nomark _)) (pss_one (ps_ret (pe_op op_add pe_int (pe_callB call_len_seq (by rfl) T.len bt_len (pa_cons (pe_ix ix_tup (pv 0) pe_int (fun _ _ => rfl)) pa_nil))))) pss_nil)
      (pss_cons (ps_if (pt_val (pe_call GH hr (by rfl) mH kH bH .nil pass0 (pa_cons (pv 1) pa_nil))) (pss_one (ps_ret (pe_op op_add pe_int (pe_ix ix_tup (pv 0) (pe_un un_neg pe_int) (fun _ _ => rfl))))) pss_nil)
      (pss_one (ps_ret (pe_ifExp (pt_cmpR op_in_seq (pv 1) (pe_glob (v := .ref p) (by rfl) hp rfl) rfl) pe_int pe_int)))))), ?_⟩
    refine ⟨_, rfl, q, _, 0, .str d.u, rfl, rfl, SqT.of i1, at0 _ _, _, rfl, rfl, _, rfl, ?_⟩
    refine ite2 (fun e => ?_) (fun e => ?_)
    · have e := strEq e
      rw [if_pos e] at k
      unfold Parts at i3
      rw [if_pos e] at i3
      obtain ⟨b, p3, rfl, h3⟩ := i3
      refine ⟨_, rfl, q, _, 2, _, rfl, rfl, SqT.of i1, at2 _ _ _ _, p3, _, rfl, .inr (SqT.of h3), _, _, rfl, rfl, ?_⟩
      rw [List.length_map]
      exact k
    · have e := strNe e
      rw [if_neg e] at k
      refine ⟨_, rfl, d.u, rfl, hR.1.1, _, rfl, ?_⟩
      refine ite2 (fun e2 => ?_) (fun e2 => ?_)
      · have e2 := of_decide_eq_true e2
        rw [if_pos e2] at k
        obtain ⟨_, g1, g2, _⟩ := five_row hR e2
        exact ⟨_, rfl, _, rfl, q, _, _, _, rfl, rfl, SqT.of g1, g2, _, _, rfl, rfl, k⟩
      · have e2 : ¬ d.u ∈ five := fun z => e2 (decide_eq_true z)
        rw [if_neg e2] at k
        refine ⟨_, rfl, p, six.map V.str, rfl, .inr (hq _), rfl, rfl, _, rfl, ?_⟩
        rw [show inV (.str d.u) (six.map V.str) = decide (d.u ∈ six) from inV_str _ _]
        refine ite2 (fun e3 => ?_) (fun e3 => ?_)
        · rw [if_pos (of_decide_eq_true e3)] at k
          exact k
        · rw [if_neg (fun z => e3 (decide_eq_true z))] at k
          exact k
end
end My


set_option Elab.async false
set_option linter.all false
set_option maxRecDepth 100000
set_option maxHeartbeats 4000000
namespace My
open PySem L2
/-! ### where the rows begin -/
def beg (ds : List FR) (j : Nat) : Int := ((ds.take j).map szF).sum
def begs (ds : List FR) (n : Nat) : List Int := (List.range (n + 1)).map (beg ds)
theorem beg_succ {ds : List FR} {j : Nat} {d : FR} (h : ds[j]? = some d) : beg ds (j + 1) = beg ds j + szF d := by
  unfold beg
  rw [List.take_add_one, h, List.map_append, List.sum_append]
  simp
theorem begs_succ (ds : List FR) (n : Nat) : begs ds (n + 1) = begs ds n ++ [beg ds (n + 1)] := by
  unfold begs
  rw [List.range_succ, List.map_append]
  rfl
theorem begs_len (ds : List FR) (n : Nat) : (begs ds n).length = n + 1 := by unfold begs; rw [List.length_map, List.length_range]
theorem begs_at {ds : List FR} {n j : Nat} (h : j ≤ n) : (begs ds n)[j]? = some (beg ds j) := by
  unfold begs
  rw [List.getElem?_map, List.getElem?_range (by omega)]
  rfl
theorem atI_m1 {α : Type} {xs : List α} {y : α} (h : xs[xs.length - 1]? = some y) : atI xs (-1) = some y := by
  have h1 := (List.getElem?_eq_some_iff.mp h).1
  have h0 : xs.length ≠ 0 := fun z => by rw [z] at h1; exact absurd h1 (Nat.not_lt_zero _)
  unfold atI ixN
  rw [if_neg (by decide), if_pos (by omega), show ((-1 : Int) + (xs.length : Int)).toNat = xs.length - 1 by omega]
  exact h
section
variable {P : Program} {w : World} {K : PySem.W.Frag} {mg : Str → Option Value} {base : Heap}
def spBegins : Sp := fun vs H Q _ => ∃ (lr : Addr) (ds : List FR), vs = [.ref lr] ∧ RowsF H lr ds ∧ ds.length ≤ 100000 ∧ ∀ (l : Addr) (H' : Hp), Same H H' → H l = none → H' l = some (.lst ((begs ds ds.length).map V.int)) → Q (.ref l) H'
theorem scBeg : FnScope ["rows", "begins", "row"] ["rows"] (defScope sBegins) := ⟨rfl, rfl, rfl, by decide +kernel, rfl, by decide +kernel, by decide +kernel⟩
theorem ok_begins {f fS : Addr} {fd fdS : FuncData} (F : Fun K "begins_of" "begins_of" sBegins f fd) (T : Txt K w.params mg) (GS : FnOk P w K mg base CX0 2 fS fdS ["row"] spSize) (kS : PySem.W.keepIn K (.ref fS) = true) (bS : Binds K fdS ["row"] []) (mS : mg "size_of" = some (.ref fS)) : FnOk P w K mg base CX0 3 f fd ["rows"] spBegins := by
  refine F.ok scBeg (fun vs H Q E h => ?_) (fun cdv A outer s H vs Q E hr h => ?_)
  · obtain ⟨lr, ds, rfl, _⟩ := h
    rfl
  · obtain ⟨lr, ds, rfl, hR, hn, k⟩ := h
    obtain ⟨qs, r1, r2, r3⟩ := hR
    refine ⟨_, (pss_cons (ps_set (i := 1) scBeg.nd rfl (Or.inl rfl) (pe_lst (pa_cons pe_int pa_nil)))
      (pss_cons (ps_for PassesOwn.never rfl (pi_list (pv 0)) (pg_name (i := 2) scBeg.nd rfl (Or.inl rfl)) (pss_one (ps_expr (pe_bm PySem.F.plainAttrs_list PySem.F.slot_list_append PySem.F.type_list_append mt_append (pv 1) (pa_cons (pe_op op_add (pe_ix ix_list (pv 1) (pe_un un_neg pe_int) (fun _ _ => rfl)) (pe_call GS hr (by rfl) mS kS bS .nil pass0 (pa_cons (pv 2) pa_nil))) pa_nil)))))
      (pss_one (ps_ret (pv 1))))), ?_⟩
    refine ⟨by decide, fun l nl => ?_⟩
    refine ⟨_, rfl, lr, rfl, ⟨_, SqL.of (same_new nl _ _ r1)⟩, for_list (K := K) (a := lr) (xs := qs.map V.ref) (fun i σ G => i ≤ ds.length ∧ ∃ v : Option V, σ = [some (.ref lr), some (.ref l), v] ∧ Same H G ∧ G l = some (.lst ((begs ds i).map V.int))) ?_ ?_ ?_ ?_⟩
    · exact ⟨Nat.zero_le _, none, rfl, same_new nl, upd_same⟩
    · rintro i σ G _ ⟨_, v, rfl, s1, _⟩
      exact SqL.of (s1 _ _ r1)
    · rintro i x σ G hx ⟨hi, v, rfl, s1, hl⟩
      rw [List.getElem?_map] at hx
      obtain ⟨q, hq, rfl⟩ := Option.map_eq_some_iff.mp hx
      have hil : i < ds.length := by have := (List.getElem?_eq_some_iff.mp hq).1; omega
      have hd : ds[i]? = some ds[i] := List.getElem?_eq_getElem hil
      generalize ds[i] = d at hd
      refine ⟨_, rfl, .inl ⟨rfl, _, SqL.of hl⟩, _, rfl, _, rfl, l, _, -1, .int (beg ds i), rfl, rfl, SqL.of hl, atI_m1 (by rw [List.length_map, begs_len, List.getElem?_map]; show Option.map _ ((begs ds i)[i]?) = _; rw [begs_at (Nat.le_refl _)]; rfl), _, rfl, q, d, rfl, (r3 i q d hq hd).same s1, _, _, rfl, rfl, l, _, _, rfl, rfl, hl, small_lt (by rw [List.length_map, begs_len]; omega), ?_⟩
      refine ⟨hil, _, rfl, same_put s1 nl, ?_⟩
      rw [upd_same, begs_succ, beg_succ hd, List.map_append]
      rfl
    · rintro σ G ⟨_, v, rfl, s1, hl⟩
      rw [List.length_map, r2] at hl
      exact ⟨_, rfl, k l _ s1 nl hl⟩
end
end My


set_option Elab.async false
set_option linter.all false
set_option maxRecDepth 100000
set_option maxHeartbeats 4000000
namespace My
open PySem L2
theorem op_fdivB {X : Cx} : OpR X (binaryOp .FloorDiv) (rI (fun _ j => 0 < j ∧ j < 18446744073709551616) fun i j => .int (i / j)) := opI fun i j _ _ _ _ _ hc q => by
  have h1 : (0 : Int) < j := hc.1
  have h2 : j < 18446744073709551616 := hc.2
  refine PyProof.Rows.floordiv_int (by omega) (by rw [Int.fdiv_eq_ediv_of_nonneg i (by omega)]; exact q) (.inl (PyProof.noPylong_of_log2 ?_))
  have h3 : j.natAbs.log2 < 64 := (Nat.log2_lt (by omega)).mpr (by omega)
  omega
theorem cut_take (xs : List V) (n : Nat) : cutV xs none (some (n : Int)) = xs.take n := by
  unfold cutV
  have h1 : HT.sIx xs.length 0 none = 0 := rfl
  have h2 : HT.sIx xs.length xs.length (some (n : Int)) = min n xs.length := HT.sIx_nat ..
  rw [h1, h2, List.drop_zero, Nat.sub_zero]
  rcases Nat.le_total n xs.length with h | h
  · rw [Nat.min_eq_left h]
  · rw [Nat.min_eq_right h, List.take_length, List.take_of_length_le h]
section
variable {P : Program} {w : World} {K : PySem.W.Frag} {mg : Str → Option Value} {base : Heap}
/-! ### a cell of the script -/

/-! ### a stream of numbers -/
def spStream : Sp := fun vs H Q _ => ∃ (c : Int) (n : Nat), vs = [.int c, .int (n : Int)] ∧ n ≤ 10000 ∧ ∀ (l : Addr) (ms : List Int) (H' : Hp), Same H H' → H l = none → H' l = some (.lst (ms.map V.int)) → ms.length = n → (∀ x ∈ ms, 0 ≤ x) → Q (.ref l) H'
theorem scStr : FnScope ["_law_cell", "_law_many", "_law_found", "_law_number", "_law_k"] ["_law_cell", "_law_many"] (defScope sStream) := ⟨rfl, rfl, rfl, by decide +kernel, rfl, by decide +kernel, by decide +kernel⟩
theorem ok_stream {f : Addr} {fd : FuncData} (F : Fun K "_law_stream" "_law_stream" sStream f fd) (T : Txt K w.params mg) : FnOk P w K mg base CX0 1 f fd ["_law_cell", "_law_many"] spStream := by
  refine F.ok scStr (fun vs H Q E h => ?_) (fun cdv A outer s H vs Q E hr h => ?_)
  · obtain ⟨c, n, rfl, _⟩ := h
    rfl
  · obtain ⟨c, n, rfl, hn, k⟩ := h
    refine wrapX (pssx_cons (psx_of (ps_set (i := 2) scStr.nd rfl (Or.inl rfl) (pe_lst pa_nil)))
      (pssx_cons (psx_of (ps_set (i := 3) scStr.nd rfl (Or.inl rfl) (pe_op op_fdivB (pv 0) pe_int)))
      (pssx_mid (psx_of (ps_while PassesOwn.never (pw_and (pt_cmpR op_eq (pe_op op_mod (pv 0) pe_int) pe_int (nomark _)) (pw_and (pt_cmpR op_gt (pv 3) pe_int (nomark _)) (pw_and1 (pt_cmpR op_lt (pe_callB call_len_seq (by rfl) T.len bt_len (pa_cons (pv 2) pa_nil)) (pv 1) (nomark _))))).pt (pss_cons (ps_expr (pe_bm PySem.F.plainAttrs_list PySem.F.slot_list_append PySem.F.type_list_append mt_append (pv 2) (pa_cons (pe_op op_mod (pv 3) (pe_op op_pow pe_int pe_int)) pa_nil)))
      (pss_one (ps_set (i := 3) scStr.nd rfl (Or.inl rfl) (pe_op op_fdivB (pv 3) (pe_op op_pow pe_int pe_int)))))))
      (pssx_cons (psx_of (ps_set (i := 3) scStr.nd rfl (Or.inl rfl) (pe_op op_mod (pe_op op_mul (pe_op op_add (pe_op op_fdivB (pv 0) pe_int) pe_int) pe_int) pe_int)))
      (pssx_cons (psx_of (ps_for PassesOwn.never rfl (pi_range1 rfl T.range (pa_cons (pv 1) pa_nil)) (pg_name (i := 4) scStr.nd rfl (Or.inl rfl)) (pss_cons (ps_set (i := 3) scStr.nd rfl (Or.inl rfl) (pe_op op_mod (pe_op op_mul (pv 3) (pe_op op_add (pe_op op_add (pe_op op_fdivB (pv 3) pe_int) pe_int) (pv 4))) pe_int))
      (pss_cons (ps_expr (pe_bm PySem.F.plainAttrs_list PySem.F.slot_list_append PySem.F.type_list_append mt_append (pv 2) (pa_cons (pe_op op_mod (pe_op op_mul (pv 3) (pe_op op_add (pe_op op_fdivB (pv 3) pe_int) pe_int)) pe_int) pa_nil)))
      (pss_one (ps_set (i := 3) scStr.nd rfl (Or.inl rfl) (pe_op op_add (pv 3) pe_int)))))))
      (pssx_one (psx_of (ps_ret (pe_slice sl_list (pv 2) po_none (po_some (pv 1))))))))))) ?_
    refine ⟨Nat.le_of_ble_eq_true rfl, fun l nl => ?_⟩
    have s0 := same_new (o := .lst []) nl
    have h0 : upd H l (.lst []) l = some (.lst (([] : List Int).map V.int)) := upd_same
    generalize upd H l (.lst []) = G0 at s0 h0 ⊢
    refine ⟨_, rfl, _, _, rfl, rfl, ⟨by show (0 : Int) < 2; decide, by show (2 : Int) < _; decide⟩, ?_⟩
    have cp : CPow 10 9 := ⟨by decide, by decide, by decide⟩
    refine ⟨fun σ G => ∃ (x : Int) (ms : List Int), σ = [some (.int c), some (.int (n : Int)), some (.ref l), some (.int x), none] ∧ Same H G ∧ G l = some (.lst (ms.map V.int)) ∧ (∀ y ∈ ms, 0 ≤ y) ∧ ms.length ≤ n, ?_, ?_⟩
    · refine ⟨fun mm σ G => ∃ (x : Int) (ms : List Int), σ = [some (.int c), some (.int (n : Int)), some (.ref l), some (.int x), none] ∧ Same H G ∧ G l = some (.lst (ms.map V.int)) ∧ (∀ y ∈ ms, 0 ≤ y) ∧ ms.length ≤ n ∧ mm = n - ms.length, ⟨_, _, [], rfl, s0, h0, fun y hy => (List.not_mem_nil hy).elim, Nat.zero_le _, rfl⟩, ?_⟩
      rintro mm σ G ⟨x, ms, rfl, s1, h1, hp, hl, rfl⟩
      refine ⟨_, rfl, _, _, rfl, rfl, (by show (0 : Int) < 2; decide), rfl, _, rfl, ?_⟩
      refine ite2 (fun _ => ?_) (fun _ => iteN (by decide) ⟨x, ms, rfl, s1, h1, hp, hl⟩)
      refine ⟨_, rfl, _, _, rfl, rfl, _, rfl, ?_⟩
      refine ite2 (fun _ => ?_) (fun _ => iteN (by decide) ⟨x, ms, rfl, s1, h1, hp, hl⟩)
      refine ⟨_, rfl, l, _, rfl, .inl (SqL.of h1), _, rfl, _, _, rfl, rfl, _, rfl, ?_⟩
      refine ite2 (fun e => ?_) (fun _ => ⟨x, ms, rfl, s1, h1, hp, hl⟩)
      have e := of_decide_eq_true e
      rw [List.length_map] at e
      have hlt : ms.length < n := by omega
      refine ⟨fun σ' G' => ∃ (x' : Int) (ms' : List Int), σ' = [some (.int c), some (.int (n : Int)), some (.ref l), some (.int x'), none] ∧ Same H G' ∧ G' l = some (.lst (ms'.map V.int)) ∧ (∀ y ∈ ms', 0 ≤ y) ∧ ms'.length = ms.length + 1, ?_, ?_⟩
      · rintro σ' G' ⟨x', ms', rfl, a1, a2, a3, a4⟩
        exact ⟨n - ms'.length, by omega, x', ms', rfl, a1, a2, a3, by omega, rfl⟩
      refine ⟨_, rfl, .inl ⟨rfl, _, SqL.of h1⟩, _, rfl, _, _, rfl, rfl, cp, _, _, rfl, rfl, (by show (0 : Int) < 10 ^ (9 : Int).toNat; decide), l, _, _, rfl, rfl, h1, small_lt (by rw [List.length_map]; omega), ?_⟩
      refine ⟨_, rfl, _, _, rfl, rfl, cp, _, _, rfl, rfl, ⟨by show (0 : Int) < 10 ^ (9 : Int).toNat; decide, by show (10 : Int) ^ (9 : Int).toNat < 18446744073709551616; decide⟩, ?_⟩
      refine ⟨_, ms ++ [x % 10 ^ (9 : Int).toNat], rfl, same_put s1 nl, by rw [upd_same, List.map_append]; rfl, fun y hy => ?_, by rw [List.length_append]; rfl⟩
      rcases List.mem_append.mp hy with z | z
      · exact hp y z
      · rw [List.mem_singleton.mp z]
        exact Int.emod_nonneg _ (by decide)
    rintro σ G ⟨x, ms, rfl, s1, h1, hp, hl⟩
    refine ⟨_, rfl, _, _, rfl, rfl, ⟨by show (0 : Int) < 2; decide, by show (2 : Int) < _; decide⟩, _, _, rfl, rfl, _, _, rfl, rfl, .inr ⟨by decide, by decide⟩, _, _, rfl, rfl, (by show (0 : Int) < 2147483647; decide), ?_⟩
    have hx0 : 0 ≤ (c / 2 + 7919) * 48271 % 2147483647 ∧ (c / 2 + 7919) * 48271 % 2147483647 < 2147483647 := ⟨Int.emod_nonneg _ (by decide), Int.emod_lt_of_pos _ (by decide)⟩
    refine ⟨_, rfl, _, rfl, by omega, by omega, ?_⟩
    refine for_range (lo := 0) (n := ((n : Nat) : Int).toNat) (fun i σ G => ∃ (x : Int) (v : Option V) (ms : List Int), σ = [some (.int c), some (.int (n : Int)), some (.ref l), some (.int x), v] ∧ 0 ≤ x ∧ x ≤ 2147483647 ∧ Same H G ∧ G l = some (.lst (ms.map V.int)) ∧ (∀ y ∈ ms, 0 ≤ y) ∧ i ≤ ms.length ∧ ms.length ≤ n + i) ?_ ?_ ?_
    · exact ⟨_, none, ms, rfl, hx0.1, Int.le_of_lt hx0.2, s1, h1, hp, Nat.zero_le _, by omega⟩
    · rintro i σ G hi ⟨x, v, ms, rfl, b1, b2, s1, h1, hp, g1, g2⟩
      have e0 : (0 : Int) + (i : Int) = (i : Int) := by omega
      rw [e0]
      have hin : i < n := by rw [Int.toNat_natCast] at hi; exact hi
      refine ⟨_, rfl, _, rfl, _, _, rfl, rfl, ⟨by show (0 : Int) < 1009; decide, by show (1009 : Int) < _; decide⟩, _, _, rfl, rfl, _, rfl, _, _, rfl, rfl, _, _, rfl, rfl, .inl ⟨by omega, by omega⟩, _, _, rfl, rfl, (by show (0 : Int) < 2147483647; decide), ?_⟩
      have hy0 : 0 ≤ x * (x / 1009 + 69621 + (i : Int)) % 2147483647 ∧ x * (x / 1009 + 69621 + (i : Int)) % 2147483647 < 2147483647 := ⟨Int.emod_nonneg _ (by decide), Int.emod_lt_of_pos _ (by decide)⟩
      have hy1 : x * (x / 1009 + 69621 + (i : Int)) % 2147483647 ≤ 2147483646 := by omega
      refine ⟨_, rfl, .inl ⟨rfl, _, SqL.of h1⟩, _, rfl, _, rfl, _, _, rfl, rfl, ⟨by show (0 : Int) < 127; decide, by show (127 : Int) < _; decide⟩, _, _, rfl, rfl, _, _, rfl, rfl, .inl ⟨by show -(2 ^ 64) < (x * (x / 1009 + 69621 + (i : Int)) % 2147483647); omega, by show (x * (x / 1009 + 69621 + (i : Int)) % 2147483647) < 2 ^ 64; omega⟩, _, _, rfl, rfl, (by show (0 : Int) < 2147483629; decide), l, _, _, rfl, rfl, h1, small_lt (by rw [List.length_map]; omega), ?_⟩
      have hz0 : 0 ≤ (x * (x / 1009 + 69621 + (i : Int)) % 2147483647) * ((x * (x / 1009 + 69621 + (i : Int)) % 2147483647) / 127 + 40009) % 2147483629 := Int.emod_nonneg _ (by decide)
      refine ⟨_, rfl, _, _, rfl, rfl, ?_⟩
      refine ⟨(x * (x / 1009 + 69621 + (i : Int)) % 2147483647) + 1, _, ms ++ [(x * (x / 1009 + 69621 + (i : Int)) % 2147483647) * ((x * (x / 1009 + 69621 + (i : Int)) % 2147483647) / 127 + 40009) % 2147483629], rfl, by omega, by omega, same_put s1 nl, by rw [upd_same, List.map_append]; rfl, fun y hy => ?_, by rw [List.length_append, List.length_singleton]; omega, by rw [List.length_append, List.length_singleton]; omega⟩
      rcases List.mem_append.mp hy with z | z
      · exact hp y z
      · rw [List.mem_singleton.mp z]
        exact hz0
    · rintro σ G ⟨x, v, ms, rfl, b1, b2, s1, h1, hp, g1, g2⟩
      rw [Int.toNat_natCast] at g1
      refine ⟨_, rfl, _, rfl, (n : Int), rfl, l, _, rfl, SqL.of h1, fun lc nc => ?_⟩
      have ec : cutV (ms.map V.int) none (some (n : Int)) = (ms.take n).map V.int := by rw [cut_take, List.map_take]
      rw [ec]
      exact k lc (ms.take n) _ (s1.trans (same_new nc)) (s1.free nc) upd_same (by rw [List.length_take]; omega) fun y hy => hp y (List.mem_of_mem_take hy)
end
end My


set_option Elab.async false
set_option linter.all false
set_option maxRecDepth 100000
set_option maxHeartbeats 4000000
namespace My
open PySem L2
/-! ### rows of a shape -/
def plainW (u : Str) : Prop := u ∈ all20 ∧ ¬ u = "table" ∧ ¬ u ∈ jcm ∧ ¬ u ∈ zb
instance {u : Str} : Decidable (plainW u) := by unfold plainW; infer_instance
def plainN (n : Nat) (u : Str) : Prop := plainW u ∧ arI u = n
instance {n : Nat} {u : Str} : Decidable (plainN n u) := by unfold plainN; infer_instance
theorem row_two {H : Hp} {q : Addr} {u : Str} {b c : Int} (hu : plainN 2 u) (h : H q = some (.tup [.str u, .int b, .int c])) : RowF H q ⟨u, [b, c], []⟩ :=
  ⟨⟨hu.1.1, fun z => absurd z hu.1.2.1, fun z => absurd z hu.1.2.2.1, fun z => absurd z hu.1.2.2.2, fun _ _ _ => ⟨rfl, hu.2.symm⟩, fun _ => ⟨b, c, rfl⟩, fun _ => ⟨b, [c], rfl⟩⟩, .inr ⟨hu.1.2.1, h⟩⟩
theorem row_one {H : Hp} {q : Addr} {u : Str} {b : Int} (hu : plainN 1 u ∧ ¬ u ∈ w2) (h : H q = some (.tup [.str u, .int b])) : RowF H q ⟨u, [b], []⟩ :=
  ⟨⟨hu.1.1.1, fun z => absurd z hu.1.1.2.1, fun z => absurd z hu.1.1.2.2.1, fun z => absurd z hu.1.1.2.2.2, fun _ _ _ => ⟨rfl, hu.1.2.symm⟩, fun z => absurd z hu.2, fun _ => ⟨b, [], rfl⟩⟩, .inr ⟨hu.1.1.2.1, h⟩⟩
theorem row_no {H : Hp} {q : Addr} {u : Str} (hu : plainN 0 u ∧ ¬ u ∈ w2 ∧ ¬ u ∈ w1) (h : H q = some (.tup [.str u])) : RowF H q ⟨u, [], []⟩ :=
  ⟨⟨hu.1.1.1, fun z => absurd z hu.1.1.2.1, fun z => absurd z hu.1.1.2.2.1, fun z => absurd z hu.1.1.2.2.2, fun _ _ _ => ⟨rfl, hu.1.2.symm⟩, fun z => absurd z hu.2.1, fun z => absurd z hu.2.2⟩, .inr ⟨hu.1.1.2.1, h⟩⟩
theorem row_jcm {H : Hp} {q : Addr} {u : Str} {t f : Int} (hu : u ∈ jcm) (h : H q = some (.tup [.str u, .int t, .int f])) : RowF H q ⟨u, [t, f], [t]⟩ := by
  have hw := (by decide : ∀ u ∈ jcm, u ∈ all20 ∧ ¬ u = "table" ∧ ¬ u ∈ zb ∧ ¬ u ∈ w2 ∧ ¬ u ∈ w1) u hu
  exact ⟨⟨hw.1, fun z => absurd z hw.2.1, fun _ => ⟨t, f, rfl, rfl⟩, fun z => absurd z hw.2.2.1, fun _ z => absurd hu z, fun z => absurd z hw.2.2.2.1, fun z => absurd z hw.2.2.2.2⟩, .inr ⟨hw.2.1, h⟩⟩
theorem row_zb {H : Hp} {q : Addr} {u : Str} {b t f : Int} (hu : u ∈ zb) (h : H q = some (.tup [.str u, .int b, .int t, .int f])) : RowF H q ⟨u, [b, t, f], [t]⟩ := by
  have hw := (by decide : ∀ u ∈ zb, u ∈ all20 ∧ ¬ u = "table" ∧ ¬ u ∈ jcm ∧ ¬ u ∈ w2) u hu
  exact ⟨⟨hw.1, fun z => absurd z hw.2.1, fun z => absurd z hw.2.2.1, fun _ => ⟨b, t, f, rfl, rfl⟩, fun _ _ z => absurd hu z, fun z => absurd z hw.2.2.2, fun _ => ⟨b, _, rfl⟩⟩, .inr ⟨hw.2.1, h⟩⟩
theorem row_table {H : Hp} {q p : Addr} {b : Int} {ts : List Int} (h : H q = some (.tup [.str "table", .int b, .ref p])) (hp : H p = some (.tup (ts.map V.int))) : RowF H q ⟨"table", [b], ts⟩ :=
  ⟨⟨(by decide : ("table" : Str) ∈ all20), fun _ => ⟨b, rfl⟩, fun z => absurd z (by decide : ¬ ("table" : Str) ∈ jcm), fun z => absurd z (by decide : ¬ ("table" : Str) ∈ zb), fun z => absurd rfl z, fun z => absurd z (by decide : ¬ ("table" : Str) ∈ w2), fun _ => ⟨b, [], rfl⟩⟩, .inl ⟨rfl, b, p, rfl, h, hp⟩⟩
def FarOk (d : FR) : Prop := d.u ∈ five → farF d = 0 ∨ farF d = 1
theorem at_intsS (ws : List Int) (d : Int) (h0 : 0 ≤ d) (h1 : d < ws.length) : ∃ u, u ∈ ws ∧ atI (ws.map V.int) d = some (.int u) := by
  obtain ⟨j, rfl⟩ := Int.eq_ofNat_of_zero_le h0
  have hl : j < ws.length := by omega
  refine ⟨ws[j], List.getElem_mem hl, atI_nat (j := j) ?_⟩
  rw [List.getElem?_map, List.getElem?_eq_getElem hl]
  rfl
theorem modB (x : Int) {n : Int} (h : 0 < n) : 0 ≤ x % n ∧ x % n < n := ⟨Int.emod_nonneg _ (by omega), Int.emod_lt_of_pos _ h⟩
theorem RowF.put {H : Hp} {q l : Addr} {d : FR} {xs : List V} {o : HO} (h : RowF H q d) (hl : H l = some (.lst xs)) : RowF (upd H l o) q d := by
  have ne : ∀ (a : Addr) (ys : List V), H a = some (.tup ys) → a ≠ l := fun a ys e z => by rw [z, hl] at e; cases e
  refine ⟨h.1, ?_⟩
  rcases h.2 with ⟨a, b, p, e, h1, h2⟩ | ⟨a, h1⟩
  · exact .inl ⟨a, b, p, e, by rw [upd_ne (ne _ _ h1)]; exact h1, by rw [upd_ne (ne _ _ h2)]; exact h2⟩
  · exact .inr ⟨a, by rw [upd_ne (ne _ _ h1)]; exact h1⟩
end My


set_option Elab.async false
set_option linter.all false
set_option maxRecDepth 100000
set_option maxHeartbeats 4000000
namespace L2
open PySem PySem.W PySem.Spec PySem.Calls PyProof.Rows
/-- a callee's exception goes on through the body of the caller, which leaves it to its own caller -/
theorem pass22 {P : Program} {w : World} {K : PySem.W.Frag} {mg : Str → Option Value} {base : Heap} {N : List Str} {qual : Str} {scope : Scope} {f : Addr} {cd : Value} {A : Around} {outer : List Env} {s₀ : Shared} {H₀ : Hp} {E : XK} :
    Passes (CX2 P w) (cxOf (CX2 P w) P w K mg base N qual scope f cd A outer s₀ H₀ E) E := by
  intro pins σ H s e s' I cx
  obtain ⟨ea, cls, a0, od, H', B, rfl, fly, dc, hB, hH, os, bare, un, hok, hE⟩ := cx
  obtain ⟨T, be, bT, fly2⟩ := fly_less fly
  have apart : ∀ {b o}, B.get? b = some o → b ∉ frs ((envOfC qual scope s₀.heap.objs.size f cd) :: outer) → b ∉ frs ((envOfC qual scope s₀.heap.objs.size f cd) :: outer) ++ [ea, T] := fun {b o} hb nf hx => by
    rcases List.mem_append.mp hx with h | h
    · exact nf h
    · rcases (show b = ea ∨ b = T by simpa using h) with rfl | rfl
      · rw [be] at hb; cases hb
      · rw [bT] at hb; cases hb
  have fr' : ∀ b ∈ frs ((envOfC qual scope s₀.heap.objs.size f cd) :: outer), H' b = none := fun b hb => by
    obtain ⟨_, o, ho, _⟩ := I.stack.mem hb
    exact un.free b o ho (I.stkFree b hb) (by simp)
  have kH : ∀ {b o}, H' b = some o → b ∉ frs ((envOfC qual scope s₀.heap.objs.size f cd) :: outer) ++ [ea, T] := fun {b o} hb => by
    obtain ⟨o', h1⟩ := hH b o hb
    exact apart h1 fun z => by rw [fr' b z] at hb; cases hb
  have stk : ∀ {b o}, s₀.heap.get? b = some o → b ∉ frs outer → b ∉ frs ((envOfC qual scope s₀.heap.objs.size f cd) :: outer) := fun {b o} hb nf hx => by
    rcases List.mem_cons.mp (I.stkSub b hx) with e | e
    · have h1 := Heap.lt_size hb
      have h2 : s₀.heap.objs.size ≤ (envOfC qual scope s₀.heap.objs.size f cd).locals := I.ok.above
      have e : b = (envOfC qual scope s₀.heap.objs.size f cd).locals := e
      rw [e] at h1
      exact absurd h1 (Nat.not_lt.mpr h2)
    · exact nf e
  refine leavesOnD (B := less s'.heap (frs ((envOfC qual scope s₀.heap.objs.size f cd) :: outer) ++ [ea, T])) (L := (envOfC qual scope s₀.heap.objs.size f cd).locals) I.ok.frames rfl fly2 dc fun h5 fly5 up dc5 => ?_
  have stay : ∀ {b u}, b ∉ frs ((envOfC qual scope s₀.heap.objs.size f cd) :: outer) ++ [ea, T] → s'.heap.get? b = some u → h5.get? b = some u := fun {b u} hb hu => fly5.1 b u (by rw [less_out hb]; exact hu)
  have up1 : ∀ b o, s'.heap.get? b = some o → b ∈ frs ((envOfC qual scope s₀.heap.objs.size f cd) :: outer) → ∃ sl, h5.get? b = some { o with slots := sl } := fun b o ho hb => by
    obtain ⟨_, o2, e2, nf⟩ := fly.2.2.1.mem hb
    rw [ho] at e2
    cases e2
    exact up b o ho nf
  have un5 : Un (frs ((envOfC qual scope s₀.heap.objs.size f cd) :: outer)) [] H H' s.heap h5 := by
    refine ⟨fun b o e n nf nx => ?_, fun b o e n hb nx => ?_, un.free, fun b o e nx => ?_, un.tups, un.frzs, un.tbls⟩
    · obtain ⟨o', hb⟩ := hB b o e nf
      exact stay (apart hb nf) (un.keep b o e n nf nx)
    · obtain ⟨sl, e1⟩ := un.slot b o e n hb nx
      obtain ⟨sl', e2⟩ := up1 b _ e1 hb
      exact ⟨sl', e2⟩
    · obtain ⟨o', e1⟩ := un.there b o e nx
      by_cases hb : b ∈ frs ((envOfC qual scope s₀.heap.objs.size f cd) :: outer)
      · obtain ⟨sl', e2⟩ := up1 b _ e1 hb
        exact ⟨_, e2⟩
      · obtain ⟨o2, h2⟩ := hB b o e hb
        exact ⟨o', stay (apart h2 hb) e1⟩
  have hok5 : HOk P w H' h5 := fun a o e => (hok a o e).stay (fun b u hc q => by
    rcases hc with rfl | hc
    · exact stay (kH e) q
    · exact stay (kH hc) q) (fun _ q => q) fun _ _ q => q
  have I5 := I.call' (s' := { s' with heap := h5 }) (ch := []) os un5 hok5 bare (fun b z => absurd z (by simp))
  refine ⟨ea, cls, a0, od, H', _, rfl, fly5, dc5, fun b o hb nf => ?_, fun b o hb => ?_, I5.os, I5.bare, I5.base, hok5, hE⟩
  · have ns := stk hb nf
    obtain ⟨o1, e1⟩ := I.base.there b o hb (by show b ∉ []; simp)
    obtain ⟨o2, e2⟩ := hB b o1 e1 ns
    obtain ⟨o3, e3⟩ := un.there b o1 e1 (by simp)
    exact ⟨o3, by rw [less_out (apart e2 ns)]; exact e3⟩
  · obtain ⟨u, hu⟩ := (hok b o hb).some_
    exact ⟨u, by rw [less_out (kH hb)]; exact hu⟩
end L2


set_option Elab.async false
set_option linter.all false
set_option maxRecDepth 100000
set_option maxHeartbeats 4000000
namespace L2
open PySem PySem.W PySem.Spec PySem.Calls PyProof.Rows
/-! ### a comprehension whose parts may raise -/
def cxCompX (X : Cx) (E : XK) (scope : Scope) (C : Addr) (N' : List Str) (s₀ : Shared) (H₀ : Hp) (fp : List Addr) : Cx :=
  (cxComp X scope C N' s₀ H₀ fp).wish (fun e s' => ∃ (pins : List (Addr × Obj)) (σ : St) (H : Hp) (s : Shared), Inv (cxComp X scope C N' s₀ H₀ fp) pins σ H s ∧ CX2 X.prog X.w X.stack H s E e s')
theorem passX {X : Cx} {E : XK} {scope : Scope} {C : Addr} {N' : List Str} {s₀ : Shared} {H₀ : Hp} {fp : List Addr} : Passes (CX2 X.prog X.w) (cxCompX X E scope C N' s₀ H₀ fp) E :=
  fun pins σ H s _ _ I cx => ⟨pins, σ, H, s, I.unwish, cx⟩
theorem fun_but {h h' base : Heap} {C : Addr} (sb : Heap.SameBut C h h') : ∀ {l : List Env}, h.FunFrames base l → (∀ b ∈ frs l, b ≠ C) → h'.FunFrames base l
  | [], _, _ => trivial
  | env :: r, ⟨hk, ⟨L, o, hf, hn, ho, hd⟩, hr⟩, hs => by
    have e : frs (env :: r) = L :: frs r := by unfold frs; rw [List.filterMap_cons, hf]
    rw [e] at hs
    exact ⟨hk, ⟨L, o, hf, hn, by rw [sb.2 L (hs L (by simp))]; exact ho, hd⟩, fun_but sb hr fun b hb => hs b (by simp [hb])⟩
section
variable {M : Model} {A : Around} {env : Env} {outer : List Env} {L e : Addr} {B : Heap} {cls a0 fl : Value} {od : Option Addr} {s : Shared} {Q : Unit → Shared → Prop} {XE : Value → Shared → Prop} {l : List Env}
/-- setFlight to any frame -/
theorem flightA {fo : Option Addr} (st : B.StaysIn s.heap) (fu : s.heap.FunFrames B l) (tr : s.heap.TracedAtW B e cls a0 fl) (dc : Dct s.heap e od)
    (k : ∀ h' fl', B.StaysIn h' → h'.FunFrames B l → h'.TracedAtW B e cls a0 fl' → (∀ b o, s.heap.get? b = some o → (∀ vs, o.data ≠ .fields vs) → h'.get? b = some o) → Dct h' e od → Q () { s with heap := h' }) : wpAny M A (setFlight (.ref e) fo) Q XE s := by
  obtain ⟨oe, vs, T, oT, ts, he, hc, hd, h1, nT, Te, hT, dT, h3⟩ := tr
  obtain ⟨oe', he', hod⟩ := dc
  cases he.symm.trans he'
  have sz : 3 < ts.size := (Array.getElem?_eq_some_iff.mp h3).1
  have oth : ∀ b, b ≠ T → (s.heap.update T (Obj.mapFields (·.setIfInBounds 3 (fo.elim Value.none fun f => rawInt f)))).get? b = s.heap.get? b := fun b n => Heap.get?_update_other _ _ n.symm
  unfold setFlight
  refine wpAny_bind (wpAny_field he hd h1 ?_)
  rw [if_pos (by simp)]
  refine wpAny_setField hT dT sz (k _ (fo.elim Value.none fun f => rawInt f) (fun b o hb => (oth b fun z => by
    rw [z, nT] at hb
    cases hb).trans (st b o hb)) (fu.of_keeps fun b o hb n => ⟨o, (oth b (noRec hT dT hb n)).trans hb, rfl⟩) ?_ (fun b o hb n => (oth b (noRec hT dT hb n)).trans hb) ⟨oe, (oth e Te.symm).trans he, hod⟩)
  exact ⟨oe, vs, T, _, _, (oth e Te.symm).trans he, hc, hd, h1, nT, Te, Heap.get?_update_self _ hT (Obj.isFreed_of_fields (Obj.data_mapFields dT _)), Obj.data_mapFields dT _, by simp [sz]⟩
/-- it leaves a frame, noted there or not -/
theorem leavesAnyD (fr : A.frames = some (env :: outer)) (hf : env.frame = some L) (st : B.StaysIn s.heap) (ne : B.get? e = none) (fu : s.heap.FunFrames B (env :: outer)) (tr : s.heap.TracedAtW B e cls a0 fl) (dc : Dct s.heap e od)
    (k : ∀ h', B.FlyingW outer e cls a0 h' → s.heap.UpToSlots h' → Dct h' e od → Q () { s with heap := h' }) : wpAny M A (leaving env (.ref e)) Q XE s := by
  unfold leaving
  obtain ⟨oe, vs, T, oT, ts, he, ⟨hc, h0⟩, hd, h1, nT, Te, hT, dT, h3⟩ := tr
  obtain ⟨oe', he', hod⟩ := dc
  cases he.symm.trans he'
  subst hc
  subst hod
  refine wpAny_bind ?_
  unfold noteFrame
  simp only [hf]
  refine wpAny_bind (wpAny_field he hd h1 ?_)
  rw [if_pos (by simp)]
  refine wpAny_bind (wpAny_field hT dT h3 ?_)
  by_cases c : (fl == rawInt L) = true
  · rw [if_pos c]
    refine wpAny_pure ?_
    exact flightD st fu ⟨oe, vs, T, oT, ts, he, ⟨rfl, h0⟩, hd, h1, nT, Te, hT, dT, h3⟩ ⟨oe, he, rfl⟩ fun h2 a b c d dc2 => k h2 ⟨a, ne, b.2.2, c⟩ (fun b o hb n => ⟨o.slots, d b o hb n⟩) dc2
  · rw [if_neg c]
    refine wpAny_bind (wpAny_setField hT dT (Array.getElem?_eq_some_iff.mp h3).1 ?_)
    have oth : ∀ b, b ≠ T → (s.heap.update T (Obj.mapFields (·.setIfInBounds 3 Value.none))).get? b = s.heap.get? b := fun b n => Heap.get?_update_other _ _ n.symm
    refine entryD fr (fu.of_keeps fun b o hb n => ⟨o, (oth b (noRec hT dT hb n)).trans hb, rfl⟩) hf ((oth e Te.symm).trans he) (fun b o hb => (oth b fun z => by
      rw [z, nT] at hb
      cases hb).trans (st b o hb)) ne hd (Array.getElem?_eq_some_iff.mp h1).1 h0 fun h' q q2 => ?_
    exact flightD (s := { s with heap := h' }) q.1 q.2.1 q.2.2.1 q2 fun h2 a b c d dc2 => k h2 ⟨a, ne, b.2.2, c⟩ (Heap.UpToSlots.trans (fun b o hb n => q.2.2.2 b o ((oth b (noRec hT dT hb n)).trans hb) n) fun b o hb n => ⟨o.slots, d b o hb n⟩) dc2
end
section
variable {X : Cx} {E : XK} {scope : Scope} {N' : List Str} {fr : List (Option Nat)} {pins : List (Addr × Obj)} {σ : St} {H3 : Hp} {s3 : Shared} {fp : List Addr}
/-- what a part raises goes on through the comprehension, and leaves the body -/
theorem comp_err {L D : Addr} (hex : X.ex = []) (hst : X.stack = X.env :: X.outer) (hL : X.env.frame = some L) (hsub : ∀ b o, X.s₀.heap.get? b = some o → b ∉ frs X.outer → b ∉ frs X.stack)
    (hxe : ∀ e s', wpAny (model X.prog X.w) X.A (leaving X.env e) (fun _ s'' => CX2 X.prog X.w X.outer X.H₀ X.s₀ E e s'') (fun e' s'' => CX2 X.prog X.w X.outer X.H₀ X.s₀ E e' s'') s' → X.xe e s')
    (I3 : Inv X pins σ H3 s3) (f3 : ∀ b ∈ fp, FpOk X pins H3 b) {use : Option (Value → Sem Unit)} {QQ : Value → Shared → Prop} {e : Value} {s' : Shared}
    (J : ∃ (pins' : List (Addr × Obj)) (σ' : St) (H : Hp) (s : Shared), Inv (cxComp X scope s3.heap.objs.size N' s3 H3 fp) pins' σ' H s ∧ CX2 X.prog X.w X.stack H s E e s') :
    notedBy (model X.prog X.w) X.A (compEnvC scope (clOf scope X.env) s3.heap.objs.size X.env) (fun x s'' => compPost (model X.prog X.w) X.A X.xe use QQ (.ref D) s3.heap.objs.size (.error x) s'') e s' := by
  obtain ⟨pins', σ', Hc, sc, Ic, cx⟩ := J
  obtain ⟨ea, cls, a0, od, H', B, rfl, fly, dc, hB, hH, os, bare, un, hok, hE⟩ := cx
  obtain ⟨T, be, bT, fly2⟩ := fly_less fly
  have apart : ∀ {b o}, B.get? b = some o → b ∉ frs X.stack → b ∉ frs X.stack ++ [ea, T] := fun {b o} hb nf hx => by
    rcases List.mem_append.mp hx with h | h
    · exact nf h
    · rcases (show b = ea ∨ b = T by simpa using h) with rfl | rfl
      · rw [be] at hb; cases hb
      · rw [bT] at hb; cases hb
  generalize hC : s3.heap.objs.size = C at *
  obtain ⟨mC, nsC, _⟩ := Ic.loc
  have nsC : sc.heap.Ns C mC := nsC
  obtain ⟨oC, esC, epC, gC, dC, skC, fC⟩ := id nsC
  have hcf : Hc C = none := Ic.free
  have Cnf : C ∉ frs X.stack := fun hb => by
    obtain ⟨_, o, ho, _⟩ := I3.stack.mem hb
    exact absurd (Heap.lt_size ho) (by rw [hC]; exact Nat.lt_irrefl _)
  have CA : C ∉ frs X.stack ++ [ea, T] := by
    obtain ⟨o', h⟩ := hB C oC gC Cnf
    exact apart h Cnf
  have gC' : s'.heap.get? C = some oC := un.keep C oC gC hcf Cnf (by simp)
  have HC : H' C = none := un.free C oC gC hcf (by simp)
  have fr' : ∀ b ∈ frs X.stack, H' b = none := fun b hb => by
    obtain ⟨_, o, ho, _⟩ := Ic.stack.mem hb
    exact un.free b o ho (Ic.stkFree b hb) (by simp)
  have kH : ∀ {b o}, H' b = some o → b ∉ frs X.stack ++ [ea, T] := fun {b o} hb => by
    obtain ⟨o', h1⟩ := hH b o hb
    exact apart h1 fun z => by rw [fr' b z] at hb; cases hb
  have fly2' := fly2
  rw [hst] at fly2'
  show wpAny _ _ (noteFrame (.ref ea) X.env) _ _ _
  refine looksD (B := less s'.heap (frs (X.env :: X.outer) ++ [ea, T])) (env := X.env) (outer := X.outer) (by rw [I3.ok.frames, hst]) hL fly2' dc fun h4 held4 up4 dc4 => ?_
  rw [← hst] at held4
  have g4 : h4.get? C = some oC := held4.1 C oC (by rw [less_out CA]; exact gC')
  show ∃ m, h4.Ns C m ∧ ∀ h', Heap.SameBut C h4 h' → ∀ cenv : Env, cenv.locals = C → wpAny _ _ (PySem.passOn "comprehension.variables-let-go" (.ref ea) cenv : Sem Value) (fun _ _ => False) X.xe { s' with heap := h' }
  refine ⟨mC, ⟨oC, esC, epC, g4, dC, skC, fC⟩, fun h' sb cenv hcl => ?_⟩
  obtain ⟨st4, ne4, fu4, oe, vs, T', oT, ts, he, hcls, hd, h1, nT', Te, hT', dT, h3'⟩ := held4
  have hbT : ∀ {b o}, b ∉ frs X.stack ++ [ea, T] → s'.heap.get? b = some o → b ≠ T' := fun {b o} hb hg z => by
    rw [z] at hb hg
    rw [less_out hb, hg] at nT'
    cases nT'
  have CT' : C ≠ T' := hbT CA gC'
  have Ce : C ≠ ea := fun z => CA (by rw [z]; simp)
  have he' : h'.get? ea = some oe := by rw [sb.2 ea Ce.symm]; exact he
  have st9 : (less h' (frs X.stack ++ [ea, T', C])).StaysIn h' := less_stays
  have fu9 : h'.FunFrames (less h' (frs X.stack ++ [ea, T', C])) X.stack := less_funs (fun_but sb fu4 (fun b hb z => Cnf (z ▸ hb))) (fun b hb => List.mem_append_left _ hb)
  have tr9 : h'.TracedAtW (less h' (frs X.stack ++ [ea, T', C])) ea cls a0 (rawInt L) := ⟨oe, vs, T', oT, ts, he', hcls, hd, h1, less_in (by simp), Te, by rw [sb.2 T' CT'.symm]; exact hT', dT, h3'⟩
  have dc9 : Dct h' ea od := by
    obtain ⟨o, e1, e2⟩ := dc4
    exact ⟨o, by rw [sb.2 ea Ce.symm]; exact e1, e2⟩
  unfold PySem.passOn
  refine wpAny_bind (wpAny_field he' hd h1 ?_)
  rw [if_neg (by simp)]
  refine wpAny_bind (flightA (s := { s' with heap := h' }) (fo := cenv.frame) st9 fu9 tr9 dc9 fun h6 fl' st6 fu6 tr6 kp6 dc6 => ?_)
  refine wpAny_throw (hxe _ _ ?_)
  have fu6' : ∀ l, l = X.stack → h6.FunFrames (less h' (frs X.stack ++ [ea, T', C])) l := by
    intro l hl
    subst hl
    exact fu6
  refine leavesAnyD (s := { s' with heap := h6 }) (env := X.env) (outer := X.outer) (by rw [I3.ok.frames, hst]) hL st6 (less_in (by simp)) (fu6' _ hst.symm) tr6 dc6 fun h9 fly9 up9 dc99 => ?_
  have stay9 : ∀ {b u}, b ∉ frs X.stack ++ [ea, T] → b ≠ C → s'.heap.get? b = some u → h'.get? b = some u ∧ (less h' (frs X.stack ++ [ea, T', C])).get? b = some u ∧ h9.get? b = some u := fun {b u} hb hbC hu => by
    have e4 : h4.get? b = some u := st4 b u (by rw [hst] at hb; rw [hst, less_out hb]; exact hu)
    have e5 : h'.get? b = some u := by rw [sb.2 b hbC]; exact e4
    have e6 : (less h' (frs X.stack ++ [ea, T', C])).get? b = some u := by
      rw [less_out fun hx => ?_]
      · exact e5
      · rcases List.mem_append.mp hx with h | h
        · exact hb (List.mem_append_left _ h)
        · rcases (show b = ea ∨ b = T' ∨ b = C by simpa using h) with z | z | z
          · exact hb (by rw [z]; simp)
          · exact hbT hb hu z
          · exact hbC z
    exact ⟨e5, e6, fly9.1 b u e6⟩
  have slots9 : ∀ b ∈ frs X.stack, ∀ o, s'.heap.get? b = some o → ∃ sl, h9.get? b = some { o with slots := sl } := fun b hb o ho => by
    obtain ⟨_, o2, e2, nf⟩ := fly.2.2.1.mem hb
    rw [ho] at e2
    cases e2
    obtain ⟨sl1, e1⟩ := up4 b o ho nf
    have e5 : h'.get? b = some { o with slots := sl1 } := by rw [sb.2 b (fun z => Cnf (z ▸ hb))]; exact e1
    have e6 : h6.get? b = some { o with slots := sl1 } := kp6 b _ e5 nf
    obtain ⟨sl2, e7⟩ := up9 b _ e6 nf
    exact ⟨sl2, e7⟩
  have U : Un (frs X.stack) fp H3 H' s3.heap s'.heap := Un.trans (show Un (frs X.stack) fp H3 Hc s3.heap sc.heap from Ic.base) (un.mono (fun b h => h) (fun b h => absurd h (by simp)))
  have ap3 : ∀ {b o}, s3.heap.get? b = some o → b ∉ fp → b ∉ frs X.stack → b ∉ frs X.stack ++ [ea, T] ∧ b ≠ C := fun {b o} hb nx nf => by
    obtain ⟨o1, e1⟩ := (show Un (frs X.stack) fp H3 Hc s3.heap sc.heap from Ic.base).there b o hb nx
    obtain ⟨o2, e2⟩ := hB b o1 e1 nf
    exact ⟨apart e2 nf, fun z => absurd (Heap.lt_size hb) (by rw [z, hC]; exact Nat.lt_irrefl _)⟩
  have Un9 : Un (frs X.stack) fp H3 H' s3.heap h9 := by
    refine ⟨fun b o e n nf nx => ?_, fun b o e n hb nx => ?_, U.free, fun b o e nx => ?_, U.tups, U.frzs, U.tbls⟩
    · obtain ⟨a1, a2⟩ := ap3 e nx nf
      exact (stay9 a1 a2 (U.keep b o e n nf nx)).2.2
    · obtain ⟨sl, e1⟩ := U.slot b o e n hb nx
      obtain ⟨sl', e2⟩ := slots9 b hb _ e1
      exact ⟨sl', e2⟩
    · obtain ⟨o', e1⟩ := U.there b o e nx
      by_cases hb : b ∈ frs X.stack
      · obtain ⟨sl', e2⟩ := slots9 b hb _ e1
        exact ⟨_, e2⟩
      · obtain ⟨a1, a2⟩ := ap3 e nx hb
        exact ⟨o', (stay9 a1 a2 e1).2.2⟩
  have nC : ∀ {b o}, H' b = some o → b ≠ C := fun {b o} hb z => by rw [z, HC] at hb; cases hb
  have hok9 : HOk X.prog X.w H' h9 := fun a o e => (hok a o e).stay (fun b u hc q => by
    rcases hc with rfl | hc
    · exact (stay9 (kH e) (nC e) q).2.2
    · exact (stay9 (kH hc) (nC hc) q).2.2) (fun _ q => q) fun _ _ q => q
  have I9 := I3.call' (s' := { s' with heap := h9 }) (ch := fp) (os.trans Ic.os) Un9 hok9 bare (fun b hb => ⟨(f3 b hb).2.2.2.1, (f3 b hb).2.1, (f3 b hb).2.2.2.2.1, (f3 b hb).2.2.2.2.2⟩)
  have base9 := I9.base
  rw [hex] at base9
  refine ⟨ea, cls, a0, od, H', _, rfl, fly9, dc99, fun b o hb nf => ?_, fun b o hb => ?_, I9.os, I9.bare, base9, hok9, hE⟩
  · have ns := hsub b o hb nf
    obtain ⟨o1, e1⟩ := I3.base.there b o hb (by rw [hex]; simp)
    have nx : b ∉ fp := fun hx => by
      rcases (f3 b hx).2.2.2.1 with z | z
      · rw [hex] at z; simp at z
      · exact absurd (Heap.lt_size hb) (Nat.not_lt.mpr z)
    obtain ⟨a1, a2⟩ := ap3 e1 nx ns
    obtain ⟨o3, e3⟩ := U.there b o1 e1 nx
    exact ⟨o3, (stay9 a1 a2 e3).2.1⟩
  · obtain ⟨u, hu⟩ := (hok b o hb).some_
    exact ⟨u, (stay9 (kH hb) (nC hb) hu).2.1⟩
end
theorem compLoop_anyX {prog : Program} {w : World} {A : Around} {R : Result → Shared → Prop} {s : Shared} {elt target iter : Expr} {ifs : List Expr} {scope : Scope} {pos : Pos} {it acc : Value} {env : Env} (I : Nat → Shared → Prop) (XE' : Value → Shared → Prop) (hE : ∀ x s', XE' x s' → notedBy (model prog w) A env (fun x s'' => R (.error x) s'') x s')
    (turn : ∀ n s, I n s → wpAny (model prog w) A (pyNext it) (fun r s₁ => match r with
      | none => R (.ok .next) s₁
      | some v => wpAny (model prog w) A (letOwnedTupleGo target it v) (fun _ s₀ => wpAny (model prog w) A (assign target env v) (fun _ s₂ =>
          wpAny (model prog w) A (forIn ifs true fun c r => if r = true then do let ok ← isTrue c env (eval c env); pure (ForInStep.yield ok) else pure (ForInStep.yield r)) (fun ok s₃ =>
            if ok = true then wpAny (model prog w) A (eval elt env) (fun x s₄ =>
              wpAny (model prog w) A (call (.builtin "list.append") [acc, x]) (fun _ s₅ => ∃ m, m < n ∧ I m s₅) XE' s₄) XE' s₃
            else ∃ m, m < n ∧ I m s₃) XE' s₂) XE' s₀) (fun _ _ => False) s₁) (fun _ _ => False) s)
    (n : Nat) (h : I n s) :
    codeAny (model prog w) A (.compLoop (.ListComp elt [⟨target, iter, ifs, 0⟩] scope pos) 0 it acc env) R s := by
  refine codeAny_loop rfl I (fun n s hI => ?_) n h
  show wpAny _ A ((compTurn (.ListComp elt [⟨target, iter, ifs, 0⟩] scope pos) 0 it acc env).onRaise (fun x => do noteFrame x env; theTreesLotGoes x)) _ _ s
  refine wpAny_noted ?_
  rw [compTurn_list]
  refine wpAny_bind (wpAny_standAt (wpAny_bind (wpAny_mono (turn n s hI) (fun r s₁ h₁ => ?_) fun _ _ h' => h'.elim)))
  cases r with
  | none => exact wpAny_pure h₁
  | some v =>
    refine wpAny_bind (wpAny_mono h₁ (fun _ s₀ h₀ => ?_) fun _ _ h' => h'.elim)
    refine wpAny_bind (wpAny_mono h₀ (fun _ s₂ h₂ => wpAny_bind (wpAny_mono h₂ (fun ok s₃ h₃ => ?_) hE)) hE)
    cases ok with
    | false => exact wpAny_pure ⟨rfl, h₃⟩
    | true =>
      exact wpAny_bind (wpAny_bind (wpAny_mono h₃ (fun x s₄ h₄ => wpAny_bind (wpAny_mono h₄ (fun _ s₅ h₅ => wpAny_pure (wpAny_pure ⟨rfl, h₅⟩)) hE)) hE))

theorem comp_runX {X : Cx} {E : XK} {L : Addr} {elt tg iter : Expr} {ifs : List Expr} {scope : Scope} {pos cpos : Pos} {wi : TI} {g : TG} {tt : TT} {te : TE} {N' : List Str} {fr : List (Option Nat)} (hex : X.ex = []) (hst : X.stack = X.env :: X.outer) (hL : X.env.frame = some L)
    (hxe : ∀ e s', wpAny (model X.prog X.w) X.A (leaving X.env e) (fun _ s'' => CX2 X.prog X.w X.outer X.H₀ X.s₀ E e s'') (fun e' s'' => CX2 X.prog X.w X.outer X.H₀ X.s₀ E e' s'') s' → X.xe e s') (S : CompSc X.env.scope scope X.N N' fr) (hc : X.calm = true) (hi : PI X tg iter wi)
    (hg : ∀ C s0 H0 fp, PG (cxCompX X E scope C N' s0 H0 fp) tg g) (ht : ∀ C s0 H0 fp, PTs (cxCompX X E scope C N' s0 H0 fp) ifs tt) (he : ∀ C s0 H0 fp, PE (cxCompX X E scope C N' s0 H0 fp) elt te)
    (hs : ∀ x, foldedSetIterable iter X.env x = pure x) {pins : List (Addr × Obj)} {s : Shared} {σ : St} {H : Hp} {Q : VK} (I : Inv X pins σ H s) (h : tComp fr wi g tt te σ H Q) (use : Option (Value → Sem Unit)) (QQ : Value → Shared → Prop)
    (fin : ∀ (D C : Addr) (H5 : Hp) (s6 : Shared), Inv X pins σ H5 s6 → Q (.ref D) H5 → H5 C = none → C ≠ X.env.locals → X.s₀.heap.objs.size ≤ C → (∀ x c, X.env.cells.lookup x = some c → c ≠ C) → (∀ p ∈ X.pn ++ pins, p.1 ≠ C) → (∃ m, s6.heap.Ns C m) →
      compPost (model X.prog X.w) X.A X.xe use QQ (.ref D) C (.ok .next) s6) :
    wpAny (model X.prog X.w) X.A (comprehension (.ListComp elt [⟨tg, iter, ifs, 0⟩] scope pos) scope X.env cpos (newList []) false (eval iter X.env) use) QQ X.xe s := by
  have hfree : ∀ y ∈ scope.names, y.2 = .free → ∃ c, X.env.cells.lookup y.1 = some c := fun y hy e => I.ok.has y.1 (.inl (S.free y hy e))
  refine wpAny_comprehension_free (use := use) rfl hs (clos_of hfree) S.kind S.names (thn (hi pins s σ H _ I h) fun v s1 h1 => thn h1 fun itv s2 h2 => ?_)
  obtain ⟨it, fp, tn, J, H2, e, I2, T, st2, f2, hD⟩ := h2
  subst e
  obtain ⟨W, ⟨m0, w0⟩, turn⟩ := hD s2.heap.objs.size I2.fresh
  -- the new list
  refine wpAny_newObj_type ?_
  have I3 : Inv X pins σ (upd H2 s2.heap.objs.size (.lst [])) { s2 with heap := s2.heap.push { cls := .type "list", data := .seq ([] : List Value).toArray }, toks := s2.toks } := I2.lnew (ys := []) .nil (Nat.zero_le _)
  revert I3
  generalize eD : s2.heap.objs.size = D at *
  generalize e3 : ({ s2 with heap := s2.heap.push { cls := .type "list", data := .seq ([] : List Value).toArray }, toks := s2.toks } : Shared) = s3
  intro I3
  have k3 : ∀ b o, s2.heap.get? b = some o → s3.heap.get? b = some o := fun b o e => by rw [← e3]; exact Heap.get?_push_of_some _ e
  refine wpAny_newFunctionEnv S.nocell (by intro y hy; simp at hy) (fun h4 hns hsb => ?_) S.kind
  have old : ∀ b o, s3.heap.get? b = some o → h4.get? b = some o := fun b o e => hsb.extBut b o (Nat.ne_of_lt (Heap.lt_size e)) (Heap.get?_push_of_some _ e)
  have fD : ∀ b ∈ fp, b ≠ D := fun b hb z => by
    obtain ⟨o, ho, _⟩ := T.obj _ _ st2 b hb
    exact absurd (Heap.lt_size ho) (by rw [z, eD]; exact Nat.lt_irrefl _)
  have f3 : ∀ b ∈ fp, FpOk X pins (upd H2 D (.lst [])) b := fun b hb => ⟨by rw [upd_ne (fD b hb)]; exact (f2 b hb).1, (f2 b hb).2⟩
  have l3 : ∀ b ∈ fp, b < s3.heap.objs.size := fun b hb => by
    obtain ⟨o, ho, _⟩ := T.obj _ _ st2 b hb
    exact Heap.lt_size (k3 b o ho)
  have I4 := (Inv.block (t1 := s3.toks + ([] : List (Str × Value)).length) (scope := scope) S hc I3 f3 l3 hns old).wish (fun e s' => ∃ (pins : List (Addr × Obj)) (σ : St) (H : Hp) (s : Shared), Inv (cxComp X scope s3.heap.objs.size N' s3 (upd H2 D (.lst [])) fp) pins σ H s ∧ CX2 X.prog X.w X.stack H s E e s')
  have hsub : ∀ b o, X.s₀.heap.get? b = some o → b ∉ frs X.outer → b ∉ frs X.stack := fun b o hb nf hx => by
    rcases List.mem_cons.mp (I.stkSub b hx) with e | e
    · have h1 := Heap.lt_size hb
      have h2 := I.ok.above
      rw [e] at h1
      exact absurd h1 (Nat.not_lt.mpr h2)
    · exact nf e
  have hErr := fun (x : Value) (s' : Shared) (Jx : ∃ (pins : List (Addr × Obj)) (σ : St) (H : Hp) (s : Shared), Inv (cxComp X scope s3.heap.objs.size N' s3 (upd H2 D (.lst [])) fp) pins σ H s ∧ CX2 X.prog X.w X.stack H s E x s') => comp_err (D := D) (use := use) (QQ := QQ) hex hst hL hsub hxe I3 f3 Jx
  generalize eX : cxCompX X E scope s3.heap.objs.size N' s3 (upd H2 D (.lst [])) fp = X'
  replace I4 : Inv X' [] (frSt fr σ) (upd H2 D (.lst [])) { s3 with heap := h4, toks := s3.toks + ([] : List (Str × Value)).length } := by rw [← eX]; exact I4
  have st4 : tn 0 h4 := T.keep _ _ _ st2 fun b hb o e => old b o (k3 b o e)
  have stat : ∀ {H' : Hp}, (∀ b ∈ fp, H' b = none) → ∀ b ∈ fp, FpOk X' [] H' b := fun {H'} hn b hb => by
    subst eX
    refine ⟨hn b hb, Nat.ne_of_lt (l3 b hb), ?_, .inl hb, ?_, fun p hp => absurd hp (by simp [cxCompX, cxComp, Cx.wish])⟩
    · exact I4.ok.exfs b hb
    · exact (I4.ok.exf b hb).2
  show codeAny _ _ (.compStart _ 0 (.ref it) (.ref D) (compEnvC scope (clOf scope X.env) s3.heap.objs.size X.env)) (compPost _ _ _ use _ (.ref D) s3.heap.objs.size) _
  have hX : X'.prog = X.prog ∧ X'.w = X.w ∧ X'.K = X.K ∧ X'.A = X.A ∧ X'.calm = true ∧ X'.env = compEnvC scope (clOf scope X.env) s3.heap.objs.size X.env ∧ X'.xe = (fun e s' => ∃ (pins : List (Addr × Obj)) (σ : St) (H : Hp) (s : Shared), Inv (cxComp X scope s3.heap.objs.size N' s3 (upd H2 D (.lst [])) fp) pins σ H s ∧ CX2 X.prog X.w X.stack H s E e s') ∧ X'.s₀ = s3 ∧ X'.H₀ = upd H2 D (.lst []) ∧ X'.fs = frs X.stack ∧ X'.ex = fp := by
    subst eX
    exact ⟨rfl, rfl, rfl, rfl, rfl, rfl, rfl, rfl, rfl, rfl, rfl⟩
  have hg' : PG X' tg g := by subst eX; exact hg _ _ _ _
  have ht' : PTs X' ifs tt := by subst eX; exact ht _ _ _ _
  have he' : PE X' elt te := by subst eX; exact he _ _ _ _
  clear eX
  obtain ⟨x1, x2, x3, x4, x5, x6, x7, x8, x9, x10, x11⟩ := hX
  have loop : codeAny (model X.prog X.w) X.A (.compLoop (.ListComp elt [⟨tg, iter, ifs, 0⟩] scope pos) 0 (.ref it) (.ref D) (compEnvC scope (clOf scope X.env) s3.heap.objs.size X.env))
      (compPost (model X.prog X.w) X.A X.xe use QQ (.ref D) s3.heap.objs.size) { s3 with heap := h4, toks := s3.toks + ([] : List (Str × Value)).length } := by
    refine compLoop_anyX (XE' := fun e s' => ∃ (pins : List (Addr × Obj)) (σ : St) (H : Hp) (s : Shared), Inv (cxComp X scope s3.heap.objs.size N' s3 (upd H2 D (.lst [])) fp) pins σ H s ∧ CX2 X.prog X.w X.stack H s E e s') (hE := hErr) (I := fun n s' => ∃ i σ' ys H', Inv X' [] σ' H' s' ∧ tn i s'.heap ∧ (∀ b ∈ fp, H' b = none) ∧ W i n σ' ys H') ?_ m0 ⟨0, _, [], _, I4, st4, fun b hb => (f3 b hb).1, w0⟩
    rintro n s5 ⟨i, σ5, ys, H5, I5, st5, fr5, w5⟩
    rcases turn i n σ5 ys H5 w5 with ⟨stop, qn⟩ | ⟨go, N, hN, step⟩
    · have z := T.done X' x1 x2 x3 x5 i [] s5 σ5 H5 (fun _ _ => False) I5 (stat fr5) st5 stop
      rw [x4] at z
      refine thn z fun r s6 ⟨hr, I6⟩ => ?_
      subst hr
      -- the end
      obtain ⟨mm, hn6, _⟩ := I6.loc
      have hL : X'.env.locals = s3.heap.objs.size := by rw [x6]; rfl
      rw [hL] at hn6
      have nC : H5 s3.heap.objs.size = none := by have := I6.free; rw [hL] at this; exact this
      have base := I6.base
      rw [x8, x9, x10, x11] at base
      have hok : HOk X.prog X.w H5 s6.heap := by have q := I6.hok; rw [x1, x2] at q; exact q
      have os : s6.os = s3.os := by have := I6.os; rw [x8] at this; exact this
      have IX : Inv X pins σ H5 s6 := I3.call' os base hok I6.bare fun b hb => ⟨(f3 b hb).2.2.2.1, (f3 b hb).2.1, (f3 b hb).2.2.2.2.1, (f3 b hb).2.2.2.2.2⟩
      refine fin D s3.heap.objs.size H5 s6 IX qn nC (Nat.ne_of_gt I3.lt) I3.sz (fun x c e => ?_) (fun p hp => ?_) ⟨mm, hn6⟩
      · obtain ⟨v, q⟩ := I3.cell x c e
        exact Nat.ne_of_lt q.lt
      · exact Nat.ne_of_lt (Heap.lt_size (I3.pin p hp).1)
    · have z := T.item X' x1 x2 x3 x5 i [] s5 σ5 H5 (fun _ _ => False) I5 (stat fr5) st5 go
      rw [x4] at z
      refine thn z fun r s6 ⟨u, hr, h6⟩ => ?_
      subst hr
      refine thn h6 fun _ s7 ⟨x, H7, I7, r7, y7, st7, fr7⟩ => ?_
      have I7' := I7.pinned (stat fr7) (T.obj _ _ st7)
      have again : ∀ {σ' : St} {H' : Hp} {s' : Shared}, Inv X' ([] ++ pinsAt fp s7.heap) σ' H' s' → Inv X' [] σ' H' s' ∧ tn (i + 1) s'.heap ∧ ∀ b ∈ fp, H' b = none := fun {σ' H' s'} J => by
        refine ⟨J.unpinned, T.keep _ _ _ st7 fun b hb o e => (J.pin (b, o) (List.mem_append_right _ (List.mem_append_right _ (mem_pinsAt hb e)))).1, fun b hb => ?_⟩
        obtain ⟨o, e, d⟩ := T.obj _ _ st7 b hb
        exact (J.pin (b, o) (List.mem_append_right _ (List.mem_append_right _ (mem_pinsAt hb e)))).2.1
      have z := hg' _ s7 σ5 H7 x u _ I7' r7 (step x H7 y7)
      rw [x1, x2, x4, x6, x7] at z
      refine thn z fun _ s8 ⟨σ8, H8, I8, q8⟩ => ?_
      have z := ht' _ s8 σ8 H8 _ I8 q8
      rw [x1, x2, x4, x6, x7] at z
      refine thn z fun b s9 ⟨H9, I9, q9⟩ => ?_
      cases b with
      | false =>
        rw [if_neg Bool.false_ne_true] at q9 ⊢
        obtain ⟨m', hm, w9⟩ := hN _ _ _ q9
        obtain ⟨a1, a2, a3⟩ := again I9
        exact ⟨m', hm, i + 1, σ8, ys, H9, a1, a2, a3, w9⟩
      | true =>
        rw [if_pos rfl] at q9 ⊢
        have z := he' _ s9 σ8 H9 _ I9 q9
        rw [x1, x2, x4, x6, x7] at z
        refine thn z fun v' s10 ⟨y, H10, I10, r10, hD10, hz, w10⟩ => ?_
        have z := mt_append (X := X') _ s10 σ8 H10 (.ref D) [y] (.ref D) [v'] (fun _ H' => N σ8 (ys ++ [y]) H') I10 rfl (.cons r10 .nil) ⟨D, ys, y, rfl, rfl, hD10, hz, w10⟩
        rw [x1, x2, x4, x7] at z
        refine thn z fun _ s11 ⟨_, H11, I11, _, w11⟩ => ?_
        obtain ⟨m', hm, w11⟩ := hN _ _ _ w11
        obtain ⟨a1, a2, a3⟩ := again I11
        exact ⟨m', hm, i + 1, σ8, _, H11, a1, a2, a3, w11⟩
  exact codeAny_compStart_list loop (T.self _ 0 _ _ _ st4 loop)
/-- [.. for .. in ..] in a body that may raise, its parts too -/
theorem pe_compX {P : Program} {w : World} {K : PySem.W.Frag} {mg : Str → Option Value} {base : Heap} {N : List Str} {qual : Str} {sc : Scope} {f : Addr} {cd : Value} {A : Around} {outer : List Env} {s₀ : Shared} {H₀ : Hp} {E : XK}
    {elt tg iter : Expr} {ifs : List Expr} {scope : Scope} {pos : Pos} {wi : TI} {g : TG} {tt : TT} {te : TE} {N' : List Str} {fr : List (Option Nat)} (S : CompSc sc scope N N' fr) (hi : PI (cxOf (CX2 P w) P w K mg base N qual sc f cd A outer s₀ H₀ E) tg iter wi)
    (hg : ∀ C s0 H0 fp, PG (cxCompX (cxOf (CX2 P w) P w K mg base N qual sc f cd A outer s₀ H₀ E) E scope C N' s0 H0 fp) tg g) (ht : ∀ C s0 H0 fp, PTs (cxCompX (cxOf (CX2 P w) P w K mg base N qual sc f cd A outer s₀ H₀ E) E scope C N' s0 H0 fp) ifs tt) (he : ∀ C s0 H0 fp, PE (cxCompX (cxOf (CX2 P w) P w K mg base N qual sc f cd A outer s₀ H₀ E) E scope C N' s0 H0 fp) elt te)
    (hs : ∀ x, foldedSetIterable iter (cxOf (CX2 P w) P w K mg base N qual sc f cd A outer s₀ H₀ E).env x = pure x := by intro _; rfl) : PE (cxOf (CX2 P w) P w K mg base N qual sc f cd A outer s₀ H₀ E) (.ListComp elt [⟨tg, iter, ifs, 0⟩] scope pos) (tComp fr wi g tt te) := by
  intro pins s σ H Q I h
  rw [eval_ListComp]
  refine comp_runX (L := (envOfC qual sc s₀.heap.objs.size f cd).locals) rfl rfl rfl (fun _ _ h => h) S rfl hi hg ht he hs I h none _ fun D C H5 s6 IX q nC c1 c2 c3 c4 hm => ?_
  obtain ⟨m, hm⟩ := hm
  refine ⟨m, hm, fun h' hs' => ⟨.ref D, H5, IX.turned (t' := s6.toks) (it := C) (fun b o hb e => hs'.extBut b o hb e) nC c1 (.inr c2) c3 c4, rfl, q⟩⟩
end L2


set_option Elab.async false
set_option linter.all false
set_option maxRecDepth 100000
set_option maxHeartbeats 4000000
namespace L2
open PySem PySem.Spec PyProof.Rows
section
variable {X : Cx}
/-! ### where a text stands in a list of texts -/
end
end L2


set_option Elab.async false
set_option linter.all false
set_option maxRecDepth 100000
set_option maxHeartbeats 4000000
namespace L2
open PySem PySem.Spec PyProof.Rows
section
variable {X : Cx}
/-! ### how often a text stands in a tuple of texts -/
def rTCount (K : PySem.W.Frag) : V → List V → Hp → VK → Prop := fun x vs H Q => ∃ (p : Addr) (ns : List Str) (k : Str), x = .ref p ∧ vs = [.str k] ∧ SqT K H p (ns.map V.str) ∧ Q (.int (ns.count k : Nat)) H
theorem count_eqU {k : Str} : ∀ {ns : List Str} {its : List Value}, Vals (ns.map V.str) its → its.countP (eqU (.str k)) = ns.count k
  | [], [], _ => rfl
  | n :: ns, u :: its, .cons h r => by
    have e : eqU (.str k) u = (n == k) := by rw [eqU_of (y := .str n) h rfl]; rfl
    rw [List.countP_cons, List.count_cons, count_eqU r, e]
theorem mt_tcount : MtR X "tuple.count" (rTCount X.K) := by
  intro pins s σ H x vs v us Q I rx rv h
  obtain ⟨p, ns, k, rfl, rfl, hp, q⟩ := h
  cases rx
  obtain ⟨u, rfl, ru⟩ := rv.one
  obtain ⟨t, rfl⟩ := ru
  obtain ⟨its, r, pl, hz⟩ := I.tuple hp
  obtain ⟨o, ho, hc, m, hdat⟩ := pl
  obtain ⟨oc, od, odt, osl⟩ := o
  have hc : oc = _ := hc
  have hdat : odt = _ := hdat
  subst hc hdat
  have fl : (ns.map V.str).all flatV = true := by
    rw [List.all_eq_true]
    intro y hy
    obtain ⟨i, _, rfl⟩ := List.mem_map.mp hy
    rfl
  refine call_meets F.slot_tuple_count ⟨_, ho, rfl⟩ F.entry_tuple_count (F.args_tuple_count_2 _ _)
    (SeqAt.tuple_countAt p its.toArray m od osl (.str k t) (eqU (.str k))) ⟨ho, fun y hy => mem_eqAt (x := .str k) ⟨t, rfl⟩ rfl r fl y (by simpa using hy), ⟨.int (ns.count k : Nat), H, I.tok _, ⟨s.toks, by rw [List.toList_toArray, count_eqU r]⟩, q⟩⟩
end
end L2


set_option Elab.async false
set_option linter.all false
set_option maxRecDepth 100000
set_option maxHeartbeats 4000000
namespace My
open PySem L2
/-! ### units read: what they show -/
def fits (h : Str × Int) (a low : Int) : Bool := if (ksOf h.1).count ("box" : Str) = 0 ∧ a ≠ 0 then false else if (ksOf h.1).count ("box" : Str) = 2 then decide (low < 8) else (decide (low = 0) || (decide (h.1 ∈ five) && decide (h.2 = 0)))
def bdOf (k : Str) : Int × Int := ((bounds.find? fun x => x.1 == k).map (·.2)).getD (0, 0)
def inB (k : Str) (n : Int) : Bool := decide ((bdOf k).1 ≤ n ∧ n ≤ (bdOf k).2)
theorem bd_in : ∀ x ∈ bounds, (x.1, bdOf x.1) = x := by decide +kernel
theorem ks_in : ∀ u ∈ all20, (u, ksOf u) ∈ kinds := by decide +kernel
theorem heads20 : ∀ h ∈ heads, h.1 ∈ all20 := by decide +kernel
section
variable {P : Program} {w : World} {K : PySem.W.Frag} {mg : Str → Option Value} {base : Heap}
variable {cNU R fI : Addr} {fdI : FuncData}
def spWholeI : Sp := fun vs H Q _ => ∃ n : Int, vs = [.int n] ∧ Q (.bl true) H
theorem scWho : FnScope ["thing"] ["thing"] (defScope sWholeF) := ⟨rfl, rfl, rfl, by decide +kernel, rfl, by decide +kernel, by decide +kernel⟩
theorem ok_whole {f : Addr} {fd : FuncData} (F : Fun K "is_whole" "is_whole" sWholeF f fd) (T : Txt K w.params mg) : FnOk P w K mg base CX0 1 f fd ["thing"] spWholeI := by
  refine F.ok scWho (fun vs H Q E h => ?_) (fun cdv A outer s H vs Q E hr h => ?_)
  · obtain ⟨n, rfl, _⟩ := h
    rfl
  · obtain ⟨n, rfl, k⟩ := h
    refine ⟨_, (pss_one (ps_ret (pe_and (pe_callB call_isinst (by rfl) T.isi bt_isi (pa_cons (pv 0) (pa_cons (pe_bltn (v := .ty "int") (by rfl) T.int bt_int rfl) pa_nil))) (pe_one (pe_not (pe_callB call_isinst (by rfl) T.isi bt_isi (pa_cons (pv 0) (pa_cons (pe_bltn (v := .ty "bool") (by rfl) T.bool bt_bool rfl) pa_nil)))))))), ?_⟩
    refine ⟨_, rfl, _, _, _, _, rfl, .int _, k_int_int, _, rfl, iteP (by decide) ?_⟩
    exact ⟨_, rfl, _, _, _, _, rfl, .int _, k_int_bool, _, rfl, k⟩
def spNumOf : Sp := fun vs H Q _ => ∃ (kd : Str) (n : Int), vs = [.str kd, .int n] ∧ kd ∈ bounds.map (·.1) ∧ Q (.bl (inB kd n)) H
theorem scNuo : FnScope ["kind", "thing"] ["kind", "thing"] (defScope sNumOf) := ⟨rfl, rfl, rfl, by decide +kernel, rfl, by decide +kernel, by decide +kernel⟩
theorem ok_numof {f fW : Addr} {fd fdW : FuncData} (F : Fun K "is_number_of" "is_number_of" sNumOf f fd) (T : Txt K w.params mg) (GW : FnOk P w K mg base CX0 1 fW fdW ["thing"] spWholeI) (kW : PySem.W.keepIn K (.ref fW) = true) (bW : Binds K fdW ["thing"] []) (mW : mg "is_whole" = some (.ref fW)) : FnOk P w K mg base CX0 2 f fd ["kind", "thing"] spNumOf := by
  refine F.ok scNuo (fun vs H Q E h => ?_) (fun cdv A outer s H vs Q E hr h => ?_)
  · obtain ⟨kd, n, rfl, _⟩ := h
    rfl
  · obtain ⟨kd, n, rfl, hk, k⟩ := h
    obtain ⟨x, hx, rfl⟩ := List.mem_map.mp hk
    have hb := bd_in x hx
    obtain ⟨pb, hpb, hpk⟩ := T.bnd
    obtain ⟨q, hq, hS⟩ := hpk x hx
    have hS' : ∀ H, SqT K H q [.int (bdOf x.1).1, .int (bdOf x.1).2] := fun H => by rw [show bdOf x.1 = x.2 from congrArg Prod.snd hb]; exact hS H
    refine ⟨_, (pss_one (ps_ret (pe_and (pe_call GW hr (by rfl) mW kW bW .nil pass0 (pa_cons (pv 1) pa_nil)) (pe_one (pe_chain op_le op_le (pe_ix ix_tup (pe_kget (pe_glob (v := .ref pb) (by rfl) hpb rfl) (pv 0) (fun _ _ => rfl)) pe_int (fun _ _ => rfl)) (pv 1) (pe_ix ix_tup (pe_kget (pe_glob (v := .ref pb) (by rfl) hpb rfl) (pv 0) (fun _ _ => rfl)) pe_int (fun _ _ => rfl))))))), ?_⟩
    refine ⟨_, rfl, n, rfl, _, rfl, iteP rfl ?_⟩
    refine ⟨_, rfl, pb, x.1, _, rfl, rfl, hq, q, _, 0, _, rfl, rfl, hS' _, at0 _ _, _, rfl, _, _, rfl, rfl, _, rfl, ?_⟩
    unfold inB at k
    refine ite2 (fun e => ?_) (fun e => ?_)
    · refine ⟨_, rfl, pb, x.1, _, rfl, rfl, hq, q, _, 1, _, rfl, rfl, hS' _, at1 _ _ _, _, _, rfl, rfl, ?_⟩
      have e := of_decide_eq_true e
      rw [show decide ((bdOf x.1).1 ≤ n ∧ n ≤ (bdOf x.1).2) = decide (n ≤ (bdOf x.1).2) from decide_eq_decide.mpr ⟨fun z => z.2, fun z => ⟨e, z⟩⟩] at k
      exact k
    · rw [decide_eq_false (fun z => e (decide_eq_true z.1))] at k
      exact k
/-! ### whole_at -/
def spWAt (cNU : Addr) : Sp := fun vs H Q E => ∃ (lu : Addr) (us : List Int) (at_ : Nat), vs = [.ref lu, .int (at_ : Int)] ∧ H lu = some (.lst (us.map V.int)) ∧ us.length ≤ 1000000 ∧ at_ ≤ 2000000 ∧ (∀ u, us[at_]? = some u → Q (.int u) H) ∧ (us[at_]? = none → ∀ e, e = at_ → ∀ H' d, Same H H' → H' d = some (.xd [("at", .int (e : Int))]) → E (.ref cNU) (some d) H')
theorem scWat : FnScope ["units", "at"] ["units", "at"] (defScope sWholeAt) := ⟨rfl, rfl, rfl, by decide +kernel, rfl, by decide +kernel, by decide +kernel⟩
theorem ok_wat {f fW : Addr} {fd fdW : FuncData} (F : Fun K "whole_at" "whole_at" sWholeAt f fd) (T : Txt K w.params mg) (GW : FnOk P w K mg base CX0 1 fW fdW ["thing"] spWholeI) (kW : PySem.W.keepIn K (.ref fW) = true) (bW : Binds K fdW ["thing"] []) (mW : mg "is_whole" = some (.ref fW)) (cx : XIni K cNU R fI) (kC : PySem.W.keepIn K (.ref cNU) = true) (GI : FnOk P w K mg base CX0 1 fI fdI ["self", "at"] (spXI cNU)) (bI : Binds K fdI ["self", "at"] []) (mNU : mg "NoUnits" = some (.ref cNU)) : FnOk P w K mg base (CX2 P w) 3 f fd ["units", "at"] (spWAt cNU) := by
  refine F.okX scWat (fun vs H Q E h => ?_) (fun cdv A outer s H vs Q E hr h => ?_)
  · obtain ⟨lu, us, a, rfl, _⟩ := h
    rfl
  · obtain ⟨lu, us, a, rfl, hu, hl, ha, k, hE⟩ := h
    have hrI := hr
    have hrW := hr.mono (show 1 ≤ 2 by decide)
    refine ⟨_, (pss_cons (ps_if (pw_or (pt_cmpR op_ge (pv 1) (pe_callB call_len_seq (by rfl) T.len bt_len (pa_cons (pv 0) pa_nil)) (nomark _)) (pw_or1 (pt_not (pt_val (pe_call GW hrW (by rfl) mW kW bW .nil pass0 (pa_cons (pe_ix ix_list (pv 0) (pv 1) (fun _ _ => rfl)) pa_nil)))))).pt (pss_one (ps_raiseC cx kC GI bI hrI mNU (by rfl) (pa_cons (pv 1) pa_nil))) pss_nil)
      (pss_one (ps_ret (pe_ix ix_list (pv 0) (pv 1) (fun _ _ => rfl))))), ?_⟩
    refine ⟨_, rfl, _, rfl, lu, _, rfl, .inl (SqL.of hu), _, _, rfl, rfl, _, rfl, ?_⟩
    rw [List.length_map]
    refine ite2 (fun e => ?_) (fun e => ?_)
    · have e := of_decide_eq_true e
      have hn : us[a]? = none := List.getElem?_eq_none (by omega)
      exact iteP rfl ⟨_, rfl, _, rfl, by omega, fun d nd => hE hn a rfl _ d (same_new nd) upd_same⟩
    · have e : a < us.length := by
        have : ¬ ((us.length : Nat) : Int) ≤ (a : Int) := fun z => e (decide_eq_true z)
        omega
      have hn : us[a]? = some us[a] := List.getElem?_eq_getElem e
      generalize us[a] = u at hn
      have hat : atI (us.map V.int) (a : Int) = some (.int u) := atI_nat (by rw [List.getElem?_map, hn]; rfl)
      refine ⟨_, rfl, _, rfl, lu, _, _, .int u, rfl, rfl, SqL.of hu, hat, u, rfl, _, rfl, iteN (by decide) ?_⟩
      exact ⟨_, rfl, _, rfl, lu, _, _, .int u, rfl, rfl, SqL.of hu, hat, k u hn⟩
/-! ### fits_head -/
def spFits : Sp := fun vs H Q _ => ∃ (q : Addr) (h : Str × Int) (a low : Int), vs = [.ref q, .int a, .int low] ∧ SqT K H q [.str h.1, .int h.2] ∧ h ∈ heads ∧ Q (.bl (fits h a low)) H
theorem scFit : FnScope ["head", "a", "low", "boxes"] ["head", "a", "low"] (defScope sFits) := ⟨rfl, rfl, rfl, by decide +kernel, rfl, by decide +kernel, by decide +kernel⟩
theorem ok_fits {f fH : Addr} {fd fdH : FuncData} (F : Fun K "fits_head" "fits_head" sFits f fd) (T : Txt K w.params mg) (GH : FnOk P w K mg base CX0 1 fH fdH ["word"] spFar) (kH : PySem.W.keepIn K (.ref fH) = true) (bH : Binds K fdH ["word"] []) (mH : mg "has_far" = some (.ref fH)) : FnOk P w K mg base CX0 2 f fd ["head", "a", "low"] (spFits (K := K)) := by
  refine F.ok scFit (fun vs H Q E h => ?_) (fun cdv A outer s H vs Q E hr h => ?_)
  · obtain ⟨q, h, a, low, rfl, _⟩ := h
    rfl
  · obtain ⟨q, h, a, low, rfl, hq, hh, k⟩ := h
    have h20 := heads20 h hh
    obtain ⟨_, hbx⟩ := T.bxs
    obtain ⟨pp, hpp, hpk⟩ := T.prk
    obtain ⟨qk, hqk, hqo, hqS⟩ := hpk _ (ks_in _ h20)
    refine ⟨_, (pss_cons (ps_set (i := 3) scFit.nd rfl (Or.inl rfl) (pe_bm PySem.F.plainAttrs_tuple PySem.F.slot_tuple_count PySem.F.type_tuple_count mt_tcount (pe_kget (pe_glob (v := .ref pp) (by rfl) hpp rfl) (pe_ix ix_tup (pv 0) pe_int (fun _ _ => rfl)) (fun _ _ => rfl)) (pa_cons pe_str pa_nil)))
      (pss_cons (ps_if (pw_and (pt_cmpR op_eq (pv 3) pe_int (nomark _)) (pw_and1 (pt_cmpR op_ne (pv 1) pe_int (nomark _)))).pt (pss_one (ps_ret pe_bl)) pss_nil)
      (pss_cons (ps_if (pt_cmpR op_eq (pv 3) pe_int (nomark _)) (pss_one (ps_ret (pe_cmpR op_lt (pv 2) (pe_glob (v := .int 8) (by rfl) hbx ⟨_, rfl⟩) (nomark _)))) pss_nil)
      (pss_one (ps_ret (pe_or (pe_cmpR op_eq (pv 2) pe_int (nomark _)) (pe_one (pe_and (pe_call GH hr (by rfl) mH kH bH .nil pass0 (pa_cons (pe_ix ix_tup (pv 0) pe_int (fun _ _ => rfl)) pa_nil)) (pe_one (pe_cmpR op_eq (pe_ix ix_tup (pv 0) pe_int (fun _ _ => rfl)) pe_int (nomark _))))))))))), ?_⟩
    refine ⟨_, rfl, q, _, 0, .str h.1, rfl, rfl, hq, at0 _ _, pp, h.1, _, rfl, rfl, hqk, .inr (.inl ⟨rfl, hqo⟩), qk, ksOf h.1, "box", rfl, rfl, hqS _, ?_⟩
    unfold fits at k
    generalize (ksOf h.1).count ("box" : Str) = c at k ⊢
    refine ⟨_, rfl, rfl, _, rfl, ?_⟩
    by_cases h0 : c = 0
    · refine iteP (by rw [h0]; decide) ?_
      refine ⟨_, rfl, rfl, _, rfl, ?_⟩
      by_cases ha : a = 0
      · refine iteN (by rw [ha]; decide) ?_
        rw [if_neg (fun z => z.2 ha)] at k
        refine ⟨_, rfl, rfl, _, rfl, ?_⟩
        by_cases h2 : c = 2
        · refine iteP (by rw [h2]; decide) ?_
          rw [if_pos h2] at k
          exact ⟨_, rfl, _, _, rfl, rfl, k⟩
        · refine iteN (by simp; omega) ?_
          rw [if_neg h2] at k
          refine ⟨_, rfl, rfl, _, rfl, ?_⟩
          by_cases hlo : low = 0
          · refine iteP (by rw [hlo]; decide) ?_
            rw [decide_eq_true hlo, Bool.true_or] at k
            exact k
          · refine iteN (by simp [hlo]) ?_
            rw [decide_eq_false hlo, Bool.false_or] at k
            refine ⟨_, rfl, q, _, 0, .str h.1, rfl, rfl, hq, at0 _ _, h.1, rfl, h20, _, rfl, ?_⟩
            refine ite2 (fun e => ?_) (fun e => ?_)
            · rw [e, Bool.true_and] at k
              refine ⟨_, rfl, q, _, 1, .int h.2, rfl, rfl, hq, at1 _ _ _, rfl, ?_⟩
              rw [show decide (V.int h.2 = V.int 0) = decide (h.2 = 0) from decide_eq_decide.mpr ⟨V.int.inj, fun z => by rw [z]⟩]
              exact k
            · rw [Bool.eq_false_iff.mpr e, Bool.false_and] at k
              exact k
      · refine iteP (by simp [ha]) ?_
        rw [if_pos ⟨h0, ha⟩] at k
        exact k
    · refine iteN (by simp; omega) ?_
      rw [if_neg (fun z => h0 z.1)] at k
      refine ⟨_, rfl, rfl, _, rfl, ?_⟩
      by_cases h2 : c = 2
      · refine iteP (by rw [h2]; decide) ?_
        rw [if_pos h2] at k
        exact ⟨_, rfl, _, _, rfl, rfl, k⟩
      · refine iteN (by simp; omega) ?_
        rw [if_neg h2] at k
        refine ⟨_, rfl, rfl, _, rfl, ?_⟩
        by_cases hlo : low = 0
        · refine iteP (by rw [hlo]; decide) ?_
          rw [decide_eq_true hlo, Bool.true_or] at k
          exact k
        · refine iteN (by simp [hlo]) ?_
          rw [decide_eq_false hlo, Bool.false_or] at k
          refine ⟨_, rfl, q, _, 0, .str h.1, rfl, rfl, hq, at0 _ _, h.1, rfl, h20, _, rfl, ?_⟩
          refine ite2 (fun e => ?_) (fun e => ?_)
          · rw [e, Bool.true_and] at k
            refine ⟨_, rfl, q, _, 1, .int h.2, rfl, rfl, hq, at1 _ _ _, rfl, ?_⟩
            rw [show decide (V.int h.2 = V.int 0) = decide (h.2 = 0) from decide_eq_decide.mpr ⟨V.int.inj, fun z => by rw [z]⟩]
            exact k
          · rw [Bool.eq_false_iff.mpr e, Bool.false_and] at k
            exact k
end
end My


set_option Elab.async false
set_option linter.all false
set_option maxRecDepth 100000
set_option maxHeartbeats 4000000
namespace My
open PySem L2
def tabAt (us : List Int) (at_ : Nat) (a : Int) : Except Nat FR := match us[at_ + 1]? with
  | none => .error (at_ + 1)
  | some n => if 1 ≤ n ∧ n ≤ 16 then (if us.length < at_ + 2 + n.toNat then .error us.length else .ok ⟨"table", [a], (us.drop (at_ + 2)).take n.toNat⟩) else .error (at_ + 1)
def numAt (us : List Int) (at_ : Nat) (kd : Str) : Except Nat Int := match us[at_]? with
  | none => .error at_
  | some n => if inB kd n = true then .ok n else .error at_
def jrow (u : Str) (a d f : Int) : FR := if u ∈ zb then ⟨u, [a, d, f], [d]⟩ else ⟨u, [d, f], [d]⟩
def jmpAt (us : List Int) (at_ : Nat) (h : Str × Int) (a low : Int) : Except Nat FR := if h.2 = 0 then .ok (jrow h.1 a (low - 64) h.2) else match us[at_ + 1]? with
  | none => .error (at_ + 1)
  | some n => .ok (jrow h.1 a n h.2)
def ErrU (cNU : Addr) (e : Nat) (H : Hp) (E : XK) : Prop := ∀ H' d, Same H H' → H' d = some (.xd [("at", .int (e : Int))]) → E (.ref cNU) (some d) H'
def RowRes (cNU : Addr) (r : Except Nat FR) (H : Hp) (Q : VK) (E : XK) : Prop := match r with
  | .ok d => ∀ (p : Addr) (H' : Hp), Same H H' → RowF H' p d → Q (.ref p) H'
  | .error e => ErrU cNU e H E
def NumRes (cNU : Addr) (r : Except Nat Int) (H : Hp) (Q : VK) (E : XK) : Prop := match r with
  | .ok n => ∀ H', Same H H' → Q (.int n) H'
  | .error e => ErrU cNU e H E
section
variable {P : Program} {w : World} {K : PySem.W.Frag} {mg : Str → Option Value} {base : Heap}
variable {cNU R fI : Addr} {fdI : FuncData}
def spTAt (cNU : Addr) : Sp := fun vs H Q E => ∃ (lu : Addr) (us : List Int) (at_ : Nat) (a : Int), vs = [.ref lu, .int (at_ : Int), .int a] ∧ H lu = some (.lst (us.map V.int)) ∧ us.length ≤ 1000000 ∧ at_ ≤ 1000000 ∧ RowRes cNU (tabAt us at_ a) H Q E
theorem scTat : FnScope ["units", "at", "a", "how_many"] ["units", "at", "a"] (defScope sTableAt) := ⟨rfl, rfl, rfl, by decide +kernel, rfl, by decide +kernel, by decide +kernel⟩
def csTatC1 : Scope := { kind := .function, names := [(".0", .local), ("k", .local), ("whole_at", .globalImplicit), ("at", .free), ("units", .free)], isGenerator := false, isCoroutine := false, more := [] }
theorem scTatC1 : CompSc (defScope sTableAt) csTatC1 ["units", "at", "a", "how_many"] ["k", "units", "at"] [none, some 0, some 1] := ⟨rfl, by decide +kernel, by decide +kernel, by decide +kernel, by decide +kernel, by decide +kernel⟩
theorem ok_tat {f fW : Addr} {fd fdW : FuncData} (F : Fun K "table_at" "table_at" sTableAt f fd) (T : Txt K w.params mg) (GW : FnOk P w K mg base (CX2 P w) 3 fW fdW ["units", "at"] (spWAt cNU)) (kW : PySem.W.keepIn K (.ref fW) = true) (bW : Binds K fdW ["units", "at"] []) (mW : mg "whole_at" = some (.ref fW)) (cx : XIni K cNU R fI) (kC : PySem.W.keepIn K (.ref cNU) = true) (GI : FnOk P w K mg base CX0 1 fI fdI ["self", "at"] (spXI cNU)) (bI : Binds K fdI ["self", "at"] []) (mNU : mg "NoUnits" = some (.ref cNU)) : FnOk P w K mg base (CX2 P w) 4 f fd ["units", "at", "a"] (spTAt cNU) := by
  refine F.okX scTat (fun vs H Q E h => ?_) (fun cdv A outer s H vs Q E hr h => ?_)
  · obtain ⟨lu, us, at_, a, rfl, _⟩ := h
    rfl
  · obtain ⟨lu, us, at_, a, rfl, hu, hl, ha, k⟩ := h
    have hrW := hr
    have hrI := hr.mono (show 2 ≤ 3 by decide)
    obtain ⟨_, hmt⟩ := T.mtg
    refine ⟨_, (pss_cons (ps_set (i := 3) scTat.nd rfl (Or.inl rfl) (pe_call GW hrW (by rfl) mW kW bW .nil pass22 (pa_cons (pv 0) (pa_cons (pe_op op_add (pv 1) pe_int) pa_nil))))
      (pss_cons (ps_if (pt_not (pt_chain op_le op_le pe_int (pv 3) (pe_glob (v := .int 16) (by rfl) hmt ⟨_, rfl⟩))) (pss_one (ps_raiseC cx kC GI bI hrI mNU (by rfl) (pa_cons (pe_op op_add (pv 1) pe_int) pa_nil))) pss_nil)
      (pss_one (ps_ret (pe_tup (pa_cons pe_str (pa_cons (pv 2) (pa_cons (pe_callTy call_tuple_of (by rfl) T.tuple bt_tuple (pa_cons (pe_compX (N' := ["k", "units", "at"]) (fr := [none, some 0, some 1]) scTatC1 (pi_range1 rfl T.range (pa_cons (pv 3) pa_nil)) (fun C s0 H0 fp => (pg_name (i := 0) scTatC1.nd rfl (Or.inl rfl))) (fun C s0 H0 fp => pts_nil) (fun C s0 H0 fp => (pe_call GW hrW (by rfl) mW kW bW .nil passX (pa_cons (pv 1) (pa_cons (pe_op op_add (pe_op op_add (pv 2) pe_int) (pv 0)) pa_nil))))) pa_nil)) pa_nil)))))))), ?_⟩
    unfold tabAt at k
    refine ⟨_, rfl, _, rfl, _, _, rfl, rfl, lu, us, at_ + 1, rfl, hu, hl, by omega, (fun n hn => ?_), fun hn e he H' d s' hd => ?_⟩
    · rw [hn] at k
      refine ⟨_, rfl, _, _, rfl, rfl, _, rfl, ?_⟩
      have bad : ¬ (1 ≤ n ∧ n ≤ 16) → ErrU cNU (at_ + 1) H E := fun z => by
        have k : RowRes cNU (if 1 ≤ n ∧ n ≤ 16 then _ else .error (at_ + 1)) H Q E := k
        rw [if_neg z] at k
        exact k
      refine ite2 (fun e1 => ?_) (fun e1 => ?_)
      · refine ⟨_, _, rfl, rfl, _, rfl, ?_⟩
        have e1 := of_decide_eq_true e1
        by_cases e2 : n ≤ 16
        · refine iteN (by simp [e2]) ?_
          have k : RowRes cNU (if 1 ≤ n ∧ n ≤ 16 then (if us.length < at_ + 2 + n.toNat then .error us.length else .ok ⟨"table", [a], (us.drop (at_ + 2)).take n.toNat⟩) else .error (at_ + 1)) H Q E := k
          rw [if_pos ⟨e1, e2⟩] at k
          have hlen : at_ + 2 ≤ us.length := by have := (List.getElem?_eq_some_iff.mp hn).1; omega
          refine ⟨_, rfl, _, rfl, _, rfl, by omega, by omega, fun D nD => comp_range (lo := 0) (n := n.toNat) (fun i σ ys G => ∃ (v : Option V), σ = [v, some (.ref lu), some (.int (at_ : Int))] ∧ ys = ((us.drop (at_ + 2)).take i).map V.int ∧ at_ + 2 + i ≤ us.length ∧ Same H G ∧ G D = some (.lst ys)) ?_ ?_ ?_⟩
          · exact ⟨none, rfl, rfl, by omega, same_new nD, upd_same⟩
          · rintro i σ ys G hi ⟨v, rfl, rfl, hle, s1, hD⟩
            have e0 : (0 : Int) + (i : Int) = (i : Int) := by omega
            rw [e0]
            refine ⟨_, rfl, _, rfl, _, _, rfl, rfl, _, rfl, _, _, rfl, rfl, lu, us, at_ + 2 + i, rfl, s1 _ _ hu, hl, by omega, (fun u huu => ?_), fun hn2 e he H' d s' hd => ?_⟩
            · have hlt := (List.getElem?_eq_some_iff.mp huu).1
              refine ⟨hD, small_lt (by rw [List.length_map, List.length_take]; omega), _, rfl, ?_, by omega, same_put s1 nD, upd_same⟩
              rw [List.take_add_one, List.getElem?_drop, huu, List.map_append]
              rfl
            · have hge := List.getElem?_eq_none_iff.mp hn2
              rw [if_pos (by omega)] at k
              have k : ErrU cNU us.length H E := k
              refine k H' d (s1.trans s') ?_
              rw [hd, he]
              congr 5
              omega
          · rintro σ ys G ⟨v, rfl, rfl, hle, s1, hD⟩
            rw [if_neg (by omega)] at k
            have k : ∀ (p : Addr) (H' : Hp), Same H H' → RowF H' p ⟨"table", [a], (us.drop (at_ + 2)).take n.toNat⟩ → Q (.ref p) H' := k
            refine ⟨D, _, rfl, .inl ⟨SqL.of hD, fun t nt => ⟨(by show 3 ≤ sizeLine; decide), fun p np => ?_⟩⟩⟩
            exact k p _ ((s1.trans (same_new nt)).trans (same_new np)) (row_table upd_same (same_new np _ _ upd_same))
        · refine iteP (by simp [e2]) ?_
          exact ⟨_, rfl, _, _, rfl, rfl, _, rfl, by omega, fun d nd => bad (fun z => e2 z.2) _ d (same_new nd) upd_same⟩
      · refine ⟨_, rfl, iteP (by decide) ?_⟩
        exact ⟨_, rfl, _, _, rfl, rfl, _, rfl, by omega, fun d nd => bad (fun z => e1 (decide_eq_true z.1)) _ d (same_new nd) upd_same⟩
    · rw [hn] at k
      have k : ErrU cNU (at_ + 1) H E := k
      rw [he] at hd
      exact k H' d s' hd
/-! ### number_at -/
def spNAt (cNU : Addr) : Sp := fun vs H Q E => ∃ (lu : Addr) (us : List Int) (at_ : Nat) (kd : Str), vs = [.ref lu, .int (at_ : Int), .str kd] ∧ H lu = some (.lst (us.map V.int)) ∧ us.length ≤ 1000000 ∧ at_ ≤ 2000000 ∧ kd ∈ bounds.map (·.1) ∧ NumRes cNU (numAt us at_ kd) H Q E
theorem scNat : FnScope ["units", "at", "kind", "number"] ["units", "at", "kind"] (defScope sNumAt) := ⟨rfl, rfl, rfl, by decide +kernel, rfl, by decide +kernel, by decide +kernel⟩
theorem ok_nat {f fW fN : Addr} {fd fdW fdN : FuncData} (F : Fun K "number_at" "number_at" sNumAt f fd) (T : Txt K w.params mg) (GW : FnOk P w K mg base (CX2 P w) 3 fW fdW ["units", "at"] (spWAt cNU)) (kW : PySem.W.keepIn K (.ref fW) = true) (bW : Binds K fdW ["units", "at"] []) (mW : mg "whole_at" = some (.ref fW)) (GN : FnOk P w K mg base CX0 2 fN fdN ["kind", "thing"] spNumOf) (kN : PySem.W.keepIn K (.ref fN) = true) (bN : Binds K fdN ["kind", "thing"] []) (mN : mg "is_number_of" = some (.ref fN)) (cx : XIni K cNU R fI) (kC : PySem.W.keepIn K (.ref cNU) = true) (GI : FnOk P w K mg base CX0 1 fI fdI ["self", "at"] (spXI cNU)) (bI : Binds K fdI ["self", "at"] []) (mNU : mg "NoUnits" = some (.ref cNU)) : FnOk P w K mg base (CX2 P w) 4 f fd ["units", "at", "kind"] (spNAt cNU) := by
  refine F.okX scNat (fun vs H Q E h => ?_) (fun cdv A outer s H vs Q E hr h => ?_)
  · obtain ⟨lu, us, at_, kd, rfl, _⟩ := h
    rfl
  · obtain ⟨lu, us, at_, kd, rfl, hu, hl, ha, hk, k⟩ := h
    have hrW := hr
    have hrN := hr.mono (show 2 ≤ 3 by decide)
    have hrI := hr.mono (show 2 ≤ 3 by decide)
    refine ⟨_, (pss_cons (ps_set (i := 3) scNat.nd rfl (Or.inl rfl) (pe_call GW hrW (by rfl) mW kW bW .nil pass22 (pa_cons (pv 0) (pa_cons (pv 1) pa_nil))))
      (pss_cons (ps_if (pt_not (pt_val (pe_call GN hrN (by rfl) mN kN bN .nil pass0 (pa_cons (pv 2) (pa_cons (pv 3) pa_nil))))) (pss_one (ps_raiseC cx kC GI bI hrI mNU (by rfl) (pa_cons (pv 1) pa_nil))) pss_nil)
      (pss_one (ps_ret (pv 3))))), ?_⟩
    unfold numAt at k
    refine ⟨_, rfl, _, rfl, lu, us, at_, rfl, hu, hl, ha, (fun n hn => ?_), fun hn e he H' d s' hd => ?_⟩
    · rw [hn] at k
      refine ⟨_, rfl, _, rfl, kd, n, rfl, hk, _, rfl, ?_⟩
      cases hb : inB kd n with
      | true =>
        have k : NumRes cNU (if inB kd n = true then .ok n else .error at_) H Q E := k
        rw [if_pos hb] at k
        exact iteN (by decide) ⟨_, rfl, k _ (.refl _)⟩
      | false =>
        have k : NumRes cNU (if inB kd n = true then .ok n else .error at_) H Q E := k
        rw [if_neg (by rw [hb]; decide)] at k
        exact iteP rfl ⟨_, rfl, _, rfl, by omega, fun d nd => k _ d (same_new nd) upd_same⟩
    · rw [hn] at k
      rw [he] at hd
      exact k H' d s' hd
/-! ### part_at -/
def parAt (us : List Int) (at_ : Nat) (kd : Str) (a : Int) : Except Nat Int := if kd = "box" then .ok a else numAt us (at_ + 1) kd
def spPAt (cNU : Addr) : Sp := fun vs H Q E => ∃ (lu : Addr) (us : List Int) (at_ : Nat) (kd : Str) (a : Int), vs = [.ref lu, .int (at_ : Int), .str kd, .int a] ∧ H lu = some (.lst (us.map V.int)) ∧ us.length ≤ 1000000 ∧ at_ ≤ 1000000 ∧ kd ∈ bounds.map (·.1) ∧ NumRes cNU (parAt us at_ kd a) H Q E
theorem scPat : FnScope ["units", "at", "kind", "a"] ["units", "at", "kind", "a"] (defScope sPartAt) := ⟨rfl, rfl, rfl, by decide +kernel, rfl, by decide +kernel, by decide +kernel⟩
theorem ok_pat {f fN : Addr} {fd fdN : FuncData} (F : Fun K "part_at" "part_at" sPartAt f fd) (T : Txt K w.params mg) (GN : FnOk P w K mg base (CX2 P w) 4 fN fdN ["units", "at", "kind"] (spNAt cNU)) (kN : PySem.W.keepIn K (.ref fN) = true) (bN : Binds K fdN ["units", "at", "kind"] []) (mN : mg "number_at" = some (.ref fN)) : FnOk P w K mg base (CX2 P w) 5 f fd ["units", "at", "kind", "a"] (spPAt cNU) := by
  refine F.okX scPat (fun vs H Q E h => ?_) (fun cdv A outer s H vs Q E hr h => ?_)
  · obtain ⟨lu, us, at_, kd, a, rfl, _⟩ := h
    rfl
  · obtain ⟨lu, us, at_, kd, a, rfl, hu, hl, ha, hk, k⟩ := h
    refine ⟨_, (pss_cons (ps_if (pt_cmpR op_eq (pv 2) pe_str (nomark _)) (pss_one (ps_ret (pv 3))) pss_nil)
      (pss_one (ps_ret (pe_call GN hr (by rfl) mN kN bN .nil pass22 (pa_cons (pv 0) (pa_cons (pe_op op_add (pv 1) pe_int) (pa_cons (pv 2) pa_nil))))))), ?_⟩
    unfold parAt at k
    refine ⟨_, rfl, rfl, _, rfl, ?_⟩
    refine ite2 (fun e => ?_) (fun e => ?_)
    · rw [if_pos (strEq e)] at k
      exact ⟨_, rfl, k _ (.refl _)⟩
    · rw [if_neg (strNe e)] at k
      exact ⟨_, rfl, _, rfl, _, _, rfl, rfl, _, rfl, lu, us, at_ + 1, kd, rfl, hu, hl, by omega, hk, k⟩
/-! ### jump_at -/
theorem jrow_row {H : Hp} {q : Addr} {u : Str} {a d f : Int} (hu : u ∈ five) (h : H q = some (.tup (if u ∈ zb then [.str u, .int a, .int d, .int f] else [.str u, .int d, .int f]))) : RowF H q (jrow u a d f) := by
  unfold jrow
  by_cases z : u ∈ zb
  · rw [if_pos z] at h ⊢
    exact row_zb z h
  · rw [if_neg z] at h ⊢
    exact row_jcm ((by decide +kernel : ∀ u ∈ five, ¬ u ∈ zb → u ∈ jcm) u hu z) h
def spJAt (cNU : Addr) : Sp := fun vs H Q E => ∃ (lu qh : Addr) (us : List Int) (at_ : Nat) (h : Str × Int) (a low : Int), vs = [.ref lu, .int (at_ : Int), .ref qh, .int a, .int low] ∧ H lu = some (.lst (us.map V.int)) ∧ us.length ≤ 1000000 ∧ at_ ≤ 1000000 ∧ (∀ H, SqT K H qh [.str h.1, .int h.2]) ∧ h.1 ∈ five ∧ RowRes cNU (jmpAt us at_ h a low) H Q E
theorem scJat : FnScope ["units", "at", "head", "a", "low", "distance", "boxes"] ["units", "at", "head", "a", "low"] (defScope sJumpAt) := ⟨rfl, rfl, rfl, by decide +kernel, rfl, by decide +kernel, by decide +kernel⟩
theorem ok_jat {f fW : Addr} {fd fdW : FuncData} (F : Fun K "jump_at" "jump_at" sJumpAt f fd) (T : Txt K w.params mg) (GW : FnOk P w K mg base (CX2 P w) 3 fW fdW ["units", "at"] (spWAt cNU)) (kW : PySem.W.keepIn K (.ref fW) = true) (bW : Binds K fdW ["units", "at"] []) (mW : mg "whole_at" = some (.ref fW)) : FnOk P w K mg base (CX2 P w) 4 f fd ["units", "at", "head", "a", "low"] (spJAt (K := K) cNU) := by
  refine F.okX scJat (fun vs H Q E h => ?_) (fun cdv A outer s H vs Q E hr h => ?_)
  · obtain ⟨lu, qh, us, at_, h, a, low, rfl, _⟩ := h
    rfl
  · obtain ⟨lu, qh, us, at_, h, a, low, rfl, hu, hl, ha, hq, h5, k⟩ := h
    obtain ⟨_, hsa⟩ := T.sad
    obtain ⟨pp, hpp, hpk⟩ := T.prt
    have h20 : h.1 ∈ all20 := (by decide +kernel : ∀ u ∈ five, u ∈ all20) _ h5
    obtain ⟨qk, hqk, hqS⟩ := hpk _ (ks_in _ h20)
    refine ⟨_, (pss_cons (ps_set (i := 5) scJat.nd rfl (Or.inl rfl) (pe_mid (pe_ifExp (pt_cmpR op_eq (pe_ix ix_tup (pv 2) pe_int (fun _ _ => rfl)) pe_int (nomark _)) (pe_op op_sub (pv 4) (pe_glob (v := .int 64) (by rfl) hsa ⟨_, rfl⟩)) (pe_call GW hr (by rfl) mW kW bW .nil pass22 (pa_cons (pv 0) (pa_cons (pe_op op_add (pv 1) pe_int) pa_nil))))))
      (pss_cons (ps_set (i := 6) scJat.nd rfl (Or.inl rfl) (pe_ifExp (pt_cmpR op_in_seq pe_str (pe_kget (pe_glob (v := .ref pp) (by rfl) hpp rfl) (pe_ix ix_tup (pv 2) pe_int (fun _ _ => rfl)) (fun _ _ => rfl)) rfl) (pe_tup (pa_cons (pv 3) pa_nil)) (pe_tup pa_nil)))
      (pss_one (ps_ret (pe_op op_catT (pe_op op_catT (pe_tup (pa_cons (pe_ix ix_tup (pv 2) pe_int (fun _ _ => rfl)) pa_nil)) (pv 6)) (pe_tup (pa_cons (pv 5) (pa_cons (pe_ix ix_tup (pv 2) pe_int (fun _ _ => rfl)) pa_nil)))))))), ?_⟩
    unfold jmpAt at k
    have fin : ∀ (dd : Int), (∀ (p : Addr) (H' : Hp), Same H H' → RowF H' p (jrow h.1 a dd h.2) → Q (.ref p) H') → True := fun _ _ => trivial
    refine ⟨fun v G => ∃ dd, v = .int dd ∧ G = H ∧ ∀ (p : Addr) (H' : Hp), Same H H' → RowF H' p (jrow h.1 a dd h.2) → Q (.ref p) H', ?_, ?_⟩
    · refine ⟨_, rfl, qh, _, 0 + 1, .int h.2, rfl, rfl, hq _, at1 _ _ _, rfl, _, rfl, ?_⟩
      by_cases h0 : h.2 = 0
      · rw [if_pos h0] at k
        refine iteP (by rw [h0]; decide) ?_
        exact ⟨_, rfl, _, _, rfl, rfl, low - 64, rfl, rfl, k⟩
      · rw [if_neg h0] at k
        refine iteN (by simp [h0]) ?_
        refine ⟨_, rfl, _, rfl, _, _, rfl, rfl, lu, us, at_ + 1, rfl, hu, hl, by omega, (fun n hn => ?_), fun hn e he H' d s' hd => ?_⟩
        · rw [hn] at k
          exact ⟨n, rfl, rfl, k⟩
        · rw [hn] at k
          rw [he] at hd
          exact k H' d s' hd
    rintro v G ⟨dd, rfl, hG, kk⟩
    subst hG
    refine ⟨_, rfl, qh, _, 0, .str h.1, rfl, rfl, hq _, at0 _ _, pp, h.1, _, rfl, rfl, hqk, qk, (ksOf h.1).map V.str, rfl, .inr (hqS _), rfl, (by rw [List.all_map]; exact List.all_eq_true.mpr fun _ _ => rfl), _, rfl, ?_⟩
    rw [show inV (.str "box") ((ksOf h.1).map V.str) = decide (("box" : Str) ∈ ksOf h.1) from inV_str _ _, show decide (("box" : Str) ∈ ksOf h.1) = decide (h.1 ∈ zb) from (by decide +kernel : ∀ u ∈ five, decide (("box" : Str) ∈ ksOf u) = decide (u ∈ zb)) _ h5]
    by_cases z : h.1 ∈ zb
    · refine iteP (decide_eq_true z) ?_
      refine ⟨_, rfl, (by show 1 ≤ sizeLine; decide), fun t1 nt1 => ?_⟩
      refine ⟨_, rfl, qh, _, 0, .str h.1, rfl, rfl, hq _, at0 _ _, (by show 1 ≤ sizeLine; decide), fun t2 nt2 => ⟨_, rfl, t2, t1, [V.str h.1], [V.int a], rfl, rfl, SqT.of upd_same, SqT.of (same_new nt2 _ _ upd_same), List.cons_ne_nil _ _, (by show 2 ≤ sizeLine; decide), fun y => absurd y (List.cons_ne_nil _ _), fun _ t3 nt3 => ?_⟩⟩
      refine ⟨_, rfl, _, rfl, qh, _, 1, .int h.2, rfl, rfl, hq _, at1 _ _ _, (by show 2 ≤ sizeLine; decide), fun t4 nt4 => ⟨t3, t4, [V.str h.1, V.int a], [V.int dd, V.int h.2], rfl, rfl, SqT.of (same_new nt4 _ _ upd_same), SqT.of upd_same, List.cons_ne_nil _ _, (by show 4 ≤ sizeLine; decide), fun y => absurd y (List.cons_ne_nil _ _), fun _ t5 nt5 => ?_⟩⟩
      refine kk t5 _ ((((same_new nt1).trans (same_new nt2)).trans (same_new nt3)).trans ((same_new nt4).trans (same_new nt5))) (jrow_row h5 ?_)
      rw [if_pos z]
      exact upd_same
    · refine iteN (fun y => z (of_decide_eq_true y)) ?_
      refine ⟨Nat.le_of_ble_eq_true rfl, fun t1 nt1 => ?_⟩
      refine ⟨_, rfl, qh, _, 0, .str h.1, rfl, rfl, hq _, at0 _ _, (by show 1 ≤ sizeLine; decide), fun t2 nt2 => ⟨_, rfl, t2, t1, [V.str h.1], [], rfl, rfl, SqT.of upd_same, SqT.of (same_new nt2 _ _ upd_same), List.cons_ne_nil _ _, (by show 1 ≤ sizeLine; decide), (fun _ => ?_), fun y => absurd rfl y⟩⟩
      refine ⟨_, rfl, _, rfl, qh, _, 1, .int h.2, rfl, rfl, hq _, at1 _ _ _, (by show 2 ≤ sizeLine; decide), fun t4 nt4 => ⟨t2, t4, [V.str h.1], [V.int dd, V.int h.2], rfl, rfl, SqT.of (same_new nt4 _ _ upd_same), SqT.of upd_same, List.cons_ne_nil _ _, (by show 3 ≤ sizeLine; decide), fun y => absurd y (List.cons_ne_nil _ _), fun _ t5 nt5 => ?_⟩⟩
      refine kk t5 _ (((same_new nt1).trans (same_new nt2)).trans ((same_new nt4).trans (same_new nt5))) (jrow_row h5 ?_)
      rw [if_neg z]
      exact upd_same
end
end My


set_option Elab.async false
set_option linter.all false
set_option maxRecDepth 100000
set_option maxHeartbeats 4000000
namespace My
open PySem L2
def parsAt (us : List Int) (at_ : Nat) (a : Int) : List Str → Except Nat (List Int)
  | [] => .ok []
  | kd :: ks => match parAt us at_ kd a with
    | .error e => .error e
    | .ok n => match parsAt us at_ a ks with
      | .error e => .error e
      | .ok l => .ok (n :: l)
def appE (ns : List Int) : Except Nat (List Int) → Except Nat (List Int)
  | .ok l => .ok (ns ++ l)
  | .error e => .error e
def headRow (us : List Int) (at_ : Nat) (h : Str × Int) (a low : Int) : Except Nat FR :=
  if fits h a low = true then (if h.1 = "table" then tabAt us at_ a else if h.1 ∈ five then jmpAt us at_ h a low else if h.1 ∈ w2 then .ok ⟨h.1, [a, low], []⟩ else match parsAt us at_ a (ksOf h.1) with
    | .ok l => .ok ⟨h.1, l, []⟩
    | .error e => .error e) else .error at_
def rowAt (us : List Int) (at_ : Nat) : Except Nat FR := match us[at_]? with
  | none => .error at_
  | some u => if 0 ≤ u ∧ u < 25600 then (match heads[(u / 1024).toNat]? with
    | none => .error at_
    | some h => headRow us at_ h (u % 1024 / 128) (u % 128)) else .error at_
theorem app_cons {us : List Int} {at_ : Nat} {a n : Int} {ns : List Int} {kd : Str} {ks : List Str} (h : parAt us at_ kd a = .ok n) : appE ns (parsAt us at_ a (kd :: ks)) = appE (ns ++ [n]) (parsAt us at_ a ks) := by
  show appE ns (match parAt us at_ kd a with | .error e => .error e | .ok n => _) = _
  rw [h]
  show appE ns (match parsAt us at_ a ks with | .error e => .error e | .ok l => .ok (n :: l)) = _
  cases parsAt us at_ a ks with
  | error e => rfl
  | ok l => show Except.ok _ = Except.ok _; simp
theorem app_err {us : List Int} {at_ : Nat} {a : Int} {ns : List Int} {kd : Str} {ks : List Str} {e : Nat} (h : parAt us at_ kd a = .error e) : appE ns (parsAt us at_ a (kd :: ks)) = .error e := by
  show appE ns (match parAt us at_ kd a with | .error e => .error e | .ok n => _) = _
  rw [h]
  rfl
theorem two_of' {l : List Int} (h : l.length = 2) : ∃ b c, l = [b, c] := by
  match l, h with
  | [b, c], _ => exact ⟨b, c, rfl⟩
theorem row_plain {H : Hp} {q : Addr} {u : Str} {is : List Int} (hu : plainW u) (hl : is.length = arI u) (h : H q = some (.tup (.str u :: is.map V.int))) : RowF H q ⟨u, is, []⟩ := by
  refine ⟨⟨hu.1, fun z => absurd z hu.2.1, fun z => absurd z hu.2.2.1, fun z => absurd z hu.2.2.2, fun _ _ _ => ⟨rfl, hl⟩, fun z => ?_, fun z => ?_⟩, .inr ⟨hu.2.1, h⟩⟩
  · exact two_of' (hl.trans ((by decide +kernel : ∀ u ∈ w2, arI u = 2) u z))
  · have : 1 ≤ is.length := by rw [hl]; exact (by decide +kernel : ∀ u ∈ w1, 1 ≤ arI u) u z
    match is, this with
    | b :: r, _ => exact ⟨b, r, rfl⟩
theorem strs_da (K : PySem.W.Frag) {H : Hp} {p : Addr} {ss : List Str} (h : SqT K H p (ss.map V.str)) : DaAt K H (.ref p) (.tup (ss.map Da.str)) := by
  refine .tup h (by rw [List.length_map, List.length_map]) fun i x d g1 g2 => ?_
  rw [List.getElem?_map] at g1 g2
  obtain ⟨j, hj, rfl⟩ := Option.map_eq_some_iff.mp g1
  rw [hj] at g2
  cases g2
  exact .str _
theorem strs_nb (ss : List Str) : (Da.tup (ss.map Da.str)).Nb 1 := .tup fun d hd => by
  obtain ⟨j, _, rfl⟩ := List.mem_map.mp hd
  exact .str
theorem strs_inj {a b : List Str} (h : Da.tup (a.map Da.str) = Da.tup (b.map Da.str)) : a = b := by
  injection h with h
  exact (List.map_inj_right (fun x y z => by injection z)).mp h
theorem kinds_w2 : ∀ h ∈ heads, ¬ h.1 = "table" → ¬ h.1 ∈ five → (ksOf h.1 = (["box", "box"] : List Str) ↔ h.1 ∈ w2) ∧ plainW h.1 ∧ (¬ h.1 ∈ w2 → ∀ k ∈ ksOf h.1, k ∈ bounds.map (·.1)) ∧ (ksOf h.1).length ≤ 3 := by decide +kernel
section
variable {P : Program} {w : World} {K : PySem.W.Frag} {mg : Str → Option Value} {base : Heap}
variable {cNU R fI : Addr} {fdI : FuncData}
def spRAt (cNU : Addr) : Sp := fun vs H Q E => ∃ (lu : Addr) (us : List Int) (at_ : Nat), vs = [.ref lu, .int (at_ : Int)] ∧ H lu = some (.lst (us.map V.int)) ∧ us.length ≤ 1000000 ∧ at_ ≤ 1000000 ∧ RowRes cNU (rowAt us at_) H Q E
theorem scRat : FnScope ["units", "at", "unit", "head", "a", "low", "kinds"] ["units", "at"] (defScope sRowAt) := ⟨rfl, rfl, rfl, by decide +kernel, rfl, by decide +kernel, by decide +kernel⟩
def csRatC1 : Scope := { kind := .function, names := [(".0", .local), ("kind", .local), ("part_at", .globalImplicit), ("a", .free), ("at", .free), ("units", .free)], isGenerator := false, isCoroutine := false, more := [] }
theorem scRatC1 : CompSc (defScope sRowAt) csRatC1 ["units", "at", "unit", "head", "a", "low", "kinds"] ["kind", "units", "at", "a"] [none, some 0, some 1, some 4] := ⟨rfl, by decide +kernel, by decide +kernel, by decide +kernel, by decide +kernel, by decide +kernel⟩
theorem ok_rat {f fW fF fT fH fJ fP : Addr} {fd fdW fdF fdT fdH fdJ fdP : FuncData} (F : Fun K "row_at" "row_at" sRowAt f fd) (T : Txt K w.params mg) (GW : FnOk P w K mg base (CX2 P w) 3 fW fdW ["units", "at"] (spWAt cNU)) (kW : PySem.W.keepIn K (.ref fW) = true) (bW : Binds K fdW ["units", "at"] []) (mW : mg "whole_at" = some (.ref fW)) (GF : FnOk P w K mg base CX0 2 fF fdF ["head", "a", "low"] (spFits (K := K))) (kF : PySem.W.keepIn K (.ref fF) = true) (bF : Binds K fdF ["head", "a", "low"] []) (mF : mg "fits_head" = some (.ref fF)) (GT : FnOk P w K mg base (CX2 P w) 4 fT fdT ["units", "at", "a"] (spTAt cNU)) (kT : PySem.W.keepIn K (.ref fT) = true) (bT : Binds K fdT ["units", "at", "a"] []) (mT : mg "table_at" = some (.ref fT)) (GH : FnOk P w K mg base CX0 1 fH fdH ["word"] spFar) (kH : PySem.W.keepIn K (.ref fH) = true) (bH : Binds K fdH ["word"] []) (mH : mg "has_far" = some (.ref fH)) (GJ : FnOk P w K mg base (CX2 P w) 4 fJ fdJ ["units", "at", "head", "a", "low"] (spJAt (K := K) cNU)) (kJ : PySem.W.keepIn K (.ref fJ) = true) (bJ : Binds K fdJ ["units", "at", "head", "a", "low"] []) (mJ : mg "jump_at" = some (.ref fJ)) (GP : FnOk P w K mg base (CX2 P w) 5 fP fdP ["units", "at", "kind", "a"] (spPAt cNU)) (kP : PySem.W.keepIn K (.ref fP) = true) (bP : Binds K fdP ["units", "at", "kind", "a"] []) (mP : mg "part_at" = some (.ref fP)) (cx : XIni K cNU R fI) (kC : PySem.W.keepIn K (.ref cNU) = true) (GI : FnOk P w K mg base CX0 1 fI fdI ["self", "at"] (spXI cNU)) (bI : Binds K fdI ["self", "at"] []) (mNU : mg "NoUnits" = some (.ref cNU)) : FnOk P w K mg base (CX2 P w) 6 f fd ["units", "at"] (spRAt cNU) := by
  refine F.okX scRat (fun vs H Q E h => ?_) (fun cdv A outer s H vs Q E hr h => ?_)
  · obtain ⟨lu, us, at_, rfl, _⟩ := h
    rfl
  · obtain ⟨lu, us, at_, rfl, hu, hl, ha, k⟩ := h
    have hrP : Room 5 (A.deeper (PyProof.Rows.envOfC "row_at" (defScope sRowAt) s.heap.objs.size f cdv)) := hr
    have hrW : Room 3 (A.deeper (PyProof.Rows.envOfC "row_at" (defScope sRowAt) s.heap.objs.size f cdv)) := hr.mono (by decide)
    have hrT : Room 4 (A.deeper (PyProof.Rows.envOfC "row_at" (defScope sRowAt) s.heap.objs.size f cdv)) := hr.mono (by decide)
    have hrF : Room 2 (A.deeper (PyProof.Rows.envOfC "row_at" (defScope sRowAt) s.heap.objs.size f cdv)) := hr.mono (by decide)
    have hrI : Room 2 (A.deeper (PyProof.Rows.envOfC "row_at" (defScope sRowAt) s.heap.objs.size f cdv)) := hr.mono (by decide)
    have hrH : Room 1 (A.deeper (PyProof.Rows.envOfC "row_at" (defScope sRowAt) s.heap.objs.size f cdv)) := hr.mono (by decide)
    have hu0 : (A.deeper (PyProof.Rows.envOfC "row_at" (defScope sRowAt) s.heap.objs.size f cdv)).units + 6 < cLine := Nat.lt_of_le_of_lt (Nat.add_le_add_left (by decide : 6 ≤ 64) _) hr.units
    obtain ⟨_, hcs⟩ := T.cst
    obtain ⟨_, hbs⟩ := T.bst
    obtain ⟨ph, qs, hph, hqs, hql, hqa⟩ := T.hdq
    obtain ⟨pp, hpp, hpk⟩ := T.prt
    refine ⟨_, (pss_cons (ps_set (i := 2) scRat.nd rfl (Or.inl rfl) (pe_call GW hrW (by rfl) mW kW bW .nil pass22 (pa_cons (pv 0) (pa_cons (pv 1) pa_nil))))
      (pss_cons (ps_if (pt_not (pt_chain op_le op_lt pe_int (pv 2) (pe_op op_mul (pe_callB call_len_seq (by rfl) T.len bt_len (pa_cons (pe_glob (v := .ref ph) (by rfl) hph rfl) pa_nil)) (pe_glob (v := .int 1024) (by rfl) hcs ⟨_, rfl⟩)))) (pss_one (ps_raiseC cx kC GI bI hrI mNU (by rfl) (pa_cons (pv 1) pa_nil))) pss_nil)
      (pss_cons (ps_set (i := 3) scRat.nd rfl (Or.inl rfl) (pe_ix ix_tup (pe_glob (v := .ref ph) (by rfl) hph rfl) (pe_op op_fdivB (pv 2) (pe_glob (v := .int 1024) (by rfl) hcs ⟨_, rfl⟩)) (fun _ _ => rfl)))
      (pss_cons (ps_set (i := 4) scRat.nd rfl (Or.inr rfl) (pe_op op_fdivB (pe_op op_mod (pv 2) (pe_glob (v := .int 1024) (by rfl) hcs ⟨_, rfl⟩)) (pe_glob (v := .int 128) (by rfl) hbs ⟨_, rfl⟩)))
      (pss_cons (ps_set (i := 5) scRat.nd rfl (Or.inl rfl) (pe_op op_mod (pv 2) (pe_glob (v := .int 128) (by rfl) hbs ⟨_, rfl⟩)))
      (pss_cons (ps_if (pt_not (pt_val (pe_call GF hrF (by rfl) mF kF bF .nil pass0 (pa_cons (pv 3) (pa_cons (pv 4) (pa_cons (pv 5) pa_nil)))))) (pss_one (ps_raiseC cx kC GI bI hrI mNU (by rfl) (pa_cons (pv 1) pa_nil))) pss_nil)
      (pss_cons (ps_if (pt_cmpR op_eq (pe_ix ix_tup (pv 3) pe_int (fun _ _ => rfl)) pe_str (nomark _)) (pss_one (ps_ret (pe_call GT hrT (by rfl) mT kT bT .nil pass22 (pa_cons (pv 0) (pa_cons (pv 1) (pa_cons (pv 4) pa_nil)))))) pss_nil)
      (pss_cons (ps_if (pt_val (pe_call GH hrH (by rfl) mH kH bH .nil pass0 (pa_cons (pe_ix ix_tup (pv 3) pe_int (fun _ _ => rfl)) pa_nil))) (pss_one (ps_ret (pe_call GJ hrT (by rfl) mJ kJ bJ .nil pass22 (pa_cons (pv 0) (pa_cons (pv 1) (pa_cons (pv 3) (pa_cons (pv 4) (pa_cons (pv 5) pa_nil)))))))) pss_nil)
      (pss_cons (ps_set (i := 6) scRat.nd rfl (Or.inl rfl) (pe_kget (pe_glob (v := .ref pp) (by rfl) hpp rfl) (pe_ix ix_tup (pv 3) pe_int (fun _ _ => rfl)) (fun _ _ => rfl)))
      (pss_cons (ps_if (pt_cmpR (op_eqA hu0) (pv 6) (pe_tup (pa_cons pe_str (pa_cons pe_str pa_nil))) (nomark _)) (pss_one (ps_ret (pe_tup (pa_cons (pe_ix ix_tup (pv 3) pe_int (fun _ _ => rfl)) (pa_cons (pv 4) (pa_cons (pv 5) pa_nil)))))) pss_nil)
      (pss_one (ps_ret (pe_op op_catT (pe_tup (pa_cons (pe_ix ix_tup (pv 3) pe_int (fun _ _ => rfl)) pa_nil)) (pe_callTy call_tuple_of (by rfl) T.tuple bt_tuple (pa_cons (pe_compX (N' := ["kind", "units", "at", "a"]) (fr := [none, some 0, some 1, some 4]) scRatC1 (pi_tup (pv 6)) (fun C s0 H0 fp => (pg_name (i := 0) scRatC1.nd rfl (Or.inl rfl))) (fun C s0 H0 fp => pts_nil) (fun C s0 H0 fp => (pe_call GP hrP (by rfl) mP kP bP .nil passX (pa_cons (pv 1) (pa_cons (pv 2) (pa_cons (pv 0) (pa_cons (pv 3) pa_nil))))))) pa_nil))))))))))))))), ?_⟩
    unfold rowAt at k
    refine ⟨_, rfl, _, rfl, lu, us, at_, rfl, hu, hl, by omega, (fun u hn => ?_), fun hn e he H' d s' hd => ?_⟩
    · rw [hn] at k
      have k : RowRes cNU (if 0 ≤ u ∧ u < 25600 then (match heads[(u / 1024).toNat]? with | none => .error at_ | some h => headRow us at_ h (u % 1024 / 128) (u % 128)) else .error at_) H Q E := k
      have bad : ¬ (0 ≤ u ∧ u < 25600) → ErrU cNU at_ H E := fun z => by
        rw [if_neg z] at k
        exact k
      refine ⟨_, rfl, _, _, rfl, rfl, _, rfl, ?_⟩
      refine ite2 (fun e1 => ?_) (fun e1 => ?_)
      · have e1 := of_decide_eq_true e1
        refine ⟨ph, _, rfl, .inr (hqs _), _, _, rfl, rfl, .inr ⟨by decide, by decide⟩, _, _, rfl, rfl, _, rfl, ?_⟩
        rw [List.length_map, hql]
        by_cases e2 : u < 25600
        · refine iteN (by have : decide (u < ((heads.length : Nat) : Int) * 1024) = true := decide_eq_true (by show u < 25 * 1024; omega); rw [this]; decide) ?_
          rw [if_pos ⟨e1, e2⟩] at k
          have hj : (u / 1024).toNat < heads.length := by show _ < 25; omega
          have hh : heads[(u / 1024).toNat]? = some heads[(u / 1024).toNat] := List.getElem?_eq_getElem hj
          have hmem := List.getElem_mem hj
          generalize heads[(u / 1024).toNat] = h at hh hmem
          rw [hh] at k
          have k : RowRes cNU (headRow us at_ h (u % 1024 / 128) (u % 128)) H Q E := k
          have hqq : qs[(u / 1024).toNat]? = some (qs[(u / 1024).toNat]'(by rw [hql]; exact hj)) := List.getElem?_eq_getElem _
          generalize qs[(u / 1024).toNat]'(by rw [hql]; exact hj) = qh at hqq
          have hq := hqa _ qh h hqq hh
          have hat : atI (qs.map V.ref) (u / 1024) = some (.ref qh) := by
            rw [show u / 1024 = (((u / 1024).toNat : Nat) : Int) by omega]
            exact atI_nat (by rw [List.getElem?_map, hqq]; rfl)
          have h20 := heads20 h hmem
          refine ⟨_, rfl, _, _, rfl, rfl, ⟨by show (0 : Int) < 1024; decide, by show (1024 : Int) < _; decide⟩, ph, _, _, .ref qh, rfl, rfl, hqs _, hat, ?_⟩
          refine ⟨_, rfl, _, _, rfl, rfl, (by show (0 : Int) < 1024; decide), _, _, rfl, rfl, ⟨by show (0 : Int) < 128; decide, by show (128 : Int) < _; decide⟩, ?_⟩
          refine ⟨_, rfl, _, _, rfl, rfl, (by show (0 : Int) < 128; decide), ?_⟩
          refine ⟨_, rfl, _, rfl, _, rfl, qh, h, _, _, rfl, hq _, hmem, _, rfl, ?_⟩
          unfold headRow at k
          cases hf : fits h (u % 1024 / 128) (u % 128) with
          | false =>
            rw [if_neg (by rw [hf]; decide)] at k
            exact iteP rfl ⟨_, rfl, _, rfl, by omega, fun d nd => k _ d (same_new nd) upd_same⟩
          | true =>
            rw [if_pos hf] at k
            refine iteN (by decide) ?_
            refine ⟨_, rfl, qh, _, 0, .str h.1, rfl, rfl, hq _, at0 _ _, rfl, _, rfl, ?_⟩
            refine ite2 (fun et => ?_) (fun et => ?_)
            · rw [if_pos (strEq et)] at k
              exact ⟨_, rfl, _, rfl, _, rfl, lu, us, at_, _, rfl, hu, hl, ha, k⟩
            · have et := strNe et
              rw [if_neg et] at k
              refine ⟨_, rfl, qh, _, 0, .str h.1, rfl, rfl, hq _, at0 _ _, h.1, rfl, h20, _, rfl, ?_⟩
              refine ite2 (fun e5 => ?_) (fun e5 => ?_)
              · rw [if_pos (of_decide_eq_true e5)] at k
                exact ⟨_, rfl, _, rfl, _, rfl, _, rfl, _, rfl, lu, qh, us, at_, h, _, _, rfl, hu, hl, ha, hq, of_decide_eq_true e5, k⟩
              · have e5 : ¬ h.1 ∈ five := fun z => e5 (decide_eq_true z)
                rw [if_neg e5] at k
                obtain ⟨hw, hpl, hbd, hk3⟩ := kinds_w2 h hmem et e5
                obtain ⟨qk, hqk, hqS⟩ := hpk _ (ks_in _ h20)
                refine ⟨_, rfl, qh, _, 0, .str h.1, rfl, rfl, hq _, at0 _ _, pp, h.1, _, rfl, rfl, hqk, ?_⟩
                refine ⟨_, rfl, (by show 2 ≤ sizeLine; decide), fun t0 nt0 => ?_⟩
                have s0 := same_new (o := .tup [V.str "box", V.str "box"]) nt0
                have z0 : upd H t0 (.tup [V.str "box", V.str "box"]) t0 = _ := upd_same
                generalize upd H t0 (.tup [V.str "box", V.str "box"]) = G0 at s0 z0 ⊢
                refine ⟨1, qk, t0, _, _, rfl, rfl, strs_da K (hqS _), strs_da K (ss := ["box", "box"]) (SqT.of z0), strs_nb _, strs_nb _, by decide, _, rfl, ?_⟩
                by_cases e2w : h.1 ∈ w2
                · rw [if_pos e2w] at k
                  refine iteP (by rw [Bool.false_xor]; exact decide_eq_true (by show Da.tup ((ksOf h.1).map Da.str) = _; rw [hw.mpr e2w])) ?_
                  refine ⟨_, rfl, qh, _, 0, .str h.1, rfl, rfl, hq _, at0 _ _, _, rfl, _, rfl, (by show 3 ≤ sizeLine; decide), fun p np => ?_⟩
                  exact k p _ (s0.trans (same_new np)) (row_plain (is := [u % 1024 / 128, u % 128]) hpl ((by decide +kernel : ∀ u ∈ w2, 2 = arI u) _ e2w) upd_same)
                · rw [if_neg e2w] at k
                  refine iteN (by rw [Bool.false_xor]; exact fun z => e2w (hw.mp (strs_inj (of_decide_eq_true z)))) ?_
                  refine ⟨_, rfl, qh, _, 0, .str h.1, rfl, rfl, hq _, at0 _ _, (by show 1 ≤ sizeLine; decide), fun t1 nt1 => ?_⟩
                  have s1 := s0.trans (same_new (o := .tup [V.str h.1]) nt1)
                  have z1 : upd G0 t1 (.tup [V.str h.1]) t1 = _ := upd_same
                  generalize upd G0 t1 (.tup [V.str h.1]) = G1 at s1 z1 ⊢
                  refine ⟨_, rfl, qk, rfl, ⟨_, hqS _⟩, fun D nD => comp_tup (K := K) (a := qk) (xs := (ksOf h.1).map V.str) (fun i σ ys G => ∃ (v : Option V) (ns : List Int), σ = [v, some (.ref lu), some (.int (at_ : Int)), some (.int (u % 1024 / 128))] ∧ ys = ns.map V.int ∧ ns.length = i ∧ parsAt us at_ (u % 1024 / 128) (ksOf h.1) = appE ns (parsAt us at_ (u % 1024 / 128) ((ksOf h.1).drop i)) ∧ Same G1 G ∧ G D = some (.lst ys)) ?_ ?_ ?_ ?_⟩
                  · refine ⟨none, [], rfl, rfl, rfl, ?_, same_new nD, upd_same⟩
                    rw [List.drop_zero]
                    cases parsAt us at_ (u % 1024 / 128) (ksOf h.1) <;> rfl
                  · rintro i σ ys G _ ⟨v, ns, rfl, rfl, _, _, s2, _⟩
                    exact hqS _
                  · rintro i x σ ys G hx ⟨v, ns, rfl, rfl, hnl, hpa, s2, hD⟩
                    rw [List.getElem?_map] at hx
                    obtain ⟨kd, hkd, rfl⟩ := Option.map_eq_some_iff.mp hx
                    have hil := (List.getElem?_eq_some_iff.mp hkd).1
                    have hdr : (ksOf h.1).drop i = kd :: (ksOf h.1).drop (i + 1) := by rw [List.drop_eq_getElem_cons hil, (List.getElem?_eq_some_iff.mp hkd).2]
                    have s12 := s1.trans s2
                    refine ⟨_, rfl, _, rfl, _, rfl, _, rfl, lu, us, at_, kd, _, rfl, s12 _ _ hu, hl, ha, hbd e2w kd (List.mem_of_getElem? hkd), ?_⟩
                    rw [hdr] at hpa
                    cases hp : parAt us at_ kd (u % 1024 / 128) with
                    | ok n =>
                      rw [app_cons hp] at hpa
                      intro G3 s3
                      refine ⟨s3 _ _ hD, small_lt (by rw [List.length_map]; omega), _, ns ++ [n], rfl, by rw [List.map_append]; rfl, by rw [List.length_append, hnl]; rfl, hpa, same_put (s2.trans s3) nD, upd_same⟩
                    | error e =>
                      rw [app_err hp] at hpa
                      rw [hpa] at k
                      intro H' d s' hd
                      exact k H' d (s12.trans s') hd
                  · rintro σ ys G ⟨v, ns, rfl, rfl, hnl, hpa, s2, hD⟩
                    rw [List.length_map] at hnl hpa
                    rw [List.drop_length] at hpa
                    have hpa : parsAt us at_ (u % 1024 / 128) (ksOf h.1) = .ok ns := by rw [hpa]; show Except.ok (ns ++ []) = _; rw [List.append_nil]
                    rw [hpa] at k
                    have k : ∀ (p : Addr) (H' : Hp), Same H H' → RowF H' p ⟨h.1, ns, []⟩ → Q (.ref p) H' := k
                    refine ⟨D, _, rfl, .inl ⟨SqL.of hD, fun t2 nt2 => ?_⟩⟩
                    have s3 := (s1.trans s2).trans (same_new (o := .tup (ns.map V.int)) nt2)
                    have z13 := same_new (o := .tup (ns.map V.int)) nt2 _ _ (s2 _ _ z1)
                    refine ⟨t1, t2, [V.str h.1], ns.map V.int, rfl, rfl, SqT.of z13, SqT.of upd_same, List.cons_ne_nil _ _, small_len (by rw [List.length_map]; show 1 + ns.length ≤ 1000000; omega), (fun hy => ?_), fun _ p np => ?_⟩
                    · refine k t1 _ s3 (row_plain hpl hnl ?_)
                      rw [z13, hy]
                    · exact k p _ (s3.trans (same_new np)) (row_plain hpl hnl upd_same)
        · refine iteP (by have : decide (u < ((heads.length : Nat) : Int) * 1024) = false := decide_eq_false (by show ¬ u < 25 * 1024; omega); rw [this]; decide) ?_
          exact ⟨_, rfl, _, rfl, by omega, fun d nd => bad (fun z => e2 z.2) _ d (same_new nd) upd_same⟩
      · refine ⟨_, rfl, iteP (by decide) ?_⟩
        exact ⟨_, rfl, _, rfl, by omega, fun d nd => bad (fun z => e1 (decide_eq_true z.1)) _ d (same_new nd) upd_same⟩
    · rw [hn] at k
      rw [he] at hd
      exact k H' d s' hd
end
end My


set_option Elab.async false
set_option linter.all false
set_option maxRecDepth 100000
set_option maxHeartbeats 4000000
namespace My
open PySem L2
def readN (us : List Int) : Nat → Nat → Except Nat (List FR)
  | 0, _ => .ok []
  | f + 1, at_ => if us.length ≤ at_ then .ok [] else match rowAt us at_ with
    | .error e => .error e
    | .ok d => match readN us f (at_ + (szF d).toNat) with
      | .error e => .error e
      | .ok l => .ok (d :: l)
def appD (ds : List FR) : Except Nat (List FR) → Except Nat (List FR)
  | .ok l => .ok (ds ++ l)
  | .error e => .error e
theorem readN_end {us : List Int} {f at_ : Nat} (h : us.length ≤ at_) : readN us f at_ = .ok [] := by
  cases f with
  | zero => rfl
  | succ f => show (if us.length ≤ at_ then _ else _) = _; rw [if_pos h]
theorem readN_ok {us : List Int} {f at_ : Nat} {d : FR} {ds : List FR} (h : ¬ us.length ≤ at_) (hd : rowAt us at_ = .ok d) : appD ds (readN us (f + 1) at_) = appD (ds ++ [d]) (readN us f (at_ + (szF d).toNat)) := by
  show appD ds (if us.length ≤ at_ then _ else match rowAt us at_ with | .error e => .error e | .ok d => _) = _
  rw [if_neg h, hd]
  show appD ds (match readN us f (at_ + (szF d).toNat) with | .error e => .error e | .ok l => .ok (d :: l)) = _
  cases readN us f (at_ + (szF d).toNat) with
  | error e => rfl
  | ok l => show Except.ok _ = Except.ok _; simp
theorem readN_err {us : List Int} {f at_ e : Nat} {ds : List FR} (h : ¬ us.length ≤ at_) (hd : rowAt us at_ = .error e) : appD ds (readN us (f + 1) at_) = .error e := by
  show appD ds (if us.length ≤ at_ then _ else match rowAt us at_ with | .error e => .error e | .ok d => _) = _
  rw [if_neg h, hd]
  rfl
theorem jrow_u (u : Str) (a d f : Int) : (jrow u a d f).u = u := by unfold jrow; split <;> rfl
theorem jrow_far (u : Str) (a d f : Int) : farF (jrow u a d f) = f := by unfold jrow farF; split <;> rfl
theorem jrow_ts (u : Str) (a d f : Int) : (jrow u a d f).ts = [d] := by unfold jrow; split <;> rfl
theorem jmp_ok {us : List Int} {at_ : Nat} {h : Str × Int} {a low : Int} {d : FR} (h1 : h ∈ heads) (e : jmpAt us at_ h a low = .ok d) : FarOk d ∧ d.ts.length ≤ 16 := by
  have h01 := (by decide +kernel : ∀ h ∈ heads, h.2 = 0 ∨ h.2 = 1) h h1
  have key : ∀ n, d = jrow h.1 a n h.2 → FarOk d ∧ d.ts.length ≤ 16 := fun n z => by
    rw [z]
    exact ⟨fun _ => by rw [jrow_far]; exact h01, by rw [jrow_ts]; exact (by decide : 1 ≤ 16)⟩
  unfold jmpAt at e
  by_cases z : h.2 = 0
  · rw [if_pos z] at e
    cases e
    exact key _ rfl
  · rw [if_neg z] at e
    cases hn : us[at_ + 1]? with
    | none => rw [hn] at e; cases e
    | some n =>
      rw [hn] at e
      cases e
      exact key _ rfl
theorem row_ok {us : List Int} {at_ : Nat} {d : FR} (e : rowAt us at_ = .ok d) : FarOk d ∧ d.ts.length ≤ 16 := by
  unfold rowAt at e
  cases hn : us[at_]? with
  | none => rw [hn] at e; cases e
  | some u =>
    rw [hn] at e
    have e : (if 0 ≤ u ∧ u < 25600 then (match heads[(u / 1024).toNat]? with | none => .error at_ | some h => headRow us at_ h (u % 1024 / 128) (u % 128)) else .error at_) = Except.ok d := e
    split at e
    · cases hh : heads[(u / 1024).toNat]? with
      | none => rw [hh] at e; cases e
      | some h =>
        rw [hh] at e
        have hm := List.mem_of_getElem? hh
        have e : headRow us at_ h (u % 1024 / 128) (u % 128) = .ok d := e
        unfold headRow at e
        split at e
        · split at e
          · unfold tabAt at e
            cases hk : us[at_ + 1]? with
            | none => rw [hk] at e; cases e
            | some n =>
              rw [hk] at e
              have e : (if 1 ≤ n ∧ n ≤ 16 then (if us.length < at_ + 2 + n.toNat then .error us.length else .ok ⟨"table", [u % 1024 / 128], (us.drop (at_ + 2)).take n.toNat⟩) else .error (at_ + 1)) = Except.ok d := e
              split at e
              · split at e
                · cases e
                · cases e
                  exact ⟨fun z => absurd z (by show ¬ ("table" : Str) ∈ five; decide), by show ((us.drop (at_ + 2)).take n.toNat).length ≤ 16; rw [List.length_take]; omega⟩
              · cases e
          · split at e
            · exact jmp_ok hm e
            · rename_i h5
              split at e
              · cases e
                exact ⟨fun z => absurd z h5, Nat.zero_le _⟩
              · cases hp : parsAt us at_ (u % 1024 / 128) (ksOf h.1) with
                | error x => rw [hp] at e; cases e
                | ok l =>
                  rw [hp] at e
                  cases e
                  exact ⟨fun z => absurd z h5, Nat.zero_le _⟩
        · cases e
    · cases e
theorem sz_pos' {d : FR} (h : FarOk d) : 1 ≤ szF d := by
  unfold szF
  split
  · omega
  · split
    · rename_i h1 h2
      rcases h h2 with z | z <;> omega
    · split <;> omega
def RowsRes (cNU : Addr) (r : Except Nat (List FR)) (H : Hp) (Q : VK) (E : XK) : Prop := match r with
  | .ok ds => ∀ (l : Addr) (H' : Hp), Same H H' → H l = none → RowsF H' l ds → Q (.ref l) H'
  | .error e => ErrU cNU e H E
def withT (d : FR) (ts : List Int) : FR := if d.u = "table" then ⟨"table", d.is, ts⟩ else if d.u ∈ jcm then ⟨d.u, [ts.headD 0, farF d], [ts.headD 0]⟩ else if d.u ∈ zb then ⟨d.u, [d.is.headD 0, ts.headD 0, farF d], [ts.headD 0]⟩ else d
section
variable {P : Program} {w : World} {K : PySem.W.Frag} {mg : Str → Option Value} {base : Heap}
variable {cNU R fI : Addr} {fdI : FuncData}
def spGoes : Sp := fun vs H Q _ => ∃ (q : Addr) (d : FR), vs = [.ref q] ∧ RowF H q d ∧ Q (.bl (!decide (d.u ∈ notOn))) H
theorem scGon : FnScope ["row"] ["row"] (defScope sGoesOn) := ⟨rfl, rfl, rfl, by decide +kernel, rfl, by decide +kernel, by decide +kernel⟩
theorem ok_goes {f : Addr} {fd : FuncData} (F : Fun K "goes_on" "goes_on" sGoesOn f fd) (T : Txt K w.params mg) : FnOk P w K mg base CX0 1 f fd ["row"] spGoes := by
  refine F.ok scGon (fun vs H Q E h => ?_) (fun cdv A outer s H vs Q E hr h => ?_)
  · obtain ⟨q, d, rfl, _⟩ := h
    rfl
  · obtain ⟨q, d, rfl, hR, k⟩ := h
    obtain ⟨pn, hpn, hnS⟩ := T.non
    obtain ⟨items, i1, _⟩ := hR.parts
    refine ⟨_, (pss_one (ps_ret (pe_cmpR op_notIn_seq (pe_ix ix_tup (pv 0) pe_int (fun _ _ => rfl)) (pe_glob (v := .ref pn) (by rfl) hpn rfl) rfl))), ?_⟩
    refine ⟨_, rfl, q, _, 0, _, rfl, rfl, SqT.of i1, at0 _ _, pn, notOn.map V.str, rfl, .inr (hnS _), rfl, rfl, ?_⟩
    rw [show inV (.str d.u) (notOn.map V.str) = decide (d.u ∈ notOn) from inV_str _ _]
    exact k
def spWithT : Sp := fun vs H Q _ => ∃ (q lt : Addr) (d : FR) (ts : List Int), vs = [.ref q, .ref lt] ∧ RowF H q d ∧ H lt = some (.lst (ts.map V.int)) ∧ ts.length = d.ts.length ∧ ∀ (p : Addr) (H' : Hp), Same H H' → RowF H' p (withT d ts) → Q (.ref p) H'
theorem scWit : FnScope ["row", "targets", "word"] ["row", "targets"] (defScope sWithT) := ⟨rfl, rfl, rfl, by decide +kernel, rfl, by decide +kernel, by decide +kernel⟩
theorem ok_witht {f : Addr} {fd : FuncData} (F : Fun K "with_targets" "with_targets" sWithT f fd) (T : Txt K w.params mg) : FnOk P w K mg base CX0 1 f fd ["row", "targets"] spWithT := by
  refine F.ok scWit (fun vs H Q E h => ?_) (fun cdv A outer s H vs Q E hr h => ?_)
  · obtain ⟨q, lt, d, ts, rfl, _⟩ := h
    rfl
  · obtain ⟨q, lt, d, ts, rfl, hR, ht, htl, k⟩ := h
    obtain ⟨items, i1, _⟩ := hR.parts
    refine ⟨_, (pss_cons (ps_set (i := 2) scWit.nd rfl (Or.inl rfl) (pe_ix ix_tup (pv 0) pe_int (fun _ _ => rfl)))
      (pss_cons (ps_if (pt_cmpR op_eq (pv 2) pe_str (nomark _)) (pss_one (ps_ret (pe_tup (pa_cons (pv 2) (pa_cons (pe_ix ix_tup (pv 0) pe_int (fun _ _ => rfl)) (pa_cons (pe_callTy call_tuple_of (by rfl) T.tuple bt_tuple (pa_cons (pv 1) pa_nil)) pa_nil)))))) pss_nil)
      (pss_cons (ps_if (pt_cmpR op_in_seq (pv 2) (pe_tup (pa_cons pe_str (pa_cons pe_str (pa_cons pe_str pa_nil)))) rfl) (pss_one (ps_ret (pe_tup (pa_cons (pv 2) (pa_cons (pe_ix ix_list (pv 1) pe_int (fun _ _ => rfl)) (pa_cons (pe_ix ix_tup (pv 0) pe_int (fun _ _ => rfl)) pa_nil)))))) pss_nil)
      (pss_cons (ps_if (pt_cmpR op_in_seq (pv 2) (pe_tup (pa_cons pe_str (pa_cons pe_str pa_nil))) rfl) (pss_one (ps_ret (pe_tup (pa_cons (pv 2) (pa_cons (pe_ix ix_tup (pv 0) pe_int (fun _ _ => rfl)) (pa_cons (pe_ix ix_list (pv 1) pe_int (fun _ _ => rfl)) (pa_cons (pe_ix ix_tup (pv 0) pe_int (fun _ _ => rfl)) pa_nil))))))) pss_nil)
      (pss_one (ps_ret (pv 0))))))), ?_⟩
    unfold withT at k
    refine ⟨_, rfl, q, _, 0, .str d.u, rfl, rfl, SqT.of i1, at0 _ _, _, rfl, rfl, _, rfl, ?_⟩
    refine ite2 (fun e => ?_) (fun e => ?_)
    · have e := strEq e
      rw [if_pos e] at k
      rcases hR.2 with ⟨_, b, p, eis, g1, g2⟩ | ⟨a, _⟩
      · refine ⟨_, rfl, _, rfl, q, _, 1, .int b, rfl, rfl, SqT.of g1, at1 _ _ _, _, rfl, lt, _, rfl, .inl ⟨SqL.of ht, fun t nt => ⟨(by show 3 ≤ sizeLine; decide), fun p' np => ?_⟩⟩⟩
        rw [eis, ] at k
        refine k p' _ ((same_new nt).trans (same_new np)) (row_table ?_ (same_new np _ _ upd_same))
        rw [upd_same, e]
      · exact absurd e a
    · have e := strNe e
      rw [if_neg e] at k
      refine ⟨_, rfl, (by show 3 ≤ sizeLine; decide), fun t0 nt0 => ⟨t0, jcm.map V.str, rfl, .inr (SqT.of upd_same), rfl, rfl, _, rfl, ?_⟩⟩
      have s0 := same_new (o := .tup [V.str "jump", V.str "call", V.str "mark"]) nt0
      rw [show inV (.str d.u) (jcm.map V.str) = decide (d.u ∈ jcm) from inV_str _ _]
      generalize upd H t0 (.tup [V.str "jump", V.str "call", V.str "mark"]) = G0 at s0 ⊢
      refine ite2 (fun ej => ?_) (fun ej => ?_)
      · have ej := of_decide_eq_true ej
        rw [if_pos ej] at k
        obtain ⟨tt, ff, e1, e2⟩ := hR.1.2.2.1 ej
        rw [e2] at htl
        obtain ⟨x, hx⟩ := List.length_eq_one_iff.mp htl
        subst hx
        rcases hR.2 with ⟨a, _⟩ | ⟨_, g1⟩
        · exact absurd a e
        have g1' : H q = some (.tup [.str d.u, .int tt, .int ff]) := by rw [g1, e1]; rfl
        refine ⟨_, rfl, _, rfl, lt, _, 0, .int x, rfl, rfl, SqL.of (s0 _ _ ht), at0 _ _, _, rfl, q, _, 2, .int ff, rfl, rfl, SqT.of (s0 _ _ g1'), at2 _ _ _ _, (by show 3 ≤ sizeLine; decide), fun p np => ?_⟩
        have hf : farF d = ff := by unfold farF; rw [e1]; rfl
        rw [hf] at k
        exact k p _ (s0.trans (same_new np)) (row_jcm ej upd_same)
      · have ej : ¬ d.u ∈ jcm := fun z => ej (decide_eq_true z)
        rw [if_neg ej] at k
        refine ⟨_, rfl, (by show 2 ≤ sizeLine; decide), fun t1 nt1 => ⟨t1, zb.map V.str, rfl, .inr (SqT.of upd_same), rfl, rfl, _, rfl, ?_⟩⟩
        have s1 := s0.trans (same_new (o := .tup [V.str "zero", V.str "below"]) nt1)
        rw [show inV (.str d.u) (zb.map V.str) = decide (d.u ∈ zb) from inV_str _ _]
        generalize upd G0 t1 (.tup [V.str "zero", V.str "below"]) = G1 at s1 ⊢
        refine ite2 (fun ez => ?_) (fun ez => ?_)
        · have ez := of_decide_eq_true ez
          rw [if_pos ez] at k
          obtain ⟨bb, tt, ff, e1, e2⟩ := hR.1.2.2.2.1 ez
          rw [e2] at htl
          obtain ⟨x, hx⟩ := List.length_eq_one_iff.mp htl
          subst hx
          rcases hR.2 with ⟨a, _⟩ | ⟨_, g1⟩
          · exact absurd a e
          have g1' : H q = some (.tup [.str d.u, .int bb, .int tt, .int ff]) := by rw [g1, e1]; rfl
          refine ⟨_, rfl, _, rfl, q, _, 1, .int bb, rfl, rfl, SqT.of (s1 _ _ g1'), at1 _ _ _, _, rfl, lt, _, 0, .int x, rfl, rfl, SqL.of (s1 _ _ ht), at0 _ _, _, rfl, q, _, 3, .int ff, rfl, rfl, SqT.of (s1 _ _ g1'), rfl, (by show 4 ≤ sizeLine; decide), fun p np => ?_⟩
          have hf : farF d = ff := by unfold farF; rw [e1]; rfl
          rw [hf, e1] at k
          exact k p _ (s1.trans (same_new np)) (row_zb ez upd_same)
        · rw [if_neg (fun z => ez (decide_eq_true z))] at k
          exact ⟨_, rfl, k q _ s1 (hR.same s1)⟩
/-! ### rows_with_distances -/
def spRwd (cNU : Addr) : Sp := fun vs H Q E => ∃ (lu : Addr) (us : List Int), vs = [.ref lu] ∧ H lu = some (.lst (us.map V.int)) ∧ us.length ≤ 100000 ∧ RowsRes cNU (readN us (us.length + 1) 0) H Q E
theorem scRwd : FnScope ["units", "rows", "at"] ["units"] (defScope sRowsWD) := ⟨rfl, rfl, rfl, by decide +kernel, rfl, by decide +kernel, by decide +kernel⟩
theorem ok_rwd {f fR fS : Addr} {fd fdR fdS : FuncData} (F : Fun K "rows_with_distances" "rows_with_distances" sRowsWD f fd) (T : Txt K w.params mg) (GR : FnOk P w K mg base (CX2 P w) 6 fR fdR ["units", "at"] (spRAt cNU)) (kR : PySem.W.keepIn K (.ref fR) = true) (bR : Binds K fdR ["units", "at"] []) (mR : mg "row_at" = some (.ref fR)) (GS : FnOk P w K mg base CX0 2 fS fdS ["row"] spSize) (kS : PySem.W.keepIn K (.ref fS) = true) (bS : Binds K fdS ["row"] []) (mS : mg "size_of" = some (.ref fS)) : FnOk P w K mg base (CX2 P w) 7 f fd ["units"] (spRwd cNU) := by
  refine F.okX scRwd (fun vs H Q E h => ?_) (fun cdv A outer s H vs Q E hr h => ?_)
  · obtain ⟨lu, us, rfl, _⟩ := h
    rfl
  · obtain ⟨lu, us, rfl, hu, hl, k⟩ := h
    have hrS : Room 2 (A.deeper (PyProof.Rows.envOfC "rows_with_distances" (defScope sRowsWD) s.heap.objs.size f cdv)) := hr.mono (by decide)
    refine ⟨_, (pss_cons (ps_set (i := 1) scRwd.nd rfl (Or.inl rfl) (pe_lst pa_nil))
      (pss_cons (ps_set (i := 2) scRwd.nd rfl (Or.inl rfl) pe_int)
      (pss_cons (ps_while PassesOwn.leaving (pt_cmpR op_lt (pv 2) (pe_callB call_len_seq (by rfl) T.len bt_len (pa_cons (pv 0) pa_nil)) (nomark _)) (pss_cons (ps_expr (pe_bm PySem.F.plainAttrs_list PySem.F.slot_list_append PySem.F.type_list_append mt_append (pv 1) (pa_cons (pe_call GR hr (by rfl) mR kR bR .nil pass22 (pa_cons (pv 0) (pa_cons (pv 2) pa_nil))) pa_nil)))
      (pss_one (ps_set (i := 2) scRwd.nd rfl (Or.inl rfl) (pe_op op_add (pv 2) (pe_call GS hrS (by rfl) mS kS bS .nil pass0 (pa_cons (pe_ix ix_list (pv 1) (pe_un un_neg pe_int) (fun _ _ => rfl)) pa_nil)))))))
      (pss_one (ps_ret (pv 1)))))), ?_⟩
    refine ⟨Nat.le_of_ble_eq_true rfl, fun la nla => ?_⟩
    have s0 := same_new (o := .lst []) nla
    have h0 : upd H la (.lst []) la = some (.lst (([] : List Addr).map V.ref)) := upd_same
    generalize upd H la (.lst []) = G0 at s0 h0 ⊢
    refine ⟨fun mm σ G => ∃ (at_ : Nat) (qs : List Addr) (ds : List FR), σ = [some (.ref lu), some (.ref la), some (.int (at_ : Int))] ∧ Same H G ∧ G la = some (.lst (qs.map V.ref)) ∧ (qs.length = ds.length ∧ ∀ (i : Nat) q d, qs[i]? = some q → ds[i]? = some d → RowF G q d) ∧ readN us (us.length + 1) 0 = appD ds (readN us mm at_) ∧ us.length < at_ + mm ∧ ds.length ≤ at_ ∧ (ds.length ≤ us.length), ⟨us.length + 1, 0, [], [], rfl, s0, h0, ⟨rfl, fun i q d g => by simp at g⟩, ?_, by omega, Nat.zero_le _, Nat.zero_le _⟩, ?_⟩
    · cases readN us (us.length + 1) 0 <;> rfl
    rintro mm σ G ⟨at_, qs, ds, rfl, s1, hla, hR, hrd, hf, hda, hdu⟩
    refine ⟨_, rfl, _, rfl, lu, _, rfl, .inl (SqL.of (s1 _ _ hu)), _, _, rfl, rfl, _, rfl, ?_⟩
    rw [List.length_map]
    refine ite2 (fun e => ?_) (fun e => ?_)
    · have e := of_decide_eq_true e
      have hlt : at_ < us.length := by omega
      have nle : ¬ us.length ≤ at_ := by omega
      obtain ⟨f0, rfl⟩ : ∃ f0, mm = f0 + 1 := ⟨mm - 1, by omega⟩
      refine ⟨fun σ' G' => ∃ (at2 : Nat) (qs : List Addr) (ds : List FR), σ' = [some (.ref lu), some (.ref la), some (.int (at2 : Int))] ∧ Same H G' ∧ G' la = some (.lst (qs.map V.ref)) ∧ (qs.length = ds.length ∧ ∀ (i : Nat) q d, qs[i]? = some q → ds[i]? = some d → RowF G' q d) ∧ readN us (us.length + 1) 0 = appD ds (readN us f0 at2) ∧ us.length < at2 + f0 ∧ ds.length ≤ at2 ∧ ds.length ≤ us.length, ?_, ?_⟩
      · rintro σ' G' ⟨at2, qs, ds, rfl, a1, a2, a3, a4, a5, a6, a7⟩
        exact ⟨f0, by omega, at2, qs, ds, rfl, a1, a2, a3, a4, a5, a6, a7⟩
      refine ⟨_, rfl, .inl ⟨rfl, _, SqL.of hla⟩, _, rfl, _, rfl, lu, us, at_, rfl, s1 _ _ hu, by omega, by omega, ?_⟩
      cases hrow : rowAt us at_ with
      | error e' =>
        rw [readN_err nle hrow] at hrd
        rw [hrd] at k
        intro H' d s' hd
        exact k H' d (s1.trans s') hd
      | ok d =>
        rw [readN_ok nle hrow] at hrd
        have hsz := sz_pos' (row_ok hrow).1
        intro p G2 s2 hp
        have hla2 := s2 _ _ hla
        refine ⟨la, _, _, rfl, rfl, hla2, small_lt (by rw [List.length_map, hR.1]; omega), ?_⟩
        have eQ : qs.map V.ref ++ [V.ref p] = (qs ++ [p]).map V.ref := by rw [List.map_append]; rfl
        rw [eQ]
        have hp3 : RowF (upd G2 la (.lst ((qs ++ [p]).map V.ref))) p d := hp.put hla2
        refine ⟨_, rfl, _, rfl, _, rfl, la, _, -1, .ref p, rfl, rfl, SqL.of upd_same, atI_m1 (by rw [List.length_map, List.length_append, List.length_singleton, List.getElem?_map]; simp), p, d, rfl, hp3, _, _, rfl, rfl, ?_⟩
        obtain ⟨sn, hsn⟩ := Int.eq_ofNat_of_zero_le (show 0 ≤ szF d by omega)
        rw [hsn] at hsz
        refine ⟨at_ + sn, qs ++ [p], ds ++ [d], by show _ = [some (V.ref lu), some (V.ref la), some (V.int ((at_ + sn : Nat) : Int))]; rw [hsn]; rfl, same_put (s1.trans s2) nla, upd_same, ⟨by rw [List.length_append, List.length_append, hR.1]; rfl, fun i q d' g1 g2 => ?_⟩, ?_, by omega, by rw [List.length_append]; show ds.length + 1 ≤ _; omega, by rw [List.length_append]; show ds.length + 1 ≤ _; omega⟩
        · by_cases hi : i < qs.length
          · rw [List.getElem?_append_left hi] at g1
            rw [List.getElem?_append_left (by rw [← hR.1]; exact hi)] at g2
            exact ((hR.2 i q d' g1 g2).same s2).put hla2
          · have h9 := (List.getElem?_eq_some_iff.mp g1).1
            rw [List.length_append, List.length_singleton] at h9
            have ei : i = qs.length := by omega
            subst ei
            rw [show (qs ++ [p])[qs.length]? = some p by simp] at g1
            rw [hR.1, show (ds ++ [d])[ds.length]? = some d by simp] at g2
            cases g1
            cases g2
            exact hp3
        · rw [hrd, hsn]
          rfl
    · have e : us.length ≤ at_ := by
        have : ¬ (at_ : Int) < ((us.length : Nat) : Int) := fun z => e (decide_eq_true z)
        omega
      rw [readN_end e] at hrd
      have hrd : readN us (us.length + 1) 0 = .ok ds := by rw [hrd]; show Except.ok (ds ++ []) = _; rw [List.append_nil]
      rw [hrd] at k
      exact ⟨_, rfl, k la _ s1 nla ⟨qs, hla, hR.1, hR.2⟩⟩
end
end My


set_option Elab.async false
set_option linter.all false
set_option maxRecDepth 100000
set_option maxHeartbeats 4000000
namespace My
open PySem L2
theorem pg_two {X : Cx} {K : PySem.W.Frag} (hK : X.K = K) {i j : Nat} {x y : Str} {px py pt : Pos} {k : Nat} (hc : X.calm = true) (hN : X.N.Nodup) (hi : X.N[i]? = some x) (hx : Loc X.env.scope x) (hj : X.N[j]? = some y) (hy : Loc X.env.scope y)
    (hf : X.fn x = true ∨ X.env.scope.names.lookup x = some .local := by first | exact .inl rfl | exact .inr rfl) (hf2 : X.fn y = true ∨ X.env.scope.names.lookup y = some .local := by first | exact .inl rfl | exact .inr rfl) :
    PG X (.Tuple [.Name x px, .Name y py] k pt) (gTup K 2 (gCons (gName i) (gCons (gName j) gNil))) := hK ▸ pg_tup (n := 2) hc (pgs_cons (pg_name hN hi hx hf) (pgs_cons (pg_name hN hj hy hf2) pgs_nil))
def plL (ds : List FR) : Nat → Int → Option Nat
  | 0, _ => none
  | n + 1, x => if beg ds n = x then some n else plL ds n x
def ovI : Option Nat → V
  | none => .non
  | some r => .int (r : Int)
def ledT (ds : List FR) (n r : Nat) (d : FR) : List (Option Nat) := d.ts.map fun x => plL ds n (beg ds (r + 1) + x)
def badR (ds : List FR) (r : Nat) (d : FR) : Bool := decide (none ∈ ledT ds ds.length r d) || (decide (r + 1 = ds.length) && !decide (d.u ∈ notOn))
def ledR (ds : List FR) (r : Nat) (d : FR) : FR := withT d ((ledT ds ds.length r d).map fun o => ((o.getD 0 : Nat) : Int))
def ledE (ds : List FR) : Nat → List FR → Except Nat (List FR)
  | _, [] => .ok []
  | r, d :: l => if badR ds r d = true then .error (beg ds r).toNat else match ledE ds (r + 1) l with
    | .error e => .error e
    | .ok m => .ok (ledR ds r d :: m)
def unitsRd (us : List Int) : Except Nat (List FR) := if us = [] then .error 0 else match readN us (us.length + 1) 0 with
  | .error e => .error e
  | .ok ds => ledE ds 0 ds
theorem inV_non (os : List (Option Nat)) : inV .non (os.map ovI) = decide (none ∈ os) := by
  induction os with
  | nil => rfl
  | cons o os ih =>
    unfold inV at ih ⊢
    rw [List.map_cons, List.any_cons, ih]
    cases o with
    | none => simp [ovI, eqV]
    | some r => simp [ovI, eqV]
theorem ov_ints : ∀ {os : List (Option Nat)}, ¬ none ∈ os → os.map ovI = (os.map fun o => ((o.getD 0 : Nat) : Int)).map V.int
  | [], _ => rfl
  | none :: os, h => absurd (List.mem_cons_self ..) h
  | some r :: os, h => by
    rw [List.map_cons, List.map_cons, List.map_cons, ov_ints (fun z => h (List.mem_cons_of_mem _ z))]
    rfl
theorem led_ok {ds : List FR} {r : Nat} {d : FR} {l m : List FR} (h : badR ds r d = false) : appD m (ledE ds r (d :: l)) = appD (m ++ [ledR ds r d]) (ledE ds (r + 1) l) := by
  show appD m (if badR ds r d = true then _ else match ledE ds (r + 1) l with | .error e => .error e | .ok k => .ok (ledR ds r d :: k)) = _
  rw [if_neg (by rw [h]; decide)]
  cases ledE ds (r + 1) l with
  | error e => rfl
  | ok k => show Except.ok _ = Except.ok _; simp
theorem led_err {ds : List FR} {r : Nat} {d : FR} {l m : List FR} (h : badR ds r d = true) : appD m (ledE ds r (d :: l)) = .error (beg ds r).toNat := by
  show appD m (if badR ds r d = true then _ else _) = _
  rw [if_pos h]
  rfl
theorem readN_far {us : List Int} : ∀ (f at_ : Nat) (ds : List FR), readN us f at_ = .ok ds → ∀ d ∈ ds, FarOk d ∧ d.ts.length ≤ 16
  | 0, _, ds, h => by cases h; exact fun d hd => (List.not_mem_nil hd).elim
  | f + 1, at_, ds, h => by
    have h : (if us.length ≤ at_ then .ok [] else match rowAt us at_ with | .error e => .error e | .ok d => match readN us f (at_ + (szF d).toNat) with | .error e => .error e | .ok l => .ok (d :: l)) = Except.ok ds := h
    split at h
    · cases h
      exact fun d hd => (List.not_mem_nil hd).elim
    · cases hr : rowAt us at_ with
      | error e => rw [hr] at h; cases h
      | ok d =>
        rw [hr] at h
        have h : (match readN us f (at_ + (szF d).toNat) with | .error e => .error e | .ok l => .ok (d :: l)) = Except.ok ds := h
        cases hl : readN us f (at_ + (szF d).toNat) with
        | error e => rw [hl] at h; cases h
        | ok l =>
          rw [hl] at h
          cases h
          intro x hx
          rcases List.mem_cons.mp hx with rfl | hx
          · exact row_ok hr
          · exact readN_far f _ l hl x hx
theorem readN_len {us : List Int} : ∀ (f at_ : Nat) (ds : List FR), readN us f at_ = .ok ds → ds.length ≤ f
  | 0, _, ds, h => by cases h; exact Nat.le_refl _
  | f + 1, at_, ds, h => by
    have h : (if us.length ≤ at_ then .ok [] else match rowAt us at_ with | .error e => .error e | .ok d => match readN us f (at_ + (szF d).toNat) with | .error e => .error e | .ok l => .ok (d :: l)) = Except.ok ds := h
    split at h
    · cases h
      exact Nat.zero_le _
    · cases hr : rowAt us at_ with
      | error e => rw [hr] at h; cases h
      | ok d =>
        rw [hr] at h
        have h : (match readN us f (at_ + (szF d).toNat) with | .error e => .error e | .ok l => .ok (d :: l)) = Except.ok ds := h
        cases hl : readN us f (at_ + (szF d).toNat) with
        | error e => rw [hl] at h; cases h
        | ok l =>
          rw [hl] at h
          cases h
          have := readN_len f _ l hl
          rw [List.length_cons]
          omega
theorem beg_pos {ds : List FR} (h : ∀ d ∈ ds, FarOk d ∧ d.ts.length ≤ 16) : ∀ j, j ≤ ds.length → 0 ≤ beg ds j ∧ beg ds j ≤ 18 * (j : Int)
  | 0, _ => by simp [beg]
  | j + 1, hj => by
    have ih := beg_pos h j (by omega)
    have hd : ds[j]? = some ds[j] := List.getElem?_eq_getElem (by omega)
    have hf := h ds[j] (List.getElem_mem _)
    have h1 := sz_pos' hf.1
    have h2 : szF ds[j] ≤ 18 := by
      unfold szF
      split
      · have := hf.2; omega
      · split
        · rename_i a b
          rcases hf.1 b with z | z <;> omega
        · split <;> omega
    rw [beg_succ hd]
    push_cast
    omega
/-- all that stood stays, but la -/
def Keep5 (G G' : Hp) (la : Addr) : Prop := ∀ a o, G a = some o → a ≠ la → G' a = some o
theorem RowF.keep {G G' : Hp} {la q : Addr} {d : FR} {xs : List V} (h : RowF G q d) (kk : Keep5 G G' la) (hl : G la = some (.lst xs)) : RowF G' q d := by
  have ne : ∀ (a : Addr) (ys : List V), G a = some (.tup ys) → a ≠ la := fun a ys e z => by rw [z, hl] at e; cases e
  refine ⟨h.1, ?_⟩
  rcases h.2 with ⟨a, b, p, e, h1, h2⟩ | ⟨a, h1⟩
  · exact .inl ⟨a, b, p, e, kk _ _ h1 (ne _ _ h1), kk _ _ h2 (ne _ _ h2)⟩
  · exact .inr ⟨a, kk _ _ h1 (ne _ _ h1)⟩
theorem getD_ov (o : Option Nat) : (o.map fun r : Nat => V.int (r : Int)).getD .non = ovI o := by cases o <;> rfl
section
variable {P : Program} {w : World} {K : PySem.W.Frag} {mg : Str → Option Value} {base : Heap}
variable {cNU R fI : Addr} {fdI : FuncData}
def spRou (cNU : Addr) : Sp := fun vs H Q E => ∃ (lu : Addr) (us : List Int), vs = [.ref lu] ∧ H lu = some (.lst (us.map V.int)) ∧ us.length ≤ 50000 ∧ RowsRes cNU (unitsRd us) H Q E
theorem scRou : FnScope ["units", "rows", "begins", "numbers", "r", "read", "row", "targets"] ["units"] (defScope sRowsOU) := ⟨rfl, rfl, rfl, by decide +kernel, rfl, by decide +kernel, by decide +kernel⟩
def csRouC1 : Scope := { kind := .function, names := [(".0", .local), ("distance", .local), ("begins", .free), ("numbers", .free), ("r", .free)], isGenerator := false, isCoroutine := false, more := [] }
theorem scRouC1 : CompSc (defScope sRowsOU) csRouC1 ["units", "rows", "begins", "numbers", "r", "read", "row", "targets"] ["distance", "numbers", "begins", "r"] [none, some 3, some 2, some 4] := ⟨rfl, by decide +kernel, by decide +kernel, by decide +kernel, by decide +kernel, by decide +kernel⟩
theorem ok_rou {f fR fB fT fO fW : Addr} {fd fdR fdB fdT fdO fdW : FuncData} (F : Fun K "rows_of_units" "rows_of_units" sRowsOU f fd) (T : Txt K w.params mg) (GR : FnOk P w K mg base (CX2 P w) 7 fR fdR ["units"] (spRwd cNU)) (kR : PySem.W.keepIn K (.ref fR) = true) (bR : Binds K fdR ["units"] []) (mR : mg "rows_with_distances" = some (.ref fR)) (GB : FnOk P w K mg base CX0 3 fB fdB ["rows"] spBegins) (kB : PySem.W.keepIn K (.ref fB) = true) (bB : Binds K fdB ["rows"] []) (mB : mg "begins_of" = some (.ref fB)) (GT : FnOk P w K mg base CX0 1 fT fdT ["row"] spTargets) (kT : PySem.W.keepIn K (.ref fT) = true) (bT : Binds K fdT ["row"] []) (mT : mg "targets_of" = some (.ref fT)) (GO : FnOk P w K mg base CX0 1 fO fdO ["row"] spGoes) (kO : PySem.W.keepIn K (.ref fO) = true) (bO : Binds K fdO ["row"] []) (mO : mg "goes_on" = some (.ref fO)) (GW : FnOk P w K mg base CX0 1 fW fdW ["row", "targets"] spWithT) (kW : PySem.W.keepIn K (.ref fW) = true) (bW : Binds K fdW ["row", "targets"] []) (mW : mg "with_targets" = some (.ref fW)) (cx : XIni K cNU R fI) (kC : PySem.W.keepIn K (.ref cNU) = true) (GI : FnOk P w K mg base CX0 1 fI fdI ["self", "at"] (spXI cNU)) (bI : Binds K fdI ["self", "at"] []) (mNU : mg "NoUnits" = some (.ref cNU)) : FnOk P w K mg base (CX2 P w) 8 f fd ["units"] (spRou cNU) := by
  refine F.okX scRou (fun vs H Q E h => ?_) (fun cdv A outer s H vs Q E hr h => ?_)
  · obtain ⟨lu, us, rfl, _⟩ := h
    rfl
  · obtain ⟨lu, us, rfl, hu, hl, k⟩ := h
    have hrB : Room 3 (A.deeper (PyProof.Rows.envOfC "rows_of_units" (defScope sRowsOU) s.heap.objs.size f cdv)) := hr.mono (by decide)
    have hrG : Room 1 (A.deeper (PyProof.Rows.envOfC "rows_of_units" (defScope sRowsOU) s.heap.objs.size f cdv)) := hr.mono (by decide)
    have hrI : Room 2 (A.deeper (PyProof.Rows.envOfC "rows_of_units" (defScope sRowsOU) s.heap.objs.size f cdv)) := hr.mono (by decide)
    have hu1 : (A.deeper (PyProof.Rows.envOfC "rows_of_units" (defScope sRowsOU) s.heap.objs.size f cdv)).units + 1 < cLine := Nat.lt_of_le_of_lt (Nat.add_le_add_left (by decide : 1 ≤ 64) _) hr.units
    have hu' := hu1
    refine ⟨_, (pss_cons (ps_if (pw_or (pt_not (pt_val (pe_callB call_isinst (by rfl) T.isi bt_isi (pa_cons (pv 0) (pa_cons (pe_bltn (v := .ty "list") (by rfl) T.list bt_list rfl) pa_nil))))) (pw_or1 (pt_cmpR op_eq (pe_callB call_len_seq (by rfl) T.len bt_len (pa_cons (pv 0) pa_nil)) pe_int (nomark _)))).pt (pss_one (ps_raiseC cx kC GI bI hrI mNU (by rfl) (pa_cons pe_int pa_nil))) pss_nil)
      (pss_cons (ps_set (i := 1) scRou.nd rfl (Or.inl rfl) (pe_call GR hr (by rfl) mR kR bR .nil pass22 (pa_cons (pv 0) pa_nil)))
      (pss_cons (ps_set (i := 2) scRou.nd rfl (Or.inr rfl) (pe_call GB hrB (by rfl) mB kB bB .nil pass0 (pa_cons (pv 1) pa_nil)))
      (pss_cons (ps_set (i := 3) scRou.nd rfl (Or.inr rfl) pe_dnewK)
      (pss_cons (ps_for PassesOwn.leaving rfl (pi_range1 rfl T.range (pa_cons (pe_callB call_len_seq (by rfl) T.len bt_len (pa_cons (pv 1) pa_nil)) pa_nil)) (pg_name (i := 4) scRou.nd rfl (Or.inr rfl)) (pss_one (ps_dput hu1 (pv 3) (pe_ix ix_list (pv 2) (pv 4) (fun _ _ => rfl)) (pv 4) rfl)))
      (pss_cons (ps_set (i := 5) scRou.nd rfl (Or.inl rfl) (pe_lst pa_nil))
      (pss_cons (ps_for PassesOwn.leaving rfl (pi_enum rfl T.enum (pa_cons (pv 1) pa_nil)) (pg_two (K := K) (i := 4) (j := 6) rfl rfl scRou.nd rfl (Or.inr rfl) rfl (Or.inl rfl)) (pss_cons (ps_comp (i := 7) (N' := ["distance", "numbers", "begins", "r"]) (fr := [none, some 3, some 2, some 4]) scRou.nd rfl rfl scRouC1 rfl (pi_list (pe_call GT hrG (by rfl) mT kT bT .nil pass0 (pa_cons (pv 6) pa_nil))) (fun C s0 H0 fp => (pg_name (i := 0) scRouC1.nd rfl (Or.inl rfl))) (fun C s0 H0 fp => pts_nil) (fun C s0 H0 fp => (pe_dget1 hu1 (pv 1) (pe_op op_add (pe_ix (r := rIxL K) ix_list (pv 2) (pe_op op_add (pv 3) pe_int) (fun _ _ => rfl)) (pv 0)) ⟨rfl, rfl, rfl, rfl⟩)))
      (pss_cons (ps_if (pw_or (pt_cmpR op_in_seq pe_non (pv 7) rfl) (pw_or1 (pw_and (pt_cmpR op_eq (pv 4) (pe_op op_sub (pe_callB call_len_seq (by rfl) T.len bt_len (pa_cons (pv 1) pa_nil)) pe_int) (nomark _)) (pw_and1 (pt_val (pe_call GO hrG (by rfl) mO kO bO .nil pass0 (pa_cons (pv 6) pa_nil))))).pt)).pt (pss_one (ps_raiseC cx kC GI bI hrI mNU (by rfl) (pa_cons (pe_ix ix_list (pv 2) (pv 4) (fun _ _ => rfl)) pa_nil))) pss_nil)
      (pss_one (ps_expr (pe_bm PySem.F.plainAttrs_list PySem.F.slot_list_append PySem.F.type_list_append mt_append (pv 5) (pa_cons (pe_call GW hrG (by rfl) mW kW bW .nil pass0 (pa_cons (pv 6) (pa_cons (pv 7) pa_nil))) pa_nil)))))))
      (pss_one (ps_ret (pv 5)))))))))), ?_⟩
    unfold unitsRd at k
    refine ⟨_, rfl, _, _, _, _, rfl, .lst hu, k_list_list, _, rfl, iteN (by decide) ?_⟩
    refine ⟨_, rfl, lu, _, rfl, .inl (SqL.of hu), rfl, _, rfl, ?_⟩
    rw [List.length_map]
    by_cases h0 : us = []
    · rw [if_pos h0] at k
      refine iteP (by rw [h0]; decide) ?_
      exact ⟨_, rfl, by decide, fun d nd => k _ d (same_new nd) upd_same⟩
    rw [if_neg h0] at k
    refine iteN (by simp [h0]) ?_
    refine ⟨_, rfl, lu, us, rfl, hu, by omega, ?_⟩
    cases hrd : readN us (us.length + 1) 0 with
    | error e =>
      rw [hrd] at k
      exact k
    | ok ds =>
      rw [hrd] at k
      have hfar := readN_far _ _ _ hrd
      have k : RowsRes cNU (ledE ds 0 ds) H Q E := k
      intro lr G1 s1 nlr hR
      have hdl := readN_len _ _ _ hrd
      obtain ⟨qs, r1, r2, r3⟩ := id hR
      refine ⟨_, rfl, lr, ds, rfl, hR, by omega, fun lb G2 t2 nlb hlb => ?_⟩
      have s2 := s1.trans t2
      replace r1 := t2 _ _ r1
      refine fun pd npd => ?_
      have s3 := s2.trans (same_new (o := .dK []) npd)
      have npdH : H pd = none := s2.free npd
      have u3 := t2.trans (same_new (o := .dK []) npd)
      replace hlb := same_new (o := .dK []) npd _ _ hlb
      replace r1 := same_new (o := .dK []) npd _ _ r1
      have hpd : upd G2 pd (.dK []) pd = _ := upd_same
      generalize upd G2 pd (.dK []) = G3 at s3 u3 hlb r1 hpd ⊢
      have npdL : lb ≠ pd := fun z => by rw [z, hpd] at hlb; cases hlb
      have npdR : lr ≠ pd := fun z => by rw [z, hpd] at r1; cases r1
      have rdb : ∀ n : Nat, n ≤ ds.length → atI ((begs ds ds.length).map V.int) (n : Int) = some (.int (beg ds n)) := fun n hn => atI_nat (by rw [List.getElem?_map, begs_at hn]; rfl)
      refine ⟨_, rfl, lr, _, rfl, .inl (SqL.of r1), ?_⟩
      rw [List.length_map, r2]
      refine ⟨_, rfl, by omega, by omega, ?_⟩
      refine for_range (lo := 0) (n := ((ds.length : Nat) : Int).toNat) (fun i σ G => ∃ (v4 : Option V) (kvs : List (Key × V)), σ = [some (.ref lu), some (.ref lr), some (.ref lb), some (.ref pd), v4, none, none, none] ∧ Same H G ∧ G lb = some (.lst ((begs ds ds.length).map V.int)) ∧ G lr = some (.lst (qs.map V.ref)) ∧ (∀ (i : Nat) q d, qs[i]? = some q → ds[i]? = some d → RowF G q d) ∧ G pd = some (.dK kvs) ∧ (∀ x, valV kvs (Sum.inl x) = (plL ds i x).map fun r : Nat => V.int (r : Int)) ∧ kvs.length ≤ i) ?_ ?_ ?_
      · exact ⟨none, [], rfl, s3, hlb, r1, fun i q d a b => ((r3 i q d a b).same u3), hpd, fun x => rfl, Nat.le_refl _⟩
      · rintro i σ G hi ⟨v4, kvs, rfl, t4, hlb, r1, hrw, hpd, hval, hkl⟩
        have hi : i < ds.length := by rw [Int.toNat_natCast] at hi; exact hi
        have e0 : (0 : Int) + (i : Int) = (i : Int) := by omega
        rw [e0]
        refine ⟨_, rfl, _, rfl, _, rfl, _, rfl, lb, _, _, .int (beg ds i), rfl, rfl, SqL.of hlb, rdb i (by omega), pd, _, rfl, DPut.k (k := Sum.inl (beg ds i)) hpd (small_lt (by omega)), ?_⟩
        refine ⟨_, _, rfl, same_put t4 npdH, by rw [upd_ne npdL]; exact hlb, by rw [upd_ne npdR]; exact r1, fun j q d a b => ?_, upd_same, fun x => ?_, ?_⟩
        · have hq := hrw j q d a b
          have ne : ∀ (a : Addr) (ys : List V), G a = some (.tup ys) → a ≠ pd := fun a ys e z => by rw [z, hpd] at e; cases e
          refine ⟨hq.1, ?_⟩
          rcases hq.2 with ⟨a, b, p, e, h1, h2⟩ | ⟨a, h1⟩
          · exact .inl ⟨a, b, p, e, by rw [upd_ne (ne _ _ h1)]; exact h1, by rw [upd_ne (ne _ _ h2)]; exact h2⟩
          · exact .inr ⟨a, by rw [upd_ne (ne _ _ h1)]; exact h1⟩
        · rw [valV_put]
          show (if Sum.inl x = Sum.inl (beg ds i) then _ else _) = (if beg ds i = x then some i else plL ds i x).map _
          by_cases z : beg ds i = x
          · rw [if_pos z, if_pos (by rw [z])]
            rfl
          · rw [if_neg z, if_neg (fun y => z (Sum.inl.inj y).symm)]
            exact hval x
        · exact Nat.le_trans (length_putK _ _ _) (by omega)
      · rintro σ G ⟨v4, kvs, rfl, t4, hlb, r1, hrw, hpd, hval, hkl⟩
        rw [Int.toNat_natCast] at hval
        refine ⟨Nat.le_of_ble_eq_true rfl, fun la nla => ?_⟩
        have s5 := t4.trans (same_new (o := .lst []) nla)
        have nlaH : H la = none := t4.free nla
        have h5 : upd G la (.lst []) la = some (.lst (([] : List Addr).map V.ref)) := upd_same
        have nR : lr ≠ la := fun z => by rw [z, nla] at r1; cases r1
        have nB : lb ≠ la := fun z => by rw [z, nla] at hlb; cases hlb
        have nP : pd ≠ la := fun z => by rw [z, nla] at hpd; cases hpd
        have u5 := same_new (o := .lst []) nla
        replace hlb := u5 _ _ hlb
        replace r1 := u5 _ _ r1
        replace hpd := u5 _ _ hpd
        replace hrw : ∀ (i : Nat) q d, qs[i]? = some q → ds[i]? = some d → RowF (upd G la (.lst [])) q d := fun i q d a b => (hrw i q d a b).same u5
        clear u5
        generalize upd G la (.lst []) = G5 at s5 h5 hlb r1 hpd hrw ⊢
        refine ⟨_, rfl, lr, rfl, ⟨_, SqL.of r1⟩, for_enum (K := K) (xs := qs.map V.ref) (fun i σ G => ∃ (v4 v6 v7 : Option V) (ps : List Addr) (ms : List FR), σ = [some (.ref lu), some (.ref lr), some (.ref lb), some (.ref pd), v4, some (.ref la), v6, v7] ∧ Same H G ∧ Keep5 G5 G la ∧ G la = some (.lst (ps.map V.ref)) ∧ (ps.length = ms.length ∧ ∀ (j : Nat) q d, ps[j]? = some q → ms[j]? = some d → RowF G q d) ∧ ledE ds 0 ds = appD ms (ledE ds i (ds.drop i)) ∧ ms.length = i ∧ i ≤ ds.length) ?_ ?_ ?_ ?_⟩
        · refine ⟨_, none, none, [], [], rfl, s5, fun a o e n => e, h5, ⟨rfl, fun j q d g => by simp at g⟩, ?_, rfl, Nat.zero_le _⟩
          rw [List.drop_zero]
          cases ledE ds 0 ds <;> rfl
        · rintro i σ G' _ ⟨v4, v6, v7, ps, ms, rfl, t6, k6, _⟩
          exact SqL.of (k6 _ _ r1 nR)
        · rintro i x σ G' tt hx ntt ⟨v4, v6, v7, ps, ms, rfl, t6, k6, hla, hps, hled, hml, hid⟩
          rw [List.getElem?_map] at hx
          obtain ⟨q, hq, rfl⟩ := Option.map_eq_some_iff.mp hx
          have hil : i < ds.length := by have := (List.getElem?_eq_some_iff.mp hq).1; omega
          have hd : ds[i]? = some ds[i] := List.getElem?_eq_getElem hil
          have hdr : ds.drop i = ds[i] :: ds.drop (i + 1) := List.drop_eq_getElem_cons hil
          have hfd := hfar ds[i] (List.getElem_mem hil)
          generalize ds[i] = d at hd hdr hfd
          have hrow := hrw i q d hq hd
          have s7 := same_new (o := .tup [V.int i, V.ref q]) ntt
          have t7 := t6.trans s7
          have k7 : Keep5 G5 (upd G' tt (.tup [V.int i, V.ref q])) la := fun a o e n => s7 _ _ (k6 a o e n)
          have hla7 := s7 _ _ hla
          have hps7 : ∀ (j : Nat) q' d', ps[j]? = some q' → ms[j]? = some d' → RowF (upd G' tt (.tup [V.int i, V.ref q])) q' d' := fun j q' d' a b => (hps.2 j q' d' a b).same s7
          have htt : upd G' tt (.tup [V.int i, V.ref q]) tt = _ := upd_same
          generalize upd G' tt (.tup [V.int i, V.ref q]) = G7 at s7 t7 k7 hla7 hps7 htt ⊢
          refine ⟨tt, _, rfl, SqT.of htt, rfl, _, _, rfl, _, _, rfl, rfl, ?_⟩
          have hrow7 := hrow.keep k7 h5
          obtain ⟨items, i1, _, i3, _⟩ := hrow7.parts
          refine ⟨_, rfl, q, d.u, d.ts, rfl, ⟨items, i1, i3⟩, fun lt G8 s8 nlt hlt => ?_⟩
          refine ⟨lt, rfl, ⟨_, SqL.of hlt⟩, fun D nD => comp_list (K := K) (a := lt) (xs := d.ts.map V.int) (fun j σ ys Gx => ∃ v : Option V, σ = [v, some (.ref pd), some (.ref lb), some (.int (i : Int))] ∧ ys = ((ledT ds ds.length i d).take j).map ovI ∧ Same G8 Gx ∧ Gx D = some (.lst ys)) ?_ ?_ ?_ ?_⟩
          · exact ⟨none, rfl, rfl, same_new nD, upd_same⟩
          · rintro j σ ys Gx _ ⟨v, rfl, rfl, sx, _⟩
            exact SqL.of (sx _ _ hlt)
          · rintro j x σ ys Gx hx ⟨v, rfl, rfl, sx, hD⟩
            rw [List.getElem?_map] at hx
            obtain ⟨t, htj, rfl⟩ := Option.map_eq_some_iff.mp hx
            have hjl := (List.getElem?_eq_some_iff.mp htj).1
            have hpdx := sx _ _ (s8 _ _ (k7 _ _ hpd nP))
            have hlbx := sx _ _ (s8 _ _ (k7 _ _ hlb nB))
            have htj2 : (ledT ds ds.length i d)[j]? = some (plL ds ds.length (beg ds (i + 1) + t)) := by unfold ledT; rw [List.getElem?_map, htj]; rfl
            refine ⟨_, rfl, pd, rfl, .inl ⟨_, .inl hpdx⟩, _, rfl, _, rfl, _, _, rfl, rfl, lb, _, _, .int (beg ds (i + 1)), rfl, rfl, SqL.of hlbx, rdb (i + 1) (by omega), _, rfl, _, _, rfl, rfl, _, DGet.k (k := Sum.inl (beg ds (i + 1) + t)) hpdx, hD, small_lt (by rw [List.length_map, List.length_take]; have := hfd.2; omega), _, rfl, ?_, same_put sx nD, upd_same⟩
            rw [hval, getD_ov, List.take_add_one, htj2, List.map_append]
            rfl
          · rintro σ ys Gx ⟨v, rfl, rfl, sx, hD⟩
            rw [List.take_of_length_le (by unfold ledT; rw [List.length_map, List.length_map]; exact Nat.le_refl _)] at hD
            have sx' := s8.trans sx
            have kx : Keep5 G5 Gx la := fun a o e n => sx' _ _ (k7 a o e n)
            have tx := t7.trans sx'
            have hrowx := hrow7.same sx'
            have hlax := sx' _ _ hla7
            have hall : ((ledT ds ds.length i d).map ovI).all flatV = true := by
              rw [List.all_eq_true]
              intro y hy
              obtain ⟨o, _, rfl⟩ := List.mem_map.mp hy
              cases o <;> rfl
            rw [hdr] at hled
            have hbe : badR ds i d = true → ErrU cNU (beg ds i).toNat H E := fun z => by
              rw [led_err z] at hled
              rw [hled] at k
              exact k
            have hbp := beg_pos hfar i (by omega)
            refine ⟨_, rfl, D, _, rfl, .inl (SqL.of hD), rfl, hall, _, rfl, ?_⟩
            rw [show inV .non ((ledT ds ds.length i d).map ovI) = decide (none ∈ ledT ds ds.length i d) from inV_non _]
            have raise : badR ds i d = true → (beg ds i).natAbs < 10 ^ 12 ∧ ∀ dd, Gx dd = none → E (.ref cNU) (some dd) (upd Gx dd (.xd [("at", .int (beg ds i))])) := fun z => by
              refine ⟨by omega, fun dd nd => hbe z _ dd (tx.trans (same_new nd)) ?_⟩
              rw [upd_same, show (((beg ds i).toNat : Nat) : Int) = beg ds i by omega]
            have good : badR ds i d = false → ∀ (p : Addr) (Gy : Hp), Same Gx Gy → RowF Gy p (ledR ds i d) → ∃ (v4 v6 v7 : Option V) (ps' : List Addr) (ms' : List FR), ([some (.ref lu), some (.ref lr), some (.ref lb), some (.ref pd), some (.int (i : Int)), some (.ref la), some (.ref q), some (.ref D)] : St) = [some (.ref lu), some (.ref lr), some (.ref lb), some (.ref pd), v4, some (.ref la), v6, v7] ∧ Same H (upd Gy la (.lst ((ps ++ [p]).map V.ref))) ∧ Keep5 G5 (upd Gy la (.lst ((ps ++ [p]).map V.ref))) la ∧ upd Gy la (.lst ((ps ++ [p]).map V.ref)) la = some (.lst (ps'.map V.ref)) ∧ (ps'.length = ms'.length ∧ ∀ (j : Nat) q d, ps'[j]? = some q → ms'[j]? = some d → RowF (upd Gy la (.lst ((ps ++ [p]).map V.ref))) q d) ∧ ledE ds 0 ds = appD ms' (ledE ds (i + 1) (ds.drop (i + 1))) ∧ ms'.length = i + 1 ∧ i + 1 ≤ ds.length := fun z p Gy sy hp => by
              rw [led_ok z] at hled
              have hlay := sy _ _ hlax
              refine ⟨_, _, _, ps ++ [p], ms ++ [ledR ds i d], rfl, same_put (tx.trans sy) nlaH, fun a o e n => by rw [upd_ne n]; exact sy _ _ (kx a o e n), upd_same, ⟨by rw [List.length_append, List.length_append, hps.1]; rfl, fun j q' d' g1 g2 => ?_⟩, hled, by rw [List.length_append, hml]; rfl, by omega⟩
              by_cases hj : j < ps.length
              · rw [List.getElem?_append_left hj] at g1
                rw [List.getElem?_append_left (by rw [← hps.1]; exact hj)] at g2
                exact (((hps7 j q' d' g1 g2).same sx').same sy).put hlay
              · have h9 := (List.getElem?_eq_some_iff.mp g1).1
                rw [List.length_append, List.length_singleton] at h9
                have ei : j = ps.length := by omega
                subst ei
                rw [show (ps ++ [p])[ps.length]? = some p by simp] at g1
                rw [hps.1, show (ms ++ [ledR ds i d])[ms.length]? = some (ledR ds i d) by simp] at g2
                cases g1
                cases g2
                exact hp.put hlay
            by_cases hno : none ∈ ledT ds ds.length i d
            · refine iteP (decide_eq_true hno) ?_
              obtain ⟨rb, rk⟩ := raise (by unfold badR; rw [decide_eq_true hno]; rfl)
              exact iteP rfl ⟨_, rfl, _, rfl, lb, _, _, .int (beg ds i), rfl, rfl, SqL.of (kx _ _ hlb nB), rdb i (by omega), _, rfl, rb, rk⟩
            · refine iteN (fun z => hno (of_decide_eq_true z)) ?_
              refine ⟨_, rfl, _, rfl, lr, _, rfl, .inl (SqL.of (kx _ _ r1 nR)), _, _, rfl, rfl, rfl, _, rfl, ?_⟩
              rw [List.length_map, r2]
              by_cases hlast : i + 1 = ds.length
              · refine iteP (decide_eq_true (by show V.int (i : Int) = V.int (((ds.length : Nat) : Int) - 1); congr 1; omega)) ?_
                refine ⟨_, rfl, q, d, rfl, hrowx, _, rfl, ?_⟩
                by_cases hon : d.u ∈ notOn
                · have hbf : badR ds i d = false := by unfold badR; rw [decide_eq_false hno, decide_eq_true hon]; simp
                  refine iteN (by rw [decide_eq_true hon]; decide) ?_
                  refine ⟨_, rfl, .inl ⟨rfl, _, SqL.of hlax⟩, _, rfl, _, rfl, q, D, d, (ledT ds ds.length i d).map (fun o => ((o.getD 0 : Nat) : Int)), rfl, hrowx, by rw [hD, ov_ints hno], by unfold ledT; rw [List.length_map, List.length_map], fun p Gy sy hp => ⟨la, _, _, rfl, rfl, sy _ _ hlax, small_lt (by rw [List.length_map, hps.1]; omega), ?_⟩⟩
                  rw [show ps.map V.ref ++ [V.ref p] = (ps ++ [p]).map V.ref by rw [List.map_append]; rfl]
                  exact good hbf p Gy sy hp
                · obtain ⟨rb, rk⟩ := raise (by unfold badR; rw [decide_eq_true hlast, decide_eq_false hon]; simp)
                  refine iteP (by rw [decide_eq_false hon]; rfl) ?_
                  exact ⟨_, rfl, _, rfl, lb, _, _, .int (beg ds i), rfl, rfl, SqL.of (kx _ _ hlb nB), rdb i (by omega), _, rfl, rb, rk⟩
              · have hbf : badR ds i d = false := by unfold badR; rw [decide_eq_false hno, decide_eq_false hlast]; rfl
                refine iteN (fun z => hlast (by have := V.int.inj (of_decide_eq_true z); omega)) ?_
                refine ⟨_, rfl, .inl ⟨rfl, _, SqL.of hlax⟩, _, rfl, _, rfl, q, D, d, (ledT ds ds.length i d).map (fun o => ((o.getD 0 : Nat) : Int)), rfl, hrowx, by rw [hD, ov_ints hno], by unfold ledT; rw [List.length_map, List.length_map], fun p Gy sy hp => ⟨la, _, _, rfl, rfl, sy _ _ hlax, small_lt (by rw [List.length_map, hps.1]; omega), ?_⟩⟩
                rw [show ps.map V.ref ++ [V.ref p] = (ps ++ [p]).map V.ref by rw [List.map_append]; rfl]
                exact good hbf p Gy sy hp
        · rintro σ G' ⟨v4, v6, v7, ps, ms, rfl, t6, k6, hla, hps, hled, hml, hid⟩
          rw [List.length_map, r2, List.drop_length] at hled
          have hled : ledE ds 0 ds = .ok ms := by rw [hled]; show Except.ok (ms ++ []) = _; rw [List.append_nil]
          rw [hled] at k
          exact ⟨_, rfl, k la _ t6 nlaH ⟨ps, hla, hps.1, hps.2⟩⟩
end
end My


set_option Elab.async false
set_option linter.all false
set_option maxRecDepth 100000
set_option maxHeartbeats 4000000
namespace My
open PySem L2
def ovZ : Option Int → V
  | none => .non
  | some x => .int x
def loB (n : Int) : Option Int → Bool
  | none => true
  | some x => decide (x ≤ n)
def hiB (n : Int) : Option Int → Bool
  | none => true
  | some x => decide (n ≤ x)
def wholeB (n : Int) (lo hi : Option Int) : Bool := loB n lo && hiB n hi
def NextRes (r : Except Nat FR) (at_ : Nat) (H : Hp) (Q : VK) : Prop := match r with
  | .ok d => ∀ (p t : Addr) (H' : Hp), Same H H' → RowF H' p d → H' t = some (.tup [.ref p, .int ((at_ : Int) + szF d)]) → Q (.ref t) H'
  | .error e => ∀ (t : Addr) (H' : Hp), Same H H' → H' t = some (.tup [.non, .int (e : Int)]) → Q (.ref t) H'
theorem cut_two (xs : List V) (a b : Nat) (h1 : a ≤ b) (h2 : b ≤ xs.length) : cutV xs (some (a : Int)) (some (b : Int)) = (xs.drop a).take (b - a) := by
  unfold cutV
  have e1 : HT.sIx xs.length 0 (some (a : Int)) = min a xs.length := HT.sIx_nat ..
  have e2 : HT.sIx xs.length xs.length (some (b : Int)) = min b xs.length := HT.sIx_nat ..
  rw [e1, e2, Nat.min_eq_left h2, Nat.min_eq_left (Nat.le_trans h1 h2)]
section
variable {P : Program} {w : World} {K : PySem.W.Frag} {mg : Str → Option Value} {base : Heap}
def spLWhole : Sp := fun vs H Q _ => ∃ (n : Int) (lo hi : Option Int), vs = [.int n, ovZ lo, ovZ hi] ∧ Q (.bl (wholeB n lo hi)) H
theorem scLwh : FnScope ["_law_unit_here", "_law_least", "_law_most"] ["_law_unit_here", "_law_least", "_law_most"] (defScope sLWhole) := ⟨rfl, rfl, rfl, by decide +kernel, rfl, by decide +kernel, by decide +kernel⟩
theorem ok_lwhole {f : Addr} {fd : FuncData} (F : Fun K "_law_whole" "_law_whole" sLWhole f fd) (T : Txt K w.params mg) : FnOk P w K mg base CX0 1 f fd ["_law_unit_here", "_law_least", "_law_most"] spLWhole := by
  refine F.ok scLwh (fun vs H Q E h => ?_) (fun cdv A outer s H vs Q E hr h => ?_)
  · obtain ⟨n, lo, hi, rfl, _⟩ := h
    rfl
  · obtain ⟨n, lo, hi, rfl, k⟩ := h
    refine wrapX (pssx_cons (psx_if (pw_or (pt_not (pt_val (pe_callB call_isinst (by rfl) T.isi bt_isi (pa_cons (pv 0) (pa_cons (pe_bltn (v := .ty "int") (by rfl) T.int bt_int rfl) pa_nil))))) (pw_or1 (pt_val (pe_callB call_isinst (by rfl) T.isi bt_isi (pa_cons (pv 0) (pa_cons (pe_bltn (v := .ty "bool") (by rfl) T.bool bt_bool rfl) pa_nil)))))).pt (pssx_one (psx_of (ps_ret pe_bl))) (pssx_nil pss_nil))
      (pssx_one (psx_of (ps_ret (pe_and (pe_or (pe_cmpR op_isN (pv 1) pe_non (nomark _)) (pe_one (pe_cmpR op_ge (pv 0) (pv 1) (nomark _)))) (pe_one (pe_or (pe_cmpR op_isN (pv 2) pe_non (nomark _)) (pe_one (pe_cmpR op_le (pv 0) (pv 2) (nomark _)))))))))) ?_
    refine ⟨_, rfl, _, _, _, _, rfl, .int _, k_int_int, _, rfl, iteN (by decide) ?_⟩
    refine ⟨_, rfl, _, _, _, _, rfl, .int _, k_int_bool, _, rfl, iteN (by decide) ?_⟩
    unfold wholeB at k
    cases lo with
    | none =>
      refine ⟨_, rfl, rfl, _, rfl, iteP rfl ⟨_, rfl, iteP rfl ?_⟩⟩
      cases hi with
      | none => exact ⟨_, rfl, rfl, _, rfl, iteP rfl k⟩
      | some y => exact ⟨_, rfl, rfl, _, rfl, iteN (by simp [ovZ]) ⟨_, rfl, _, rfl, _, _, rfl, rfl, k⟩⟩
    | some x =>
      refine ⟨_, rfl, rfl, _, rfl, iteN (by simp [ovZ]) ⟨_, rfl, _, rfl, _, _, rfl, rfl, _, rfl, ?_⟩⟩
      have k : Q (.bl (decide (x ≤ n) && hiB n hi)) H := k
      refine ite2 (fun e => ?_) (fun e => ?_)
      · have e : decide (x ≤ n) = true := e
        rw [e] at k
        cases hi with
        | none => exact ⟨_, rfl, rfl, _, rfl, iteP rfl k⟩
        | some y => exact ⟨_, rfl, rfl, _, rfl, iteN (by simp [ovZ]) ⟨_, rfl, _, rfl, _, _, rfl, rfl, k⟩⟩
      · have e : decide (x ≤ n) = false := Bool.eq_false_iff.mpr e
        rw [e] at k
        exact k
/-! ### _law_table -/
def spLTable : Sp := fun vs H Q _ => ∃ (lu : Addr) (us : List Int) (at_ : Nat) (a : Int), vs = [.ref lu, .int (at_ : Int), .int a] ∧ H lu = some (.lst (us.map V.int)) ∧ us.length ≤ 1000000 ∧ at_ + 1 < us.length ∧ NextRes (tabAt us at_ a) at_ H Q
theorem scLta : FnScope ["_law_units", "_law_at", "_law_box", "_law_k", "_law_behind"] ["_law_units", "_law_at", "_law_box"] (defScope sLTable) := ⟨rfl, rfl, rfl, by decide +kernel, rfl, by decide +kernel, by decide +kernel⟩
theorem ok_ltable {f fW : Addr} {fd fdW : FuncData} (F : Fun K "_law_table" "_law_table" sLTable f fd) (T : Txt K w.params mg) (GW : FnOk P w K mg base CX0 1 fW fdW ["_law_unit_here", "_law_least", "_law_most"] spLWhole) (kW : PySem.W.keepIn K (.ref fW) = true) (bW : Binds K fdW ["_law_unit_here", "_law_least", "_law_most"] []) (mW : mg "_law_whole" = some (.ref fW)) : FnOk P w K mg base CX0 2 f fd ["_law_units", "_law_at", "_law_box"] spLTable := by
  refine F.ok scLta (fun vs H Q E h => ?_) (fun cdv A outer s H vs Q E hr h => ?_)
  · obtain ⟨lu, us, at_, a, rfl, _⟩ := h
    rfl
  · obtain ⟨lu, us, at_, a, rfl, hu, hl, ha, k⟩ := h
    have hn : us[at_ + 1]? = some us[at_ + 1] := List.getElem?_eq_getElem ha
    generalize us[at_ + 1] = n at hn
    have hat : atI (us.map V.int) ((at_ : Int) + 1) = some (.int n) := atI_nat (j := at_ + 1) (by rw [List.getElem?_map, hn]; rfl)
    unfold tabAt at k
    rw [hn] at k
    have k : NextRes (if 1 ≤ n ∧ n ≤ 16 then (if us.length < at_ + 2 + n.toNat then .error us.length else .ok ⟨"table", [a], (us.drop (at_ + 2)).take n.toNat⟩) else .error (at_ + 1)) at_ H Q := k
    refine wrapX (pssx_cons (psx_if (pt_not (pt_val (pe_call GW hr (by rfl) mW kW bW .nil pass0 (pa_cons (pe_ix ix_list (pv 0) (pe_op op_add (pv 1) pe_int) (fun _ _ => rfl)) (pa_cons pe_int (pa_cons pe_int pa_nil)))))) (pssx_one (psx_of (ps_ret (pe_tup (pa_cons pe_non (pa_cons (pe_op op_add (pv 1) pe_int) pa_nil)))))) (pssx_nil pss_nil))
      (pssx_cons (psx_of (ps_for PassesOwn.never rfl (pi_range1 rfl T.range (pa_cons (pe_ix ix_list (pv 0) (pe_op op_add (pv 1) pe_int) (fun _ _ => rfl)) pa_nil)) (pg_name (i := 3) scLta.nd rfl (Or.inl rfl)) (pss_one (ps_if (pw_or (pt_cmpR op_ge (pe_op op_add (pe_op op_add (pv 1) pe_int) (pv 3)) (pe_callB call_len_seq (by rfl) T.len bt_len (pa_cons (pv 0) pa_nil)) (nomark _)) (pw_or1 (pt_not (pt_val (pe_call GW hr (by rfl) mW kW bW .nil pass0 (pa_cons (pe_ix ix_list (pv 0) (pe_op op_add (pe_op op_add (pv 1) pe_int) (pv 3)) (fun _ _ => rfl)) (pa_cons pe_non (pa_cons pe_non pa_nil)))))))).pt (pss_one (ps_ret (pe_tup (pa_cons pe_non (pa_cons (pe_op op_add (pe_op op_add (pv 1) pe_int) (pv 3)) pa_nil))))) pss_nil))))
      (pssx_cons (psx_of (ps_set (i := 4) scLta.nd rfl (Or.inl rfl) (pe_op op_add (pe_op op_add (pv 1) pe_int) (pe_ix ix_list (pv 0) (pe_op op_add (pv 1) pe_int) (fun _ _ => rfl)))))
      (pssx_one (psx_of (ps_ret (pe_tup (pa_cons (pe_tup (pa_cons pe_str (pa_cons (pv 2) (pa_cons (pe_callTy call_tuple_of (by rfl) T.tuple bt_tuple (pa_cons (pe_slice sl_list (pv 0) (po_some (pe_op op_add (pv 1) pe_int)) (po_some (pv 4))) pa_nil)) pa_nil)))) (pa_cons (pv 4) pa_nil))))))))) ?_
    refine ⟨_, rfl, _, rfl, _, _, rfl, rfl, lu, _, _, .int n, rfl, rfl, SqL.of hu, hat, n, some 1, some 16, rfl, _, rfl, ?_⟩
    by_cases hb : 1 ≤ n ∧ n ≤ 16
    · refine iteN (by unfold wholeB loB hiB; simp [hb.1, hb.2]) ?_
      rw [if_pos hb] at k
      refine ⟨_, rfl, _, rfl, _, _, rfl, rfl, lu, _, _, .int n, rfl, rfl, SqL.of hu, hat, ?_⟩
      refine ⟨_, rfl, by omega, by omega, ?_⟩
      refine for_range (lo := 0) (n := n.toNat) (fun i σ G => ∃ v : Option V, σ = [some (.ref lu), some (.int (at_ : Int)), some (.int a), v, none] ∧ G = H ∧ at_ + 2 + i ≤ us.length) ?_ ?_ ?_
      · exact ⟨none, rfl, rfl, by omega⟩
      · rintro i σ G hi ⟨v, rfl, hG, hle⟩
        subst hG
        have e0 : (0 : Int) + (i : Int) = (i : Int) := by omega
        rw [e0]
        refine ⟨_, rfl, _, _, rfl, rfl, _, rfl, _, _, rfl, rfl, _, rfl, lu, _, rfl, .inl (SqL.of hu), _, _, rfl, rfl, _, rfl, ?_⟩
        rw [List.length_map]
        by_cases hge : us.length ≤ at_ + 2 + i
        · refine iteP (decide_eq_true (by omega)) ?_
          rw [if_pos (by omega)] at k
          have k : ∀ (t : Addr) (H' : Hp), Same G H' → H' t = some (.tup [.non, .int ((us.length : Nat) : Int)]) → Q (.ref t) H' := k
          refine iteP rfl ⟨_, rfl, _, _, rfl, rfl, _, rfl, _, _, rfl, rfl, (by show 2 ≤ sizeLine; decide), fun t nt => k t _ (same_new nt) ?_⟩
          rw [upd_same]
          show some (HO.tup [V.non, V.int ((at_ : Int) + 2 + (i : Int))]) = _
          congr 5
          omega
        · refine iteN (fun z => hge (by have := of_decide_eq_true z; omega)) ?_
          have hx : us[at_ + 2 + i]? = some (us[at_ + 2 + i]'(by omega)) := List.getElem?_eq_getElem _
          generalize us[at_ + 2 + i]'(by omega) = x at hx
          refine ⟨_, rfl, _, rfl, _, _, rfl, rfl, _, rfl, _, _, rfl, rfl, lu, _, _, .int x, rfl, rfl, SqL.of hu, atI_nat (j := at_ + 2 + i) (by rw [List.getElem?_map, hx]; rfl), x, none, none, rfl, _, rfl, iteN (by unfold wholeB loB hiB; simp) ?_⟩
          exact ⟨_, rfl, rfl, by omega⟩
      · rintro σ G ⟨v, rfl, hG, hle⟩
        subst hG
        rw [if_neg (by omega)] at k
        refine ⟨_, rfl, _, _, rfl, rfl, _, rfl, _, rfl, _, _, rfl, rfl, lu, _, _, .int n, rfl, rfl, SqL.of hu, hat, _, _, rfl, rfl, ?_⟩
        have hc : cutV (us.map V.int) (some ((at_ : Int) + 2)) (some ((at_ : Int) + 2 + n)) = ((us.drop (at_ + 2)).take n.toNat).map V.int := by
          have := cut_two (us.map V.int) (at_ + 2) (at_ + 2 + n.toNat) (by omega) (by rw [List.length_map]; omega)
          rw [show ((at_ + 2 + n.toNat : Nat) : Int) = (at_ : Int) + 2 + n by omega, Nat.add_sub_cancel_left, ← List.map_drop, ← List.map_take] at this
          exact this
        refine ⟨_, rfl, _, rfl, _, rfl, _, _, rfl, rfl, _, rfl, _, rfl, _, rfl, lu, _, rfl, SqL.of hu, fun lc nc => ?_⟩
        rw [hc]
        refine ⟨lc, _, rfl, .inl ⟨SqL.of upd_same, fun tt ntt => ⟨(by show 3 ≤ sizeLine; decide), fun p np => ⟨_, rfl, (by show 2 ≤ sizeLine; decide), fun t nt => ?_⟩⟩⟩⟩
        have k : ∀ (p t : Addr) (H' : Hp), Same G H' → RowF H' p ⟨"table", [a], (us.drop (at_ + 2)).take n.toNat⟩ → H' t = some (.tup [.ref p, .int ((at_ : Int) + szF ⟨"table", [a], (us.drop (at_ + 2)).take n.toNat⟩)]) → Q (.ref t) H' := k
        refine k p t _ (((same_new nc).trans (same_new ntt)).trans ((same_new np).trans (same_new nt))) ((row_table upd_same (same_new np _ _ upd_same)).same (same_new nt)) ?_
        rw [upd_same]
        have hsz : szF ⟨"table", [a], (us.drop (at_ + 2)).take n.toNat⟩ = 2 + n := by
          show (2 : Int) + (((us.drop (at_ + 2)).take n.toNat).length : Nat) = 2 + n
          rw [List.length_take, List.length_drop]
          omega
        rw [hsz]
        show some (HO.tup [V.ref p, V.int ((at_ : Int) + 2 + n)]) = some (HO.tup [V.ref p, V.int ((at_ : Int) + (2 + n))])
        rw [Int.add_assoc]
    · refine iteP (by unfold wholeB loB hiB; simp; omega) ?_
      rw [if_neg hb] at k
      have k : ∀ (t : Addr) (H' : Hp), Same H H' → H' t = some (.tup [.non, .int ((at_ + 1 : Nat) : Int)]) → Q (.ref t) H' := k
      exact ⟨_, rfl, _, _, rfl, rfl, (by show 2 ≤ sizeLine; decide), fun t nt => k t _ (same_new nt) upd_same⟩
end
end My


set_option Elab.async false
set_option linter.all false
set_option maxRecDepth 100000
set_option maxHeartbeats 4000000
namespace My
open PySem L2
theorem pei_of {X : Cx} {e : Expr} {t : TE} (h : PE X e t) : PEi X e t := by
  unfold PEi
  exact h
theorem pei_op {X : Cx} {a b : Expr} {op : Operator} {ta tb : TE} {pos : Pos} {r : R2} (hr : OpR X (binaryOp op) r) (ha : PEi X a ta) (hb : PEi X b tb) : PEi X (.BinOp a op b pos) (tOp r ta tb) := by
  unfold PEi at ha hb ⊢
  exact pe_op hr ha hb
def n6 : List Str := ["stop", "back", "halt", "jump", "call", "mark"]
def mostF (h : Str × Int) : Int := 127 * (if (decide (h.1 ∈ five) && decide (h.2 = 0)) = true then 1 else 0) + 7 * (if decide (h.1 ∈ w2) = true then 1 else 0)
theorem head_facts : ∀ h ∈ heads, ((ksOf h.1).count ("box" : Str) = 0 ↔ h.1 ∈ n6) ∧ ((ksOf h.1).count ("box" : Str) = 2 ↔ h.1 ∈ w2) ∧ (h.1 ∈ w2 → ¬ h.1 ∈ five ∧ ¬ h.1 ∈ n6) := by decide +kernel
theorem fits_eq {h : Str × Int} (hm : h ∈ heads) {a low : Int} (ha : 0 ≤ a) (hl : 0 ≤ low) (hl2 : low ≤ 127) : fits h a low = (!(decide (h.1 ∈ n6) && decide (0 < a)) && decide (low ≤ mostF h)) := by
  obtain ⟨f1, f2, f3⟩ := head_facts h hm
  unfold fits mostF
  by_cases h6 : h.1 ∈ n6
  · by_cases ha0 : a = 0
    · have hw : ¬ h.1 ∈ w2 := fun z => (f3 z).2 h6
      rw [if_neg (fun z => z.2 ha0), if_neg (fun z => hw (f2.mp z)), decide_eq_false hw, ha0]
      by_cases h5 : h.1 ∈ five <;> by_cases hz : h.2 = 0 <;> simp [h5, hz] <;> omega
    · rw [if_pos ⟨f1.mpr h6, ha0⟩, decide_eq_true h6, decide_eq_true (show 0 < a by omega)]
      rfl
  · rw [if_neg (fun z => h6 (f1.mp z.1)), decide_eq_false h6]
    by_cases hw : h.1 ∈ w2
    · rw [if_pos (f2.mpr hw), decide_eq_true hw, decide_eq_false (f3 hw).1]
      simp
      omega
    · rw [if_neg (fun z => hw (f2.mp z)), decide_eq_false hw]
      by_cases h5 : h.1 ∈ five <;> by_cases hz : h.2 = 0 <;> simp [h5, hz] <;> omega
def headU (u : Int) : Option ((Str × Int) × Int × Int) := if 0 ≤ u ∧ u < 25600 then (match heads[(u / 1024).toNat]? with
  | none => none
  | some h => if fits h (u % 1024 / 128) (u % 128) = true then some (h, u % 1024 / 128, u % 128) else none) else none
def FirstRes (r : Option ((Str × Int) × Int × Int)) (H : Hp) (Q : VK) : Prop := match r with
  | none => ∀ H', Same H H' → Q .non H'
  | some (h, a, low) => ∀ (t : Addr) (H' : Hp), Same H H' → H' t = some (.tup [.str h.1, .int a, .int low, .int h.2]) → Q (.ref t) H'
theorem words_at : ∀ i : Nat, i < 25 → ∀ h, heads[i]? = some h → ((["stop", "back", "halt", "set", "more", "copy", "add", "less", "load", "keep", "tell", "see", "put", "take"] : List Str) ++ (["jump", "zero", "below", "call", "mark", "table", "jump", "zero", "below", "call", "mark"] : List Str))[i]? = some h.1 ∧ h.2 = (if 19 < i then 1 else 0) := by
  have key : ∀ i ∈ List.range 25, (heads[i]?).all (fun h => decide (((["stop", "back", "halt", "set", "more", "copy", "add", "less", "load", "keep", "tell", "see", "put", "take"] : List Str) ++ (["jump", "zero", "below", "call", "mark", "table", "jump", "zero", "below", "call", "mark"] : List Str))[i]? = some h.1) && decide (h.2 = (if 19 < i then 1 else 0))) = true := by decide +kernel
  intro i hi h hh
  have := key i (List.mem_range.mpr hi)
  rw [hh] at this
  have this : (decide (((["stop", "back", "halt", "set", "more", "copy", "add", "less", "load", "keep", "tell", "see", "put", "take"] : List Str) ++ (["jump", "zero", "below", "call", "mark", "table", "jump", "zero", "below", "call", "mark"] : List Str))[i]? = some h.1) && decide (h.2 = (if 19 < i then 1 else 0))) = true := this
  rw [Bool.and_eq_true] at this
  exact ⟨of_decide_eq_true this.1, of_decide_eq_true this.2⟩
section
variable {P : Program} {w : World} {K : PySem.W.Frag} {mg : Str → Option Value} {base : Heap}
def spLFirst : Sp := fun vs H Q _ => ∃ u : Int, vs = [.int u] ∧ FirstRes (headU u) H Q
theorem scLfi : FnScope ["_law_unit_here", "_law_words", "_law_word", "_law_far", "_law_box", "_law_low", "_law_most"] ["_law_unit_here"] (defScope sLFirst) := ⟨rfl, rfl, rfl, by decide +kernel, rfl, by decide +kernel, by decide +kernel⟩
theorem ok_lfirst {f fW : Addr} {fd fdW : FuncData} (F : Fun K "_law_first" "_law_first" sLFirst f fd) (T : Txt K w.params mg) (GW : FnOk P w K mg base CX0 1 fW fdW ["_law_unit_here", "_law_least", "_law_most"] spLWhole) (kW : PySem.W.keepIn K (.ref fW) = true) (bW : Binds K fdW ["_law_unit_here", "_law_least", "_law_most"] []) (mW : mg "_law_whole" = some (.ref fW)) : FnOk P w K mg base CX0 2 f fd ["_law_unit_here"] spLFirst := by
  refine F.ok scLfi (fun vs H Q E h => ?_) (fun cdv A outer s H vs Q E hr h => ?_)
  · obtain ⟨u, rfl, _⟩ := h
    rfl
  · obtain ⟨u, rfl, k⟩ := h
    refine wrapX (pssx_cons (psx_of_i (psi_set (i := 1) scLfi.nd rfl (Or.inl rfl) (pei_lst (.cons pe_str (.cons pe_str (.cons pe_str (.cons pe_str (.cons pe_str (.cons pe_str (.cons pe_str (.cons pe_str (.cons pe_str (.cons pe_str (.cons pe_str (.cons pe_str (.cons pe_str (.cons pe_str .nil)))))))))))))))))
      (pssx_cons (psx_of_i (psi_set (i := 1) scLfi.nd rfl (Or.inl rfl) (pei_op op_cat (pei_of (pv 1)) (pei_lst (.cons pe_str (.cons pe_str (.cons pe_str (.cons pe_str (.cons pe_str (.cons pe_str (.cons pe_str (.cons pe_str (.cons pe_str (.cons pe_str (.cons pe_str .nil)))))))))))))))
      (pssx_cons (psx_if (pt_not (pt_val (pe_call GW hr (by rfl) mW kW bW .nil pass0 (pa_cons (pv 0) (pa_cons pe_int (pa_cons (pe_op op_sub (pe_op op_mul pe_int pe_int) pe_int) pa_nil)))))) (pssx_one (psx_of (ps_ret pe_non))) (pssx_nil pss_nil))
      (pssx_cons (psx_of (ps_set (i := 2) scLfi.nd rfl (Or.inl rfl) (pe_ix ix_list (pv 1) (pe_op op_fdivB (pv 0) pe_int) (fun _ _ => rfl))))
      (pssx_cons (psx_of (ps_set (i := 3) scLfi.nd rfl (Or.inl rfl) (pe_callTy call_int1 (by rfl) T.int bt_int (pa_cons (pe_cmpR op_gt (pe_op op_fdivB (pv 0) pe_int) pe_int (nomark _)) pa_nil))))
      (pssx_cons (psx_of (ps_set (i := 4) scLfi.nd rfl (Or.inl rfl) (pe_op op_mod (pe_op op_fdivB (pv 0) pe_int) pe_int)))
      (pssx_cons (psx_of (ps_set (i := 5) scLfi.nd rfl (Or.inl rfl) (pe_op op_mod (pv 0) pe_int)))
      (pssx_cons (psx_if (pw_and (pt_cmpR op_in_seq (pv 2) (pe_tupS (.cons pe_str (.cons pe_str (.cons pe_str (.cons pe_str (.cons pe_str (.cons pe_str .nil))))))) rfl) (pw_and1 (pt_cmpR op_gt (pv 4) pe_int (nomark _)))).pt (pssx_one (psx_of (ps_ret pe_non))) (pssx_nil pss_nil))
      (pssx_cons (psx_of (ps_set (i := 6) scLfi.nd rfl (Or.inl rfl) (pe_op op_mul pe_int (pe_callTy call_int1 (by rfl) T.int bt_int (pa_cons (pe_mid (pe_and (pe_cmpR op_in_seq (pv 2) (pe_tupS (.cons pe_str (.cons pe_str (.cons pe_str (.cons pe_str (.cons pe_str .nil)))))) rfl) (pe_one (pe_cmpR op_eq (pv 3) pe_int (nomark _))))) pa_nil)))))
      (pssx_cons (psx_of (ps_set (i := 6) scLfi.nd rfl (Or.inl rfl) (pe_op op_add (pv 6) (pe_op op_mul pe_int (pe_callTy call_int1 (by rfl) T.int bt_int (pa_cons (pe_cmpR op_in_seq (pv 2) (pe_tupS (.cons pe_str (.cons pe_str (.cons pe_str (.cons pe_str (.cons pe_str .nil)))))) rfl) pa_nil))))))
      (pssx_one (psx_of (ps_ret (pe_ix ix_list (pe_lst (pa_cons pe_non (pa_cons (pe_tup (pa_cons (pv 2) (pa_cons (pv 4) (pa_cons (pv 5) (pa_cons (pv 3) pa_nil))))) pa_nil))) (pe_callTy call_int1 (by rfl) T.int bt_int (pa_cons (pe_cmpR op_le (pv 5) (pv 6) (nomark _)) pa_nil)) (fun _ _ => rfl))))))))))))))) ?_
    refine ⟨(by show 14 ≤ sizeLine; decide), fun la nla => ?_⟩
    have s1 := same_new (o := .lst [V.str "stop", V.str "back", V.str "halt", V.str "set", V.str "more", V.str "copy", V.str "add", V.str "less", V.str "load", V.str "keep", V.str "tell", V.str "see", V.str "put", V.str "take"]) nla
    have h1 : upd H la (.lst [V.str "stop", V.str "back", V.str "halt", V.str "set", V.str "more", V.str "copy", V.str "add", V.str "less", V.str "load", V.str "keep", V.str "tell", V.str "see", V.str "put", V.str "take"]) la = some (.lst ((["stop", "back", "halt", "set", "more", "copy", "add", "less", "load", "keep", "tell", "see", "put", "take"] : List Str).map V.str)) := upd_same
    generalize upd H la (.lst [V.str "stop", V.str "back", V.str "halt", V.str "set", V.str "more", V.str "copy", V.str "add", V.str "less", V.str "load", V.str "keep", V.str "tell", V.str "see", V.str "put", V.str "take"]) = G1 at s1 h1 ⊢
    refine ⟨_, rfl, (by show 11 ≤ sizeLine; decide), fun lb nlb => ?_⟩
    have s2 := s1.trans (same_new (o := .lst [V.str "jump", V.str "zero", V.str "below", V.str "call", V.str "mark", V.str "table", V.str "jump", V.str "zero", V.str "below", V.str "call", V.str "mark"]) nlb)
    have h12 := same_new (o := .lst [V.str "jump", V.str "zero", V.str "below", V.str "call", V.str "mark", V.str "table", V.str "jump", V.str "zero", V.str "below", V.str "call", V.str "mark"]) nlb _ _ h1
    have h2 : upd G1 lb (.lst [V.str "jump", V.str "zero", V.str "below", V.str "call", V.str "mark", V.str "table", V.str "jump", V.str "zero", V.str "below", V.str "call", V.str "mark"]) lb = some (.lst ((["jump", "zero", "below", "call", "mark", "table", "jump", "zero", "below", "call", "mark"] : List Str).map V.str)) := upd_same
    generalize upd G1 lb (.lst [V.str "jump", V.str "zero", V.str "below", V.str "call", V.str "mark", V.str "table", V.str "jump", V.str "zero", V.str "below", V.str "call", V.str "mark"]) = G2 at s2 h12 h2 ⊢
    refine ⟨la, lb, _, _, rfl, rfl, h12, h2, (by show 25 ≤ sizeLine; decide), fun lc nlc => ?_⟩
    rw [← List.map_append]
    have s3 := s2.trans (same_new (o := .lst (((["stop", "back", "halt", "set", "more", "copy", "add", "less", "load", "keep", "tell", "see", "put", "take"] : List Str) ++ (["jump", "zero", "below", "call", "mark", "table", "jump", "zero", "below", "call", "mark"] : List Str)).map V.str)) nlc)
    have h3 : upd G2 lc (.lst (((["stop", "back", "halt", "set", "more", "copy", "add", "less", "load", "keep", "tell", "see", "put", "take"] : List Str) ++ (["jump", "zero", "below", "call", "mark", "table", "jump", "zero", "below", "call", "mark"] : List Str)).map V.str)) lc = _ := upd_same
    generalize upd G2 lc (.lst (((["stop", "back", "halt", "set", "more", "copy", "add", "less", "load", "keep", "tell", "see", "put", "take"] : List Str) ++ (["jump", "zero", "below", "call", "mark", "table", "jump", "zero", "below", "call", "mark"] : List Str)).map V.str)) = G3 at s3 h3 ⊢
    refine ⟨_, rfl, _, _, rfl, rfl, .inl ⟨by decide, by decide⟩, _, _, rfl, rfl, u, some 0, some 25599, rfl, _, rfl, ?_⟩
    unfold headU at k
    by_cases hb : 0 ≤ u ∧ u < 25600
    · refine iteN (by unfold wholeB loB hiB; simp; omega) ?_
      rw [if_pos hb] at k
      have hj : (u / 1024).toNat < heads.length := by show _ < 25; omega
      have hh : heads[(u / 1024).toNat]? = some heads[(u / 1024).toNat] := List.getElem?_eq_getElem hj
      have hmem := List.getElem_mem hj
      generalize heads[(u / 1024).toNat] = h at hh hmem
      rw [hh] at k
      have k : FirstRes (if fits h (u % 1024 / 128) (u % 128) = true then some (h, u % 1024 / 128, u % 128) else none) H Q := k
      obtain ⟨hw, hf⟩ := words_at _ (show (u / 1024).toNat < 25 from hj) h hh
      have hwa : atI (((["stop", "back", "halt", "set", "more", "copy", "add", "less", "load", "keep", "tell", "see", "put", "take"] : List Str) ++ (["jump", "zero", "below", "call", "mark", "table", "jump", "zero", "below", "call", "mark"] : List Str)).map V.str) (u / 1024) = some (.str h.1) := by
        rw [show u / 1024 = (((u / 1024).toNat : Nat) : Int) by omega]
        exact atI_nat (by rw [List.getElem?_map, hw]; rfl)
      refine ⟨_, rfl, _, rfl, _, _, rfl, rfl, ⟨by show (0 : Int) < 1024; decide, by show (1024 : Int) < _; decide⟩, lc, _, _, .str h.1, rfl, rfl, SqL.of h3, hwa, ?_⟩
      refine ⟨_, rfl, _, _, rfl, rfl, ⟨by show (0 : Int) < 1024; decide, by show (1024 : Int) < _; decide⟩, _, _, rfl, rfl, .inr ⟨_, rfl, ?_⟩⟩
      have hf2 : (if decide ((19 : Int) < u / 1024) = true then (1 : Int) else 0) = h.2 := by
        rw [hf]
        by_cases z : (19 : Int) < u / 1024
        · rw [if_pos (decide_eq_true z), if_pos (by omega)]
        · rw [if_neg (by simp; omega), if_neg (by omega)]
      rw [hf2]
      refine ⟨_, rfl, _, _, rfl, rfl, ⟨by show (0 : Int) < 128; decide, by show (128 : Int) < _; decide⟩, _, _, rfl, rfl, (by show (0 : Int) < 8; decide), ?_⟩
      rw [fits_eq hmem (by omega) (by omega) (by omega), show u % 1024 / 128 = u / 128 % 8 by omega] at k
      refine ⟨_, rfl, _, _, rfl, rfl, (by show (0 : Int) < 128; decide), ?_⟩
      refine ⟨_, rfl, (by show 6 ≤ sizeLine; decide), fun t6 nt6 => ⟨t6, n6.map V.str, rfl, .inr (SqT.of upd_same), rfl, rfl, _, rfl, ?_⟩⟩
      have s6 := s3.trans (same_new (o := .tup [V.str "stop", V.str "back", V.str "halt", V.str "jump", V.str "call", V.str "mark"]) nt6)
      rw [show inV (.str h.1) (n6.map V.str) = decide (h.1 ∈ n6) from inV_str _ _]
      generalize upd G3 t6 (.tup [V.str "stop", V.str "back", V.str "halt", V.str "jump", V.str "call", V.str "mark"]) = G6 at s6 ⊢
      by_cases h6 : h.1 ∈ n6
      · refine iteP (decide_eq_true h6) ?_
        refine ⟨_, rfl, _, _, rfl, rfl, _, rfl, ?_⟩
        by_cases ha0 : 0 < u / 128 % 8
        · refine iteP (decide_eq_true ha0) ?_
          rw [decide_eq_true h6, decide_eq_true ha0] at k
          exact k _ s6
        · refine iteN (fun z => ha0 (of_decide_eq_true z)) ?_
          rw [decide_eq_true h6, decide_eq_false ha0, Bool.and_false, Bool.not_false, Bool.true_and] at k
          refine ⟨fun v G => v = .bl (decide (h.1 ∈ five) && decide (h.2 = 0)) ∧ Same G6 G, ?_, ?_⟩
          · refine ⟨_, rfl, (by show 5 ≤ sizeLine; decide), fun t7 nt7 => ⟨t7, (["jump", "zero", "below", "call", "mark"] : List Str).map V.str, rfl, .inr (SqT.of upd_same), rfl, rfl, _, rfl, ?_⟩⟩
            rw [show inV (.str h.1) ((["jump", "zero", "below", "call", "mark"] : List Str).map V.str) = decide (h.1 ∈ five) from (inV_str _ _).trans (decide_eq_decide.mpr ⟨(by decide +kernel : ∀ u ∈ (["jump", "zero", "below", "call", "mark"] : List Str), u ∈ five) _, (by decide +kernel : ∀ u ∈ five, u ∈ (["jump", "zero", "below", "call", "mark"] : List Str)) _⟩)]
            by_cases h5 : h.1 ∈ five
            · refine iteP (decide_eq_true h5) ?_
              refine ⟨_, rfl, rfl, ?_, same_new nt7⟩
              rw [decide_eq_true h5, Bool.true_and]
              exact congrArg V.bl (decide_eq_decide.mpr ⟨V.int.inj, fun z => by rw [z]⟩)
            · refine iteN (fun z => h5 (of_decide_eq_true z)) ?_
              exact ⟨by rw [decide_eq_false h5]; rfl, same_new nt7⟩
          rintro v G7 ⟨rfl, t7⟩
          have s7 := s6.trans t7
          refine .inr ⟨_, rfl, _, _, rfl, rfl, .inl ⟨by decide, by decide⟩, ?_⟩
          refine ⟨_, rfl, _, rfl, (by show 5 ≤ sizeLine; decide), fun t8 nt8 => ⟨t8, w2.map V.str, rfl, .inr (SqT.of upd_same), rfl, rfl, .inr ⟨_, rfl, _, _, rfl, rfl, .inl ⟨by decide, by decide⟩, _, _, rfl, rfl, ?_⟩⟩⟩
          have s8 := s7.trans (same_new (o := .tup [V.str "copy", V.str "add", V.str "less", V.str "load", V.str "keep"]) nt8)
          rw [show (if false = true then !inV (.str h.1) (w2.map V.str) else inV (.str h.1) (w2.map V.str)) = decide (h.1 ∈ w2) from inV_str _ _]
          generalize upd G7 t8 (.tup [V.str "copy", V.str "add", V.str "less", V.str "load", V.str "keep"]) = G8 at s8 ⊢
          refine ⟨_, rfl, _, rfl, _, rfl, _, rfl, (by show 4 ≤ sizeLine; decide), fun t9 nt9 => ⟨(by show 2 ≤ sizeLine; decide), fun l9 nl9 => ⟨_, rfl, _, rfl, _, _, rfl, rfl, .inr ⟨_, rfl, ?_⟩⟩⟩⟩
          by_cases hle : u % 128 ≤ mostF h
          · rw [if_pos (decide_eq_true hle)] at k
            refine ⟨l9, _, 1, .ref t9, rfl, by show V.int (if decide (u % 128 ≤ mostF h) = true then 1 else 0) = V.int 1; rw [if_pos (decide_eq_true hle)], SqL.of upd_same, rfl, k t9 _ (s8.trans ((same_new nt9).trans (same_new nl9))) (same_new nl9 _ _ upd_same)⟩
          · rw [if_neg (fun z => hle (of_decide_eq_true z))] at k
            refine ⟨l9, _, 0, .non, rfl, by show V.int (if decide (u % 128 ≤ mostF h) = true then 1 else 0) = V.int 0; rw [if_neg (fun z => hle (of_decide_eq_true z))], SqL.of upd_same, rfl, k _ (s8.trans ((same_new nt9).trans (same_new nl9)))⟩
      · refine iteN (fun z => h6 (of_decide_eq_true z)) ?_
        rw [decide_eq_false h6, Bool.false_and, Bool.not_false, Bool.true_and] at k
        refine ⟨fun v G => v = .bl (decide (h.1 ∈ five) && decide (h.2 = 0)) ∧ Same G6 G, ?_, ?_⟩
        · refine ⟨_, rfl, (by show 5 ≤ sizeLine; decide), fun t7 nt7 => ⟨t7, (["jump", "zero", "below", "call", "mark"] : List Str).map V.str, rfl, .inr (SqT.of upd_same), rfl, rfl, _, rfl, ?_⟩⟩
          rw [show inV (.str h.1) ((["jump", "zero", "below", "call", "mark"] : List Str).map V.str) = decide (h.1 ∈ five) from (inV_str _ _).trans (decide_eq_decide.mpr ⟨(by decide +kernel : ∀ u ∈ (["jump", "zero", "below", "call", "mark"] : List Str), u ∈ five) _, (by decide +kernel : ∀ u ∈ five, u ∈ (["jump", "zero", "below", "call", "mark"] : List Str)) _⟩)]
          by_cases h5 : h.1 ∈ five
          · refine iteP (decide_eq_true h5) ?_
            refine ⟨_, rfl, rfl, ?_, same_new nt7⟩
            rw [decide_eq_true h5, Bool.true_and]
            exact congrArg V.bl (decide_eq_decide.mpr ⟨V.int.inj, fun z => by rw [z]⟩)
          · refine iteN (fun z => h5 (of_decide_eq_true z)) ?_
            exact ⟨by rw [decide_eq_false h5]; rfl, same_new nt7⟩
        rintro v G7 ⟨rfl, t7⟩
        have s7 := s6.trans t7
        refine .inr ⟨_, rfl, _, _, rfl, rfl, .inl ⟨by decide, by decide⟩, ?_⟩
        refine ⟨_, rfl, _, rfl, (by show 5 ≤ sizeLine; decide), fun t8 nt8 => ⟨t8, w2.map V.str, rfl, .inr (SqT.of upd_same), rfl, rfl, .inr ⟨_, rfl, _, _, rfl, rfl, .inl ⟨by decide, by decide⟩, _, _, rfl, rfl, ?_⟩⟩⟩
        have s8 := s7.trans (same_new (o := .tup [V.str "copy", V.str "add", V.str "less", V.str "load", V.str "keep"]) nt8)
        rw [show (if false = true then !inV (.str h.1) (w2.map V.str) else inV (.str h.1) (w2.map V.str)) = decide (h.1 ∈ w2) from inV_str _ _]
        generalize upd G7 t8 (.tup [V.str "copy", V.str "add", V.str "less", V.str "load", V.str "keep"]) = G8 at s8 ⊢
        refine ⟨_, rfl, _, rfl, _, rfl, _, rfl, (by show 4 ≤ sizeLine; decide), fun t9 nt9 => ⟨(by show 2 ≤ sizeLine; decide), fun l9 nl9 => ⟨_, rfl, _, rfl, _, _, rfl, rfl, .inr ⟨_, rfl, ?_⟩⟩⟩⟩
        by_cases hle : u % 128 ≤ mostF h
        · rw [if_pos (decide_eq_true hle)] at k
          refine ⟨l9, _, 1, .ref t9, rfl, by show V.int (if decide (u % 128 ≤ mostF h) = true then 1 else 0) = V.int 1; rw [if_pos (decide_eq_true hle)], SqL.of upd_same, rfl, k t9 _ (s8.trans ((same_new nt9).trans (same_new nl9))) (same_new nl9 _ _ upd_same)⟩
        · rw [if_neg (fun z => hle (of_decide_eq_true z))] at k
          refine ⟨l9, _, 0, .non, rfl, by show V.int (if decide (u % 128 ≤ mostF h) = true then 1 else 0) = V.int 0; rw [if_neg (fun z => hle (of_decide_eq_true z))], SqL.of upd_same, rfl, k _ (s8.trans ((same_new nt9).trans (same_new nl9)))⟩
    · refine iteP (by unfold wholeB loB hiB; simp; omega) ?_
      rw [if_neg hb] at k
      exact k _ s3
end
end My


set_option Elab.async false
set_option linter.all false
set_option maxRecDepth 100000
set_option maxHeartbeats 4000000
namespace My
open PySem L2
theorem pk_bd {X : Cx} {a b c d e : Int} {j1 p1 j2 p2 j3 p3 p4 p5 j6 p6 j7 p7 p8 x1 pos} : PE X (.Tuple [.BinOp (.Constant (.int a) j1 p1) .Sub (.BinOp (.Constant (.int b) j2 p2) .Pow (.Constant (.int c) j3 p3) p4) p5, .BinOp (.Constant (.int d) j6 p6) .Pow (.Constant (.int e) j7 p7) p8] x1 pos) (tTup (tCons (tOp (rI0 fun i j => .int (i - j)) (tC (.int a)) (tOp (rI CPow fun i j => .int (i ^ j.toNat)) (tC (.int b)) (tC (.int c)))) (tCons (tOp (rI CPow fun i j => .int (i ^ j.toNat)) (tC (.int d)) (tC (.int e))) tNil))) := pe_tup (pa_cons (pe_op op_sub pe_int (pe_op op_pow pe_int pe_int)) (pa_cons (pe_op op_pow pe_int pe_int) pa_nil))
theorem pk_b2 {X : Cx} {a d e : Int} {j1 p1 j6 p6 j7 p7 p8 x1 pos} : PE X (.Tuple [.Constant (.int a) j1 p1, .BinOp (.Constant (.int d) j6 p6) .Pow (.Constant (.int e) j7 p7) p8] x1 pos) (tTup (tCons (tC (.int a)) (tCons (tOp (rI CPow fun i j => .int (i ^ j.toNat)) (tC (.int d)) (tC (.int e))) tNil))) := pe_tup (pa_cons pe_int (pa_cons (pe_op op_pow pe_int pe_int) pa_nil))
theorem pe_get2d {X : Cx} {k1 k2 : Str} {v1 v2 e f : Expr} {t1 t2 ty tx : TE} {j1 p1 j2 p2 dpos apos cpos} (hu : X.A.units + 1 < cLine) (h1 : PE X v1 t1) (h2 : PE X v2 t2) (he : PE X e ty) (hf : PE X f tx) (se : isStar e = false) (sf : isStar f = false) (hline : (apos.endLine == cpos.line) = true) :
    PE X (.Call (.Attribute (.Dict [some (.Constant (.str k1) j1 p1), some (.Constant (.str k2) j2 p2)] [v1, v2] dpos) "get" apos) [e, f] [] cpos) (tDGet2 (tDisp [(tC (.str k1), t1), (tC (.str k2), t2)]) ty tx) :=
  pe_dget2 hu (pe_disp (pps_cons pe_str h1 (pps_cons pe_str h2 pps_nil)) rfl rfl (List.cons_ne_nil _ _) (Nat.le_of_ble_eq_true rfl)) he hf ⟨rfl, by rw [star_no se, star_no sf]; rfl, hline, by rw [star_no se, star_no sf]; rfl⟩
theorem pei_get2d {X : Cx} {k1 k2 : Str} {v1 v2 e f : Expr} {t1 t2 ty tx : TE} {j1 p1 j2 p2 dpos apos cpos} (hu : X.A.units + 1 < cLine) (h1 : PE X v1 t1) (h2 : PE X v2 t2) (he : PE X e ty) (hf : PE X f tx) (se : isStar e = false) (sf : isStar f = false) (hline : (apos.endLine == cpos.line) = true) :
    PEi X (.Call (.Attribute (.Dict [some (.Constant (.str k1) j1 p1), some (.Constant (.str k2) j2 p2)] [v1, v2] dpos) "get" apos) [e, f] [] cpos) (tDGet2 (tDisp [(tC (.str k1), t1), (tC (.str k2), t2)]) ty tx) := by
  unfold PEi
  exact pe_get2d hu h1 h2 he hf se sf hline
theorem psi_set_call {X : Cx} {pos pos' cpos : Pos} {i : Nat} {x : Str} {fe : Expr} {es : List Expr} {te : TE} (hN : X.N.Nodup) (hi : X.N[i]? = some x) (hx : Loc X.env.scope x) (he : PEi X (.Call fe es [] cpos) te) (hf : X.fn x = true ∨ X.env.scope.names.lookup x = some .local := by first | exact .inl rfl | exact .inr rfl | assumption) :
    PSi X (.Assign [.Name x pos'] (.Call fe es [] cpos) pos) (tAsg te (gName i)) := by
  unfold PEi at he
  unfold PSi
  exact ps_set hN hi hx he rfl hf
/-! ### what follows a first unit -/
def tailRow (us : List Int) (at_ : Nat) (h : Str × Int) (a low : Int) : Except Nat FR := if h.1 = "table" then tabAt us at_ a else if h.1 ∈ five then jmpAt us at_ h a low else if h.1 ∈ w2 then .ok ⟨h.1, [a, low], []⟩ else match parsAt us at_ a (ksOf h.1) with
  | .ok l => .ok ⟨h.1, l, []⟩
  | .error e => .error e
theorem rowAt_head {us : List Int} {at_ : Nat} {u : Int} (hu : us[at_]? = some u) : rowAt us at_ = match headU u with
    | none => .error at_
    | some (h, a, low) => tailRow us at_ h a low := by
  unfold rowAt headU
  rw [hu]
  show (if 0 ≤ u ∧ u < 25600 then _ else _) = _
  by_cases hb : 0 ≤ u ∧ u < 25600
  · rw [if_pos hb, if_pos hb]
    cases heads[(u / 1024).toNat]? with
    | none => rfl
    | some h =>
      show headRow us at_ h (u % 1024 / 128) (u % 128) = match (if fits h (u % 1024 / 128) (u % 128) = true then some (h, u % 1024 / 128, u % 128) else none) with | none => Except.error at_ | some (h, a, low) => tailRow us at_ h a low
      unfold headRow
      by_cases hf : fits h (u % 1024 / 128) (u % 128) = true
      · rw [if_pos hf, if_pos hf]
        rfl
      · rw [if_neg hf, if_neg hf]
  · rw [if_neg hb, if_neg hb]
theorem headU_mem {u : Int} {h : Str × Int} {a low : Int} (e : headU u = some (h, a, low)) : h ∈ heads := by
  unfold headU at e
  split at e
  · cases hh : heads[(u / 1024).toNat]? with
    | none => rw [hh] at e; cases e
    | some h' =>
      rw [hh] at e
      have e : (if fits h' (u % 1024 / 128) (u % 128) = true then some (h', u % 1024 / 128, u % 128) else none) = some (h, a, low) := e
      split at e
      · cases e
        exact List.mem_of_getElem? hh
      · cases e
  · cases e
theorem cls_h : ∀ h ∈ heads, (h.1 ∈ (["stop", "back"] : List Str) ∧ ksOf h.1 = [] ∧ szF ⟨h.1, [], []⟩ = 1) ∨ (h.1 = "tell") ∨ (h.1 ∈ w2) ∨ (h.1 = "table") ∨ (h.1 ∈ five) ∨ (h.1 = "halt") ∨ (h.1 ∈ (["set", "more", "see", "put", "take"] : List Str)) := by decide +kernel
end My


set_option Elab.async false
set_option linter.all false
set_option maxRecDepth 100000
set_option maxHeartbeats 4000000
namespace My
open PySem L2
def k2 (u : Str) : Str := (ksOf u)[1]?.getD ""
theorem tail_sb {us : List Int} {at_ : Nat} {h : Str × Int} {a low : Int} (hs : h.1 ∈ (["stop", "back"] : List Str)) : tailRow us at_ h a low = .ok ⟨h.1, [], []⟩ := by
  obtain ⟨f1, f2, f3, f4⟩ := (by decide +kernel : ∀ u ∈ (["stop", "back"] : List Str), ¬ u = "table" ∧ ¬ u ∈ five ∧ ¬ u ∈ w2 ∧ ksOf u = []) _ hs
  unfold tailRow
  rw [if_neg f1, if_neg f2, if_neg f3, f4]
  rfl
theorem tail_tell {us : List Int} {at_ : Nat} {h : Str × Int} {a low : Int} (hs : h.1 = "tell") : tailRow us at_ h a low = .ok ⟨h.1, [a], []⟩ := by
  obtain ⟨f1, f2, f3, f4⟩ := (by decide +kernel : ∀ u ∈ (["tell"] : List Str), ¬ u = "table" ∧ ¬ u ∈ five ∧ ¬ u ∈ w2 ∧ ksOf u = (["box"] : List Str)) _ (show h.1 ∈ _ by rw [hs]; decide)
  unfold tailRow
  rw [if_neg f1, if_neg f2, if_neg f3, f4]
  rfl
theorem tail_w2 {us : List Int} {at_ : Nat} {h : Str × Int} {a low : Int} (hs : h.1 ∈ w2) : tailRow us at_ h a low = .ok ⟨h.1, [a, low], []⟩ := by
  obtain ⟨f1, f2⟩ := (by decide +kernel : ∀ u ∈ w2, ¬ u = "table" ∧ ¬ u ∈ five) _ hs
  unfold tailRow
  rw [if_neg f1, if_neg f2, if_pos hs]
theorem tail_five {us : List Int} {at_ : Nat} {h : Str × Int} {a low : Int} (hs : h.1 ∈ five) : tailRow us at_ h a low = jmpAt us at_ h a low := by
  have f1 := (by decide +kernel : ∀ u ∈ five, ¬ u = "table") _ hs
  unfold tailRow
  rw [if_neg f1, if_pos hs]
def loN (u : Str) : Int := if u ∈ (["set", "more"] : List Str) then -1000000000 else 0
def hiN (u : Str) : Int := if u ∈ (["set", "more"] : List Str) then 1000000000 else 1000000
theorem num_at {us : List Int} {at_ : Nat} {n a : Int} {kd : Str} (hk : ¬ kd = "box") (hn : us[at_ + 1]? = some n) : parAt us at_ kd a = if inB kd n = true then .ok n else .error (at_ + 1) := by
  unfold parAt numAt
  rw [if_neg hk, hn]
theorem num_no {us : List Int} {at_ : Nat} {a : Int} {kd : Str} (hk : ¬ kd = "box") (hn : us[at_ + 1]? = none) : parAt us at_ kd a = .error (at_ + 1) := by
  unfold parAt numAt
  rw [if_neg hk, hn]
theorem pars1 {us : List Int} {at_ : Nat} {a : Int} {kd : Str} {e : Nat} (h : parAt us at_ kd a = .error e) : parsAt us at_ a [kd] = .error e := by
  show (match parAt us at_ kd a with | .error e => Except.error e | .ok n => _) = _
  rw [h]
theorem pars2 {us : List Int} {at_ : Nat} {a n : Int} {kd : Str} (h : parAt us at_ kd a = .ok n) : parsAt us at_ a [kd] = .ok [n] := by
  show (match parAt us at_ kd a with | .error e => Except.error e | .ok n => _) = _
  rw [h]
  rfl
theorem parsB {us : List Int} {at_ : Nat} {a : Int} {ks : List Str} : parsAt us at_ a ("box" :: ks) = match parsAt us at_ a ks with | .error e => .error e | .ok l => .ok (a :: l) := rfl
theorem parsN {us : List Int} {at_ : Nat} {a lo hi : Int} {kd : Str} (hk : ¬ kd = "box") (hb : bdOf kd = (lo, hi)) : parsAt us at_ a [kd] = match us[at_ + 1]? with
    | none => .error (at_ + 1)
    | some n => if lo ≤ n ∧ n ≤ hi then .ok [n] else .error (at_ + 1) := by
  cases hn : us[at_ + 1]? with
  | none => exact pars1 (num_no hk hn)
  | some n =>
    have e := num_at (a := a) hk hn
    unfold inB at e
    rw [hb] at e
    show parsAt us at_ a [kd] = if lo ≤ n ∧ n ≤ hi then Except.ok [n] else .error (at_ + 1)
    by_cases z : lo ≤ n ∧ n ≤ hi
    · rw [if_pos (decide_eq_true z)] at e
      rw [if_pos z]
      exact pars2 e
    · rw [if_neg (fun y => z (of_decide_eq_true y))] at e
      rw [if_neg z]
      exact pars1 e
theorem tail_halt {us : List Int} {at_ : Nat} {h : Str × Int} {a low : Int} (hs : h.1 = "halt") : tailRow us at_ h a low = match us[at_ + 1]? with
    | none => .error (at_ + 1)
    | some n => if loN h.1 ≤ n ∧ n ≤ hiN h.1 then .ok ⟨h.1, [n], []⟩ else .error (at_ + 1) := by
  obtain ⟨f1, f2, f3, f4, f5, f6⟩ := (by decide +kernel : ∀ u ∈ (["halt"] : List Str), ¬ u = "table" ∧ ¬ u ∈ five ∧ ¬ u ∈ w2 ∧ ksOf u = (["number"] : List Str) ∧ bdOf "number" = (loN u, hiN u) ∧ ¬ ("number" : Str) = "box") h.1 (by rw [hs]; decide)
  unfold tailRow
  rw [if_neg f1, if_neg f2, if_neg f3, f4, parsN f6 f5]
  cases us[at_ + 1]? with
  | none => rfl
  | some n =>
    show (match (if loN h.1 ≤ n ∧ n ≤ hiN h.1 then Except.ok [n] else .error (at_ + 1)) with | .ok l => Except.ok (⟨h.1, l, []⟩ : FR) | .error e => .error e) = if loN h.1 ≤ n ∧ n ≤ hiN h.1 then .ok ⟨h.1, [n], []⟩ else .error (at_ + 1)
    by_cases z : loN h.1 ≤ n ∧ n ≤ hiN h.1
    · rw [if_pos z, if_pos z]
    · rw [if_neg z, if_neg z]
theorem tail_w5 {us : List Int} {at_ : Nat} {h : Str × Int} {a low : Int} (hs : h.1 ∈ (["set", "more", "see", "put", "take"] : List Str)) : tailRow us at_ h a low = match us[at_ + 1]? with
    | none => .error (at_ + 1)
    | some n => if loN h.1 ≤ n ∧ n ≤ hiN h.1 then .ok ⟨h.1, [a, n], []⟩ else .error (at_ + 1) := by
  obtain ⟨f1, f2, f3, f4, f5, f6⟩ := (by decide +kernel : ∀ u ∈ (["set", "more", "see", "put", "take"] : List Str), ¬ u = "table" ∧ ¬ u ∈ five ∧ ¬ u ∈ w2 ∧ ksOf u = ((("box" : Str) :: [k2 u] : List Str)) ∧ bdOf (k2 u) = (loN u, hiN u) ∧ ¬ k2 u = "box") _ hs
  unfold tailRow
  rw [if_neg f1, if_neg f2, if_neg f3, f4, parsB, parsN f6 f5]
  cases us[at_ + 1]? with
  | none => rfl
  | some n =>
    show (match (match (if loN h.1 ≤ n ∧ n ≤ hiN h.1 then Except.ok [n] else .error (at_ + 1)) with | .error e => Except.error e | .ok l => .ok (a :: l)) with | .ok l => Except.ok (⟨h.1, l, []⟩ : FR) | .error e => .error e) = if loN h.1 ≤ n ∧ n ≤ hiN h.1 then .ok ⟨h.1, [a, n], []⟩ else .error (at_ + 1)
    by_cases z : loN h.1 ≤ n ∧ n ≤ hiN h.1
    · rw [if_pos z, if_pos z]
    · rw [if_neg z, if_neg z]
theorem sz_one {u : Str} {is ts : List Int} (h1 : ¬ u = "table" ∧ ¬ u ∈ five ∧ ¬ u ∈ six) : szF ⟨u, is, ts⟩ = 1 := by
  show (if u = "table" then _ else if u ∈ five then _ else if u ∈ six then (2 : Int) else 1) = 1
  rw [if_neg h1.1, if_neg h1.2.1, if_neg h1.2.2]
theorem sz_two {u : Str} {is ts : List Int} (h1 : ¬ u = "table" ∧ ¬ u ∈ five ∧ u ∈ six) : szF ⟨u, is, ts⟩ = 2 := by
  show (if u = "table" then _ else if u ∈ five then _ else if u ∈ six then (2 : Int) else 1) = 2
  rw [if_neg h1.1, if_neg h1.2.1, if_pos h1.2.2]
theorem sz_j {u : Str} {a d f : Int} (h1 : u ∈ five) : szF (jrow u a d f) = 1 + f := by
  unfold szF
  rw [jrow_u, if_neg ((by decide +kernel : ∀ u ∈ five, ¬ u = "table") _ h1), if_pos h1, jrow_far]
def bdsF (h : Str × Int) : Option Int × Option Int := if h.2 = 1 then (none, none) else (some (loN h.1), some (hiN h.1))
theorem far01 : ∀ h ∈ heads, (h.2 = 0 ∨ h.2 = 1) ∧ (h.2 = 1 → h.1 ∈ five) := by decide +kernel
theorem mergeSM (a b : V) : mergeK [] [((Sum.inr "set" : Key), a), (Sum.inr "more", b)] = ([((Sum.inr "set" : Key), a), (Sum.inr "more", b)] : List (Key × V)) := rfl
theorem valSM (a b : V) : ∀ u : Str, valV [((Sum.inr "set" : Key), a), (Sum.inr "more", b)] (Sum.inr u) = if u = "set" then some a else if u = "more" then some b else none := by
  intro u
  by_cases h : u = "set"
  · subst h; rfl
  · by_cases h2 : u = "more"
    · subst h2; rfl
    · rw [if_neg h, if_neg h2]
      have e1 : ¬ ((Sum.inr "set" : Key) = Sum.inr u) := fun z => h (Sum.inr.inj z).symm
      have e2 : ¬ ((Sum.inr "more" : Key) = Sum.inr u) := fun z => h2 (Sum.inr.inj z).symm
      simp [valV, List.find?, e1, e2]
theorem next_same {r : Except Nat FR} {at_ : Nat} {H G : Hp} {Q : VK} (s : Same H G) (k : NextRes r at_ H Q) : NextRes r at_ G Q := by
  cases r with
  | ok d => exact fun p t H' s' hr ht => k p t H' (s.trans s') hr ht
  | error e => exact fun t H' s' ht => k t H' (s.trans s') ht
theorem tail_short {us : List Int} {at_ : Nat} {h : Str × Int} {a low : Int} (hm : h ∈ heads) (c1 : ¬ h.1 ∈ (["stop", "back"] : List Str)) (c2 : ¬ h.1 = "tell") (c3 : ¬ h.1 ∈ w2) (c5 : ¬ (h.1 ∈ five ∧ h.2 = 0)) (hn : us[at_ + 1]? = none) : tailRow us at_ h a low = .error (at_ + 1) := by
  rcases cls_h h hm with z | z | z | z | z | z | z
  · exact absurd z.1 c1
  · exact absurd z c2
  · exact absurd z c3
  · unfold tailRow tabAt
    rw [if_pos z, hn]
  · rw [tail_five z]
    unfold jmpAt
    rw [if_neg (fun y => c5 ⟨z, y⟩), hn]
  · rw [tail_halt z, hn]
  · rw [tail_w5 z, hn]
theorem tail_err {us : List Int} {at_ : Nat} {h : Str × Int} {a low n : Int} (hm : h ∈ heads) (c1 : ¬ h.1 ∈ (["stop", "back"] : List Str)) (c2 : ¬ h.1 = "tell") (c3 : ¬ h.1 ∈ w2) (c5 : ¬ (h.1 ∈ five ∧ h.2 = 0)) (c6 : ¬ h.1 = "table") (hn : us[at_ + 1]? = some n) (hb : ¬ wholeB n (bdsF h).1 (bdsF h).2 = true) : tailRow us at_ h a low = .error (at_ + 1) := by
  have h01 := far01 h hm
  have e0 : ¬ h.2 = 1 := fun y => hb (by unfold bdsF; rw [if_pos y]; rfl)
  have e1 : ¬ (loN h.1 ≤ n ∧ n ≤ hiN h.1) := fun y => hb (by
    unfold bdsF; rw [if_neg e0]
    show (decide (loN h.1 ≤ n) && decide (n ≤ hiN h.1)) = true
    rw [decide_eq_true y.1, decide_eq_true y.2]; rfl)
  rcases cls_h h hm with z | z | z | z | z | z | z
  · exact absurd z.1 c1
  · exact absurd z c2
  · exact absurd z c3
  · exact absurd z c6
  · exact absurd (h01.1.resolve_right e0) (fun y => c5 ⟨z, y⟩)
  · rw [tail_halt z, hn]
    exact if_neg e1
  · rw [tail_w5 z, hn]
    exact if_neg e1
theorem whole_in {h : Str × Int} {n : Int} (e0 : ¬ h.2 = 1) (hb : wholeB n (bdsF h).1 (bdsF h).2 = true) : loN h.1 ≤ n ∧ n ≤ hiN h.1 := by
  unfold bdsF at hb
  rw [if_neg e0] at hb
  have hb : (decide (loN h.1 ≤ n) && decide (n ≤ hiN h.1)) = true := hb
  rw [Bool.and_eq_true] at hb
  exact ⟨of_decide_eq_true hb.1, of_decide_eq_true hb.2⟩
theorem tail_far {us : List Int} {at_ : Nat} {h : Str × Int} {a low n : Int} (hm : h ∈ heads) (h1 : h.2 = 1) (hn : us[at_ + 1]? = some n) : tailRow us at_ h a low = .ok (jrow h.1 a n h.2) := by
  rw [tail_five ((far01 h hm).2 h1)]
  unfold jmpAt
  rw [if_neg (by rw [h1]; decide), hn]
theorem tail_table {us : List Int} {at_ : Nat} {h : Str × Int} {a low : Int} (h1 : h.1 = "table") : tailRow us at_ h a low = tabAt us at_ a := by
  unfold tailRow
  rw [if_pos h1]
def ST7 (lu : Addr) (at_ : Nat) (h : Str × Int) (a low : Int) (tb : Addr) (o : Option V) : St := [some (.ref lu), some (.int (at_ : Int)), some (.str h.1), some (.int a), some (.int low), some (.int h.2), some (.ref tb), o]
theorem e4c {h : Str × Int} {a dd : Int} : [V.str h.1] ++ (if h.1 ∈ zb then [V.int a] else []) ++ [V.int dd, V.int h.2] = (if h.1 ∈ zb then [.str h.1, .int a, .int dd, .int h.2] else [.str h.1, .int dd, .int h.2]) := by split <;> rfl
theorem len_zb {u : Str} {a : Int} : ((if u ∈ zb then [V.int a] else []) : List V).length ≤ 1 := by
  split
  · exact Nat.le_refl 1
  · exact Nat.zero_le 1
theorem next_ok {d : FR} {at_ : Nat} {H : Hp} {Q : VK} {r : Except Nat FR} (e : r = .ok d) (k : NextRes r at_ H Q) : ∀ (p t : Addr) (H' : Hp), Same H H' → RowF H' p d → H' t = some (.tup [.ref p, .int ((at_ : Int) + szF d)]) → Q (.ref t) H' := by
  rw [e] at k
  exact k
theorem next_err {x at_ : Nat} {H : Hp} {Q : VK} {r : Except Nat FR} (e : r = .error x) (k : NextRes r at_ H Q) : ∀ (t : Addr) (H' : Hp), Same H H' → H' t = some (.tup [.non, .int (x : Int)]) → Q (.ref t) H' := by
  rw [e] at k
  exact k
end My


set_option Elab.async false
set_option linter.all false
set_option maxRecDepth 100000
set_option maxHeartbeats 4000000
namespace My
open PySem L2
section
variable {P : Program} {w : World} {K : PySem.W.Frag} {mg : Str → Option Value} {base : Heap}
def spLNext : Sp := fun vs H Q _ => ∃ (lu : Addr) (us : List Int) (at_ : Nat), vs = [.ref lu, .int (at_ : Int)] ∧ H lu = some (.lst (us.map V.int)) ∧ us.length ≤ 1000000 ∧ NextRes (rowAt us at_) at_ H Q
theorem scLne : FnScope ["_law_units", "_law_at", "_law_word", "_law_box", "_law_low", "_law_far", "_law_boxes", "_law_bounds"] ["_law_units", "_law_at"] (defScope sLNext) := ⟨rfl, rfl, rfl, by decide +kernel, rfl, by decide +kernel, by decide +kernel⟩
theorem ok_lnext {f fF fT fW : Addr} {fd fdF fdT fdW : FuncData} (F : Fun K "_law_next" "_law_next" sLNext f fd) (T : Txt K w.params mg) (GF : FnOk P w K mg base CX0 2 fF fdF ["_law_unit_here"] spLFirst) (kF : PySem.W.keepIn K (.ref fF) = true) (bF : Binds K fdF ["_law_unit_here"] []) (mF : mg "_law_first" = some (.ref fF)) (GT : FnOk P w K mg base CX0 2 fT fdT ["_law_units", "_law_at", "_law_box"] spLTable) (kT : PySem.W.keepIn K (.ref fT) = true) (bT : Binds K fdT ["_law_units", "_law_at", "_law_box"] []) (mT : mg "_law_table" = some (.ref fT)) (GW : FnOk P w K mg base CX0 1 fW fdW ["_law_unit_here", "_law_least", "_law_most"] spLWhole) (kW : PySem.W.keepIn K (.ref fW) = true) (bW : Binds K fdW ["_law_unit_here", "_law_least", "_law_most"] []) (mW : mg "_law_whole" = some (.ref fW)) : FnOk P w K mg base CX0 3 f fd ["_law_units", "_law_at"] spLNext := by
  refine F.ok scLne (fun vs H Q E h => ?_) (fun cdv A outer s H vs Q E hr h => ?_)
  · obtain ⟨lu, us, at_, rfl, _⟩ := h
    rfl
  · obtain ⟨lu, us, at_, rfl, hu, hl, k⟩ := h
    have hrW : Room 1 (A.deeper (PyProof.Rows.envOfC "_law_next" (defScope sLNext) s.heap.objs.size f cdv)) := hr.mono (by decide)
    have hu1 : (A.deeper (PyProof.Rows.envOfC "_law_next" (defScope sLNext) s.heap.objs.size f cdv)).units + 1 < cLine := Nat.lt_of_le_of_lt (Nat.add_le_add_left (by decide : 1 ≤ 64) _) hr.units
    refine wrapX (pssx_cons (psx_if (pw_or (pt_cmpR op_ge (pv 1) (pe_callB call_len_seq (by rfl) T.len bt_len (pa_cons (pv 0) pa_nil)) (nomark _)) (pw_or1 (pt_cmpR op_isN (pe_call GF hr (by rfl) mF kF bF .nil pass0 (pa_cons (pe_ix ix_list (pv 0) (pv 1) (fun _ _ => rfl)) pa_nil)) pe_non (nomark _)))).pt (pssx_one (psx_of (ps_ret (pe_tup (pa_cons pe_non (pa_cons (pv 1) pa_nil)))))) (pssx_nil pss_nil))
      (pssx_cons (psx_of (ps_asg (pe_call GF hr (by rfl) mF kF bF .nil pass0 (pa_cons (pe_ix ix_list (pv 0) (pv 1) (fun _ _ => rfl)) pa_nil)) (pg_tup (n := 4) rfl (pgs_cons (pg_name (i := 2) scLne.nd rfl (Or.inl rfl)) (pgs_cons (pg_name (i := 3) scLne.nd rfl (Or.inl rfl)) (pgs_cons (pg_name (i := 4) scLne.nd rfl (Or.inl rfl)) (pgs_cons (pg_name (i := 5) scLne.nd rfl (Or.inl rfl)) pgs_nil)))))))
      (pssx_cons (psx_if (pt_cmpR op_in_seq (pv 2) (pe_tup (pa_cons pe_str (pa_cons pe_str pa_nil))) rfl) (pssx_one (psx_of (ps_ret (pe_tup (pa_cons (pe_tup (pa_cons (pv 2) pa_nil)) (pa_cons (pe_op op_add (pv 1) pe_int) pa_nil)))))) (pssx_nil pss_nil))
      (pssx_cons (psx_if (pt_cmpR op_eq (pv 2) pe_str (nomark _)) (pssx_one (psx_of (ps_ret (pe_tup (pa_cons (pe_tup (pa_cons (pv 2) (pa_cons (pv 3) pa_nil))) (pa_cons (pe_op op_add (pv 1) pe_int) pa_nil)))))) (pssx_nil pss_nil))
      (pssx_cons (psx_if (pt_cmpR op_in_seq (pv 2) (pe_tupS (.cons pe_str (.cons pe_str (.cons pe_str (.cons pe_str (.cons pe_str .nil)))))) rfl) (pssx_one (psx_of (ps_ret (pe_tup (pa_cons (pe_tup (pa_cons (pv 2) (pa_cons (pv 3) (pa_cons (pv 4) pa_nil)))) (pa_cons (pe_op op_add (pv 1) pe_int) pa_nil)))))) (pssx_nil pss_nil))
      (pssx_mid (psx_of (ps_set (i := 6) scLne.nd rfl (Or.inl rfl) (pe_op op_rep01 (pe_tup (pa_cons (pv 3) pa_nil)) (pe_callTy call_int1 (by rfl) T.int bt_int (pa_cons (pe_cmpR op_in_seq (pv 2) (pe_tup (pa_cons pe_str (pa_cons pe_str pa_nil))) rfl) pa_nil)))))
      (pssx_mid (psx_if (pw_and (pt_cmpR op_in_seq (pv 2) (pe_tupS (.cons pe_str (.cons pe_str (.cons pe_str (.cons pe_str (.cons pe_str .nil)))))) rfl) (pw_and1 (pt_cmpR op_eq (pv 5) pe_int (nomark _)))).pt (pssx_one (psx_of (ps_ret (pe_tup (pa_cons (pe_op op_catQ (pe_op op_catQ (pe_tup (pa_cons (pv 2) pa_nil)) (pv 6)) (pe_tup (pa_cons (pe_op op_sub (pv 4) pe_int) (pa_cons pe_int pa_nil)))) (pa_cons (pe_op op_add (pv 1) pe_int) pa_nil)))))) (pssx_nil pss_nil))
      (pssx_cons (psx_if (pt_cmpR op_ge (pe_op op_add (pv 1) pe_int) (pe_callB call_len_seq (by rfl) T.len bt_len (pa_cons (pv 0) pa_nil)) (nomark _)) (pssx_one (psx_of (ps_ret (pe_tup (pa_cons pe_non (pa_cons (pe_op op_add (pv 1) pe_int) pa_nil)))))) (pssx_nil pss_nil))
      (pssx_cons (psx_if (pt_cmpR op_eq (pv 2) pe_str (nomark _)) (pssx_one (psx_of (ps_ret (pe_call GT hr (by rfl) mT kT bT .nil pass0 (pa_cons (pv 0) (pa_cons (pv 1) (pa_cons (pv 3) pa_nil))))))) (pssx_nil pss_nil))
      (pssx_mid (psx_of_i (psi_set_call (i := 7) scLne.nd rfl (Or.inl rfl) (pei_get2d hu1 pk_bd pk_bd (pv 2) pk_b2 rfl rfl rfl)))
      (pssx_mid (psx_if (pt_cmpR op_eq (pv 5) pe_int (nomark _)) (pssx_one (psx_of (ps_set (i := 7) scLne.nd rfl (Or.inl rfl) (pe_tup (pa_cons pe_non (pa_cons pe_non pa_nil)))))) (pssx_nil pss_nil))
      (pssx_cons (psx_if (pt_not (pt_val (pe_call GW hrW (by rfl) mW kW bW .nil pass0 (pa_cons (pe_ix ix_list (pv 0) (pe_op op_add (pv 1) pe_int) (fun _ _ => rfl)) (pa_cons (pe_ix ix_tup (pv 7) pe_int (fun _ _ => rfl)) (pa_cons (pe_ix ix_tup (pv 7) pe_int (fun _ _ => rfl)) pa_nil)))))) (pssx_one (psx_of (ps_ret (pe_tup (pa_cons pe_non (pa_cons (pe_op op_add (pv 1) pe_int) pa_nil)))))) (pssx_nil pss_nil))
      (pssx_cons (psx_if (pt_cmpR op_eq (pv 5) pe_int (nomark _)) (pssx_one (psx_of (ps_ret (pe_tup (pa_cons (pe_op op_catQ (pe_op op_catQ (pe_tup (pa_cons (pv 2) pa_nil)) (pv 6)) (pe_tup (pa_cons (pe_ix ix_list (pv 0) (pe_op op_add (pv 1) pe_int) (fun _ _ => rfl)) (pa_cons pe_int pa_nil)))) (pa_cons (pe_op op_add (pv 1) pe_int) pa_nil)))))) (pssx_nil pss_nil))
      (pssx_cons (psx_if (pt_cmpR op_eq (pv 2) pe_str (nomark _)) (pssx_one (psx_of (ps_ret (pe_tup (pa_cons (pe_tup (pa_cons (pv 2) (pa_cons (pe_ix ix_list (pv 0) (pe_op op_add (pv 1) pe_int) (fun _ _ => rfl)) pa_nil))) (pa_cons (pe_op op_add (pv 1) pe_int) pa_nil)))))) (pssx_nil pss_nil))
      (pssx_one (psx_of (ps_ret (pe_tup (pa_cons (pe_tup (pa_cons (pv 2) (pa_cons (pv 3) (pa_cons (pe_ix ix_list (pv 0) (pe_op op_add (pv 1) pe_int) (fun _ _ => rfl)) pa_nil)))) (pa_cons (pe_op op_add (pv 1) pe_int) pa_nil)))))))))))))))))))) ?_
    refine ⟨_, rfl, _, rfl, lu, _, rfl, .inl (SqL.of hu), _, _, rfl, rfl, _, rfl, ?_⟩
    rw [List.length_map]
    by_cases hge : us.length ≤ at_
    · refine iteP (decide_eq_true (by omega)) ?_
      have hn : us[at_]? = none := List.getElem?_eq_none hge
      have kk := next_err (x := at_) (by unfold rowAt; rw [hn]) k
      exact iteP rfl ⟨_, rfl, (by show 2 ≤ sizeLine; decide), fun t nt => kk t _ (same_new nt) upd_same⟩
    refine iteN (fun z => hge (by have := of_decide_eq_true z; omega)) ?_
    have hx : us[at_]? = some (us[at_]'(by omega)) := List.getElem?_eq_getElem _
    generalize us[at_]'(by omega) = u at hx
    have hat : atI (us.map V.int) (at_ : Int) = some (.int u) := atI_nat (by rw [List.getElem?_map, hx]; rfl)
    rw [rowAt_head hx] at k
    refine ⟨_, rfl, _, rfl, lu, _, _, .int u, rfl, rfl, SqL.of hu, hat, u, rfl, ?_⟩
    cases hh : headU u with
    | none =>
      rw [hh] at k
      have kk := next_err (x := at_) rfl k
      intro G1 s1
      exact ⟨rfl, _, rfl, iteP (by decide) ⟨_, rfl, (by show 2 ≤ sizeLine; decide), fun t nt => kk t _ (s1.trans (same_new nt)) upd_same⟩⟩
    | some v =>
      obtain ⟨h, a, low⟩ := v
      rw [hh] at k
      have k : NextRes (tailRow us at_ h a low) at_ H Q := k
      have hmem := headU_mem hh
      intro t1 G1 s1 ht1
      refine ⟨rfl, _, rfl, iteN (by simp) ?_⟩
      refine ⟨_, rfl, _, rfl, lu, _, _, .int u, rfl, rfl, SqL.of (s1 _ _ hu), hat, u, rfl, ?_⟩
      rw [hh]
      intro t2 G2 s2' ht2
      have s2 := s1.trans s2'
      refine ⟨t2, _, rfl, SqT.of ht2, rfl, _, _, rfl, _, _, rfl, _, _, rfl, _, _, rfl, rfl, ?_⟩
      refine ⟨_, rfl, (by show 2 ≤ sizeLine; decide), fun t3 nt3 => ⟨t3, (["stop", "back"] : List Str).map V.str, rfl, .inr (SqT.of upd_same), rfl, rfl, _, rfl, ?_⟩⟩
      have s3 := s2.trans (same_new (o := .tup [V.str "stop", V.str "back"]) nt3)
      rw [show inV (.str h.1) ((["stop", "back"] : List Str).map V.str) = decide (h.1 ∈ (["stop", "back"] : List Str)) from inV_str _ _]
      generalize upd G2 t3 (.tup [V.str "stop", V.str "back"]) = G3 at s3 ⊢

      by_cases c1 : h.1 ∈ (["stop", "back"] : List Str)
      · refine iteP (decide_eq_true c1) ?_
        have kk := next_ok (tail_sb c1) k
        obtain ⟨f1, f2⟩ := (by decide +kernel : ∀ u ∈ (["stop", "back"] : List Str), (¬ u = "table" ∧ ¬ u ∈ five ∧ ¬ u ∈ six) ∧ (plainN 0 u ∧ ¬ u ∈ w2 ∧ ¬ u ∈ w1)) _ c1
        refine ⟨_, rfl, (by show 1 ≤ sizeLine; decide), fun p np => ⟨_, rfl, _, _, rfl, rfl, (by show 2 ≤ sizeLine; decide), fun t nt => ?_⟩⟩
        exact kk p t _ (s3.trans ((same_new np).trans (same_new nt))) ((row_no f2 upd_same).same (same_new nt)) (by rw [sz_one f1]; exact upd_same)
      refine iteN (fun z => c1 (of_decide_eq_true z)) ?_
      refine ⟨_, rfl, rfl, _, rfl, ?_⟩
      by_cases c2 : h.1 = "tell"
      · refine iteP (by rw [c2]; decide) ?_
        have kk := next_ok (tail_tell c2) k
        obtain ⟨f1, f2⟩ := (by decide +kernel : ∀ u ∈ (["tell"] : List Str), (¬ u = "table" ∧ ¬ u ∈ five ∧ ¬ u ∈ six) ∧ (plainN 1 u ∧ ¬ u ∈ w2)) h.1 (by rw [c2]; decide)
        refine ⟨_, rfl, _, rfl, (by show 2 ≤ sizeLine; decide), fun p np => ⟨_, rfl, _, _, rfl, rfl, (by show 2 ≤ sizeLine; decide), fun t nt => ?_⟩⟩
        exact kk p t _ (s3.trans ((same_new np).trans (same_new nt))) ((row_one f2 upd_same).same (same_new nt)) (by rw [sz_one f1]; exact upd_same)
      refine iteN (fun z => c2 (strEq z)) ?_
      refine ⟨_, rfl, (by show 5 ≤ sizeLine; decide), fun t4 nt4 => ⟨t4, (["copy", "add", "less", "load", "keep"] : List Str).map V.str, rfl, .inr (SqT.of upd_same), rfl, rfl, _, rfl, ?_⟩⟩
      have s4 := s3.trans (same_new (o := .tup [V.str "copy", V.str "add", V.str "less", V.str "load", V.str "keep"]) nt4)
      rw [show inV (.str h.1) ((["copy", "add", "less", "load", "keep"] : List Str).map V.str) = decide (h.1 ∈ (["copy", "add", "less", "load", "keep"] : List Str)) from inV_str _ _]
      generalize upd G3 t4 (.tup [V.str "copy", V.str "add", V.str "less", V.str "load", V.str "keep"]) = G4 at s4 ⊢

      by_cases c3 : h.1 ∈ w2
      · refine iteP (decide_eq_true c3) ?_
        have kk := next_ok (tail_w2 c3) k
        obtain ⟨f1, f2⟩ := (by decide +kernel : ∀ u ∈ w2, (¬ u = "table" ∧ ¬ u ∈ five ∧ ¬ u ∈ six) ∧ plainN 2 u) _ c3
        refine ⟨_, rfl, _, rfl, _, rfl, (by show 3 ≤ sizeLine; decide), fun p np => ⟨_, rfl, _, _, rfl, rfl, (by show 2 ≤ sizeLine; decide), fun t nt => ?_⟩⟩
        exact kk p t _ (s4.trans ((same_new np).trans (same_new nt))) ((row_two f2 upd_same).same (same_new nt)) (by rw [sz_one f1]; exact upd_same)
      refine iteN (fun z => c3 (of_decide_eq_true z)) ?_
      refine ⟨fun σ G => ∃ tb : Addr, σ = [some (.ref lu), some (.int (at_ : Int)), some (.str h.1), some (.int a), some (.int low), some (.int h.2), some (.ref tb), none] ∧ Same H G ∧ G tb = some (.tup (if h.1 ∈ zb then [V.int a] else [])), ?_, ?_⟩
      · refine ⟨_, rfl, (by show 1 ≤ sizeLine; decide), fun tb ntb => ⟨_, rfl, (by show 2 ≤ sizeLine; decide), fun t5 nt5 => ⟨t5, (["zero", "below"] : List Str).map V.str, rfl, .inr (SqT.of upd_same), rfl, rfl, .inr ⟨_, rfl, ?_⟩⟩⟩⟩
        have sb := (s4.trans (same_new (o := .tup [V.int a]) ntb)).trans (same_new (o := .tup [V.str "zero", V.str "below"]) nt5)
        have hb := same_new (o := .tup [V.str "zero", V.str "below"]) nt5 _ _ (upd_same (H := G4) (a := tb) (o := .tup [V.int a]))
        rw [show (if false = true then !inV (.str h.1) ((["zero", "below"] : List Str).map V.str) else inV (.str h.1) ((["zero", "below"] : List Str).map V.str)) = decide (h.1 ∈ zb) from inV_str _ _]
        by_cases z : h.1 ∈ zb
        · rw [if_pos (decide_eq_true z), if_pos z]
          exact ⟨tb, 1, [V.int a], rfl, rfl, SqT.of hb, List.cons_ne_nil _ _, .inr rfl, fun _ => ⟨tb, rfl, sb, hb⟩, fun y => absurd y (by decide)⟩
        · rw [if_neg (fun y => z (of_decide_eq_true y)), if_neg z]
          exact ⟨tb, 0, [V.int a], rfl, rfl, SqT.of hb, List.cons_ne_nil _ _, .inl rfl, fun y => absurd y (by decide), fun _ p np => ⟨p, rfl, sb.trans (same_new np), upd_same⟩⟩
      clear s4 s3 s2 ht1 ht2
      rintro σ G5 ⟨tb, rfl, s5, htb⟩
      refine ⟨fun σ G => σ = ST7 lu at_ h a low tb none ∧ Same H G ∧ G tb = some (.tup (if h.1 ∈ zb then [V.int a] else [])) ∧ ¬ (h.1 ∈ five ∧ h.2 = 0), ?_, ?_⟩
      · refine ⟨_, rfl, (by show 5 ≤ sizeLine; decide), fun t6 nt6 => ⟨t6, (["jump", "zero", "below", "call", "mark"] : List Str).map V.str, rfl, .inr (SqT.of upd_same), rfl, rfl, _, rfl, ?_⟩⟩
        have s6 := s5.trans (same_new (o := .tup [V.str "jump", V.str "zero", V.str "below", V.str "call", V.str "mark"]) nt6)
        have htb6 := same_new (o := .tup [V.str "jump", V.str "zero", V.str "below", V.str "call", V.str "mark"]) nt6 _ _ htb
        rw [show inV (.str h.1) ((["jump", "zero", "below", "call", "mark"] : List Str).map V.str) = decide (h.1 ∈ five) from (inV_str _ _).trans (decide_eq_decide.mpr ⟨(by decide +kernel : ∀ u ∈ (["jump", "zero", "below", "call", "mark"] : List Str), u ∈ five) _, (by decide +kernel : ∀ u ∈ five, u ∈ (["jump", "zero", "below", "call", "mark"] : List Str)) _⟩)]
        generalize upd G5 t6 (.tup [V.str "jump", V.str "zero", V.str "below", V.str "call", V.str "mark"]) = G6 at s6 htb6 ⊢
        clear htb s5
        have hlu := s6 _ _ hu
        by_cases c5 : h.1 ∈ five
        · refine iteP (decide_eq_true c5) ?_
          refine ⟨_, rfl, rfl, _, rfl, ?_⟩
          by_cases h0 : h.2 = 0
          · refine iteP (by rw [h0]; decide) ?_
            have kk := next_ok (by rw [tail_five c5]; unfold jmpAt; rw [if_pos h0]) k
            refine ⟨_, rfl, (by show 1 ≤ sizeLine; decide), fun t7 nt7 => ⟨_, rfl, t7, tb, [V.str h.1], _, rfl, rfl, upd_same, SqT.of (same_new nt7 _ _ htb6), List.cons_ne_nil _ _, Nat.le_trans (Nat.add_le_add_left len_zb 1) (by decide), fun t8 G8 s8 h8 => ?_⟩⟩
            refine ⟨_, rfl, _, _, rfl, rfl, (by show 2 ≤ sizeLine; decide), fun t9 nt9 => ⟨t8, t9, _, [V.int (low - 64), V.int 0], rfl, rfl, same_new nt9 _ _ h8, SqT.of upd_same, List.cons_ne_nil _ _, Nat.le_trans (Nat.add_le_add_right (show ([V.str h.1] ++ (if h.1 ∈ zb then [V.int a] else [])).length ≤ 2 by rw [List.length_append]; exact Nat.add_le_add_left len_zb 1) _) (show 4 ≤ sizeLine by decide), fun p Gp sp hp => ?_⟩⟩
            refine ⟨_, rfl, _, _, rfl, rfl, (by show 2 ≤ sizeLine; decide), fun t nt => ?_⟩
            refine kk p t _ (s6.trans ((same_new nt7).trans (s8.trans ((same_new nt9).trans (sp.trans (same_new nt)))))) (jrow_row c5 ?_) (by rw [sz_j c5, h0]; exact upd_same)
            rw [← e4c, h0]
            exact same_new nt _ _ hp
          · exact iteN (by simp [h0]) ⟨rfl, s6, htb6, fun y => h0 y.2⟩
        · exact iteN (fun y => c5 (of_decide_eq_true y)) ⟨rfl, s6, htb6, fun y => c5 y.1⟩
      clear s5 htb
      rintro σ G7 ⟨rfl, s7, htb7, c5⟩
      have hlu := s7 _ _ hu
      refine ⟨_, rfl, _, _, rfl, rfl, _, rfl, lu, _, rfl, .inl (SqL.of hlu), _, _, rfl, rfl, _, rfl, ?_⟩
      rw [List.length_map]
      by_cases hge1 : us.length ≤ at_ + 1
      · refine iteP (decide_eq_true (by omega)) ?_
        have kk := next_err (tail_short hmem c1 c2 c3 c5 (List.getElem?_eq_none hge1)) k
        exact ⟨_, rfl, _, _, rfl, rfl, (by show 2 ≤ sizeLine; decide), fun t nt => kk t _ (s7.trans (same_new nt)) upd_same⟩
      refine iteN (fun z => hge1 (by have := of_decide_eq_true z; omega)) ?_
      refine ⟨_, rfl, rfl, _, rfl, ?_⟩
      by_cases c6 : h.1 = "table"
      · refine iteP (by rw [c6]; decide) ?_
        rw [tail_table c6] at k
        exact ⟨_, rfl, _, rfl, _, rfl, lu, us, at_, a, rfl, hlu, hl, by omega, next_same s7 k⟩
      refine iteN (fun z => c6 (strEq z)) ?_
      have hn : us[at_ + 1]? = some (us[at_ + 1]'(by omega)) := List.getElem?_eq_getElem _
      generalize us[at_ + 1]'(by omega) = n at hn
      have hat1 : atI (us.map V.int) ((at_ : Int) + 1) = some (.int n) := atI_nat (j := at_ + 1) (by rw [List.getElem?_map, hn]; rfl)
      have cp : CPow 10 9 := ⟨by decide, by decide, by decide⟩
      have cp6 : CPow 10 6 := ⟨by decide, by decide, by decide⟩
      refine ⟨fun σ G => ∃ tq : Addr, σ = ST7 lu at_ h a low tb (some (.ref tq)) ∧ Same H G ∧ G tb = some (.tup (if h.1 ∈ zb then [V.int a] else [])) ∧ G tq = some (.tup [V.int (loN h.1), V.int (hiN h.1)]), ?_, ?_⟩
      · refine fun p0 np0 => ?_
        have s8 := s7.trans (same_new (o := .dK []) np0)
        have hp8 : upd G7 p0 (.dK []) p0 = _ := upd_same
        generalize hG8 : upd G7 p0 (.dK []) = G8 at s8 hp8 ⊢
        refine ⟨_, _, rfl, rfl, cp, _, _, rfl, rfl, _, _, rfl, rfl, cp, (by show 2 ≤ sizeLine; decide), fun q1 nq1 => ?_⟩
        refine ⟨_, _, rfl, rfl, cp, _, _, rfl, rfl, _, _, rfl, rfl, cp, (by show 2 ≤ sizeLine; decide), fun q2 nq2 => ?_⟩
        have hq1 := same_new (o := .tup [V.int (0 - 10 ^ (9 : Int).toNat), V.int (10 ^ (9 : Int).toNat)]) nq2 _ _ (upd_same (H := G8) (a := q1) (o := .tup [V.int (0 - 10 ^ (9 : Int).toNat), V.int (10 ^ (9 : Int).toNat)]))
        have hp10 := same_new (o := .tup [V.int (0 - 10 ^ (9 : Int).toNat), V.int (10 ^ (9 : Int).toNat)]) nq2 _ _ (same_new (o := .tup [V.int (0 - 10 ^ (9 : Int).toNat), V.int (10 ^ (9 : Int).toNat)]) nq1 _ _ hp8)
        have s10 := (s8.trans (same_new (o := .tup [V.int (0 - 10 ^ (9 : Int).toNat), V.int (10 ^ (9 : Int).toNat)]) nq1)).trans (same_new (o := .tup [V.int (0 - 10 ^ (9 : Int).toNat), V.int (10 ^ (9 : Int).toNat)]) nq2)
        have hq2 : upd (upd G8 q1 (.tup [V.int (0 - 10 ^ (9 : Int).toNat), V.int (10 ^ (9 : Int).toNat)])) q2 (.tup [V.int (0 - 10 ^ (9 : Int).toNat), V.int (10 ^ (9 : Int).toNat)]) q2 = _ := upd_same
        have hb10 : upd (upd G8 q1 (.tup [V.int (0 - 10 ^ (9 : Int).toNat), V.int (10 ^ (9 : Int).toNat)])) q2 (.tup [V.int (0 - 10 ^ (9 : Int).toNat), V.int (10 ^ (9 : Int).toNat)]) tb = some (.tup (if h.1 ∈ zb then [V.int a] else [])) := same_new nq2 _ _ (same_new nq1 _ _ (by rw [← hG8]; exact same_new np0 _ _ htb7))
        generalize upd (upd G8 q1 (.tup [V.int (0 - 10 ^ (9 : Int).toNat), V.int (10 ^ (9 : Int).toNat)])) q2 (.tup [V.int (0 - 10 ^ (9 : Int).toNat), V.int (10 ^ (9 : Int).toNat)]) = G10 at hq1 hq2 hp10 s10 hb10 ⊢
        refine ⟨hp10, [(Sum.inr "set", .ref q1), (Sum.inr "more", .ref q2)], rfl, (by show 2 ≤ 15; decide), ?_⟩
        rw [mergeSM]
        have s11 : Same H (upd G10 p0 (.dK [(Sum.inr "set", .ref q1), (Sum.inr "more", .ref q2)])) := same_put s10 (s7.free np0)
        have ne1 : ∀ (q : Addr) (xs : List V), G10 q = some (.tup xs) → upd G10 p0 (.dK [(Sum.inr "set", .ref q1), (Sum.inr "more", .ref q2)]) q = some (.tup xs) := fun q xs hq => by
          rw [upd_ne (fun z => by rw [z, hp10] at hq; cases hq)]
          exact hq
        have g1 := ne1 _ _ hq1
        have g2 := ne1 _ _ hq2
        have gb := ne1 _ _ hb10
        have gp : upd G10 p0 (.dK [(Sum.inr "set", .ref q1), (Sum.inr "more", .ref q2)]) p0 = _ := upd_same
        generalize upd G10 p0 (.dK [(Sum.inr "set", .ref q1), (Sum.inr "more", .ref q2)]) = G11 at s11 g1 g2 gb gp ⊢
        refine ⟨p0, rfl, .inl ⟨_, .inl gp⟩, _, rfl, _, _, rfl, rfl, cp6, (by show 2 ≤ sizeLine; decide), fun q3 nq3 => ?_⟩
        refine ⟨_, DGet.k (k := Sum.inr h.1) (same_new nq3 _ _ gp), ?_⟩
        rw [valSM]
        have hcase := (by decide +kernel : ∀ h ∈ heads, h.1 = "set" ∨ h.1 = "more" ∨ ¬ h.1 ∈ (["set", "more"] : List Str)) h hmem
        have s12 := s11.trans (same_new (o := .tup [V.int 0, V.int (10 ^ (6 : Int).toNat)]) nq3)
        rcases hcase with z | z | z
        · rw [if_pos z]
          refine ⟨q1, rfl, s12, same_new nq3 _ _ gb, ?_⟩
          rw [same_new nq3 _ _ g1, show loN h.1 = 0 - 10 ^ (9 : Int).toNat by rw [z]; decide, show hiN h.1 = 10 ^ (9 : Int).toNat by rw [z]; decide]
        · rw [if_neg (show ¬ h.1 = "set" by rw [z]; decide), if_pos z]
          refine ⟨q2, rfl, s12, same_new nq3 _ _ gb, ?_⟩
          rw [same_new nq3 _ _ g2, show loN h.1 = 0 - 10 ^ (9 : Int).toNat by rw [z]; decide, show hiN h.1 = 10 ^ (9 : Int).toNat by rw [z]; decide]
        · rw [if_neg (show ¬ h.1 = "set" from fun y => z (by rw [y]; decide)), if_neg (show ¬ h.1 = "more" from fun y => z (by rw [y]; decide))]
          refine ⟨q3, rfl, s12, same_new nq3 _ _ gb, ?_⟩
          rw [upd_same, show loN h.1 = 0 from if_neg z, show hiN h.1 = 10 ^ (6 : Int).toNat from if_neg z]
      clear htb7 s7 hlu
      rintro σ G12 ⟨tq, rfl, s12, htb12, htq12⟩
      refine ⟨fun σ G => ∃ tq : Addr, σ = ST7 lu at_ h a low tb (some (.ref tq)) ∧ Same H G ∧ G tb = some (.tup (if h.1 ∈ zb then [V.int a] else [])) ∧ G tq = some (.tup [ovZ (bdsF h).1, ovZ (bdsF h).2]), ?_, ?_⟩
      · refine ⟨_, rfl, rfl, _, rfl, ?_⟩
        by_cases h1 : h.2 = 1
        · refine iteP (by rw [h1]; decide) ⟨(by show 2 ≤ sizeLine; decide), fun q nq => ⟨q, rfl, s12.trans (same_new nq), same_new nq _ _ htb12, ?_⟩⟩
          rw [upd_same, show bdsF h = (none, none) from if_pos h1]
          rfl
        · refine iteN (by simp [h1]) ⟨tq, rfl, s12, htb12, ?_⟩
          rw [htq12, show bdsF h = (some (loN h.1), some (hiN h.1)) from if_neg h1]
          rfl
      clear htb12 s12 htq12
      rintro σ G13 ⟨tq, rfl, s13, htb13, htq13⟩
      have hlu := s13 _ _ hu
      refine ⟨_, rfl, _, rfl, _, _, rfl, rfl, lu, _, _, .int n, rfl, rfl, SqL.of hlu, hat1, _, rfl, tq, _, 0, _, rfl, rfl, SqT.of htq13, at0 _ _, _, rfl, tq, _, 1, _, rfl, rfl, SqT.of htq13, at1 _ _ _, n, (bdsF h).1, (bdsF h).2, rfl, _, rfl, ?_⟩
      by_cases hw : wholeB n (bdsF h).1 (bdsF h).2 = true
      · refine iteN (by rw [hw]; decide) ?_
        refine ⟨_, rfl, rfl, _, rfl, ?_⟩
        by_cases h1 : h.2 = 1
        · refine iteP (by rw [h1]; decide) ?_
          have c5' := (far01 h hmem).2 h1
          have kk := next_ok (tail_far hmem h1 hn) k
          refine ⟨_, rfl, (by show 1 ≤ sizeLine; decide), fun t7 nt7 => ⟨_, rfl, t7, tb, [V.str h.1], _, rfl, rfl, upd_same, SqT.of (same_new nt7 _ _ htb13), List.cons_ne_nil _ _, Nat.le_trans (Nat.add_le_add_left len_zb 1) (by decide), fun t8 G8 s8 h8 => ?_⟩⟩
          refine ⟨_, rfl, _, rfl, _, _, rfl, rfl, lu, _, _, .int n, rfl, rfl, SqL.of (s8 _ _ (same_new nt7 _ _ hlu)), hat1, (by show 2 ≤ sizeLine; decide), fun t9 nt9 => ⟨t8, t9, _, [V.int n, V.int 1], rfl, rfl, same_new nt9 _ _ h8, SqT.of upd_same, List.cons_ne_nil _ _, Nat.le_trans (Nat.add_le_add_right (show ([V.str h.1] ++ (if h.1 ∈ zb then [V.int a] else [])).length ≤ 2 by rw [List.length_append]; exact Nat.add_le_add_left len_zb 1) _) (show 4 ≤ sizeLine by decide), fun p Gp sp hp => ?_⟩⟩
          refine ⟨_, rfl, _, _, rfl, rfl, (by show 2 ≤ sizeLine; decide), fun t nt => ?_⟩
          refine kk p t _ (s13.trans ((same_new nt7).trans (s8.trans ((same_new nt9).trans (sp.trans (same_new nt)))))) (jrow_row c5' ?_) (by rw [sz_j c5', h1]; exact upd_same)
          rw [← e4c, h1]
          exact same_new nt _ _ hp
        refine iteN (by simp [h1]) ?_
        have hin := whole_in h1 hw
        have h0 : h.2 = 0 := (far01 h hmem).1.resolve_right h1
        refine ⟨_, rfl, rfl, _, rfl, ?_⟩
        by_cases c7 : h.1 = "halt"
        · refine iteP (by rw [c7]; decide) ?_
          have kk := next_ok ((tail_halt c7).trans (by rw [hn]; exact if_pos hin)) k
          obtain ⟨f1, f2⟩ := (by decide +kernel : ∀ u ∈ (["halt"] : List Str), (¬ u = "table" ∧ ¬ u ∈ five ∧ u ∈ six) ∧ (plainN 1 u ∧ ¬ u ∈ w2)) h.1 (by rw [c7]; decide)
          refine ⟨_, rfl, _, rfl, _, rfl, _, _, rfl, rfl, lu, _, _, .int n, rfl, rfl, SqL.of hlu, hat1, (by show 2 ≤ sizeLine; decide), fun p np => ⟨_, rfl, _, _, rfl, rfl, (by show 2 ≤ sizeLine; decide), fun t nt => ?_⟩⟩
          exact kk p t _ (s13.trans ((same_new np).trans (same_new nt))) ((row_one f2 upd_same).same (same_new nt)) (by rw [sz_two f1]; exact upd_same)
        refine iteN (fun z => c7 (strEq z)) ?_
        have c8 : h.1 ∈ (["set", "more", "see", "put", "take"] : List Str) := by
          rcases cls_h h hmem with z | z | z | z | z | z | z
          · exact absurd z.1 c1
          · exact absurd z c2
          · exact absurd z c3
          · exact absurd z c6
          · exact absurd ⟨z, h0⟩ c5
          · exact absurd z c7
          · exact z
        have kk := next_ok ((tail_w5 c8).trans (by rw [hn]; exact if_pos hin)) k
        obtain ⟨f1, f2⟩ := (by decide +kernel : ∀ u ∈ (["set", "more", "see", "put", "take"] : List Str), (¬ u = "table" ∧ ¬ u ∈ five ∧ u ∈ six) ∧ plainN 2 u) h.1 c8
        refine ⟨_, rfl, _, rfl, _, rfl, _, rfl, _, _, rfl, rfl, lu, _, _, .int n, rfl, rfl, SqL.of hlu, hat1, (by show 3 ≤ sizeLine; decide), fun p np => ⟨_, rfl, _, _, rfl, rfl, (by show 2 ≤ sizeLine; decide), fun t nt => ?_⟩⟩
        exact kk p t _ (s13.trans ((same_new np).trans (same_new nt))) ((row_two f2 upd_same).same (same_new nt)) (by rw [sz_two f1]; exact upd_same)
      · refine iteP (by rw [Bool.eq_false_iff.mpr hw]; decide) ?_
        have kk := next_err (tail_err hmem c1 c2 c3 c5 c6 hn hw) k
        exact ⟨_, rfl, _, _, rfl, rfl, (by show 2 ≤ sizeLine; decide), fun t nt => kk t _ (s13.trans (same_new nt)) upd_same⟩
end
end My


set_option Elab.async false
set_option linter.all false
set_option maxRecDepth 100000
set_option maxHeartbeats 4000000
namespace My
open PySem L2
section
variable {P : Program} {w : World} {K : PySem.W.Frag} {mg : Str → Option Value} {base : Heap}
def spLed : Sp := fun vs H Q _ => ∃ (q pd : Addr) (d : FR) (b : Int) (kvs : List (Key × V)) (PL : Int → Option Nat), vs = [.ref q, .int b, .ref pd] ∧ RowF H q d ∧ d.ts.length ≤ 16 ∧ H pd = some (.dK kvs) ∧ (∀ x, valV kvs (Sum.inl x) = (PL x).map fun r : Nat => V.int (r : Int)) ∧
  (none ∈ (d.ts.map fun x => PL (b + x)) → ∀ H', Same H H' → Q .non H') ∧ (¬ none ∈ (d.ts.map fun x => PL (b + x)) → ∀ (p : Addr) (H' : Hp), Same H H' → RowF H' p (withT d ((d.ts.map fun x => PL (b + x)).map fun o => ((o.getD 0 : Nat) : Int))) → Q (.ref p) H')
theorem scLle : FnScope ["_law_row", "_law_behind", "_law_places", "_law_target", "_law_targets"] ["_law_row", "_law_behind", "_law_places"] (defScope sLed) := ⟨rfl, rfl, rfl, by decide +kernel, rfl, by decide +kernel, by decide +kernel⟩
def csLleC1 : Scope := { kind := .function, names := [(".0", .local), ("_law_distance", .local), ("_law_behind", .free), ("_law_places", .free)], isGenerator := false, isCoroutine := false, more := [] }
theorem scLleC1 : CompSc (defScope sLed) csLleC1 ["_law_row", "_law_behind", "_law_places", "_law_target", "_law_targets"] ["_law_distance", "_law_places", "_law_behind"] [none, some 2, some 1] := ⟨rfl, by decide +kernel, by decide +kernel, by decide +kernel, by decide +kernel, by decide +kernel⟩
theorem ok_led {f : Addr} {fd : FuncData} (F : Fun K "_law_led" "_law_led" sLed f fd) (T : Txt K w.params mg) : FnOk P w K mg base CX0 1 f fd ["_law_row", "_law_behind", "_law_places"] spLed := by
  refine F.ok scLle (fun vs H Q E h => ?_) (fun cdv A outer s H vs Q E hr h => ?_)
  · obtain ⟨q, pd, d, b, kvs, PL, rfl, _⟩ := h
    rfl
  · obtain ⟨q, pd, d, b, kvs, PL, rfl, hR, htl, hp, hv, k1, k2⟩ := h
    obtain ⟨items, i1, _⟩ := hR.parts
    have hu1 : (A.deeper (PyProof.Rows.envOfC "_law_led" (defScope sLed) s.heap.objs.size f cdv)).units + 1 < cLine := Nat.lt_of_le_of_lt (Nat.add_le_add_left (by decide : 1 ≤ 64) _) hr.units
    refine wrapX (pssx_cons (psx_if (pt_cmpR op_in_seq (pe_ix ix_tup (pv 0) pe_int (fun _ _ => rfl)) (pe_tupS (.cons pe_str (.cons pe_str (.cons pe_str (.cons pe_str (.cons pe_str .nil)))))) rfl) (pssx_cons (psx_of (ps_set (i := 3) scLle.nd rfl (Or.inl rfl) (pe_dget1 hu1 (pv 2) (pe_op op_add (pv 1) (pe_ix ix_tup (pv 0) (pe_un un_neg pe_int) (fun _ _ => rfl))) ⟨rfl, rfl, rfl, rfl⟩)))
      (pssx_one (psx_of (ps_ret (pe_ix ix_list (pe_lst (pa_cons (pe_op op_catQ (pe_slice sl_tup (pv 0) po_none (po_some (pe_un un_neg pe_int))) (pe_tup (pa_cons (pv 3) (pa_cons (pe_ix ix_tup (pv 0) (pe_un un_neg pe_int) (fun _ _ => rfl)) pa_nil)))) (pa_cons pe_non pa_nil))) (pe_callTy call_int1 (by rfl) T.int bt_int (pa_cons (pe_cmpR op_isN (pv 3) pe_non (nomark _)) pa_nil)) (fun _ _ => rfl)))))) (pssx_nil pss_nil))
      (pssx_cons (psx_if (pt_cmpR op_eq (pe_ix ix_tup (pv 0) pe_int (fun _ _ => rfl)) pe_str (nomark _)) (pssx_cons (psx_of (ps_set (i := 4) scLle.nd rfl (Or.inl rfl) (pe_callTy call_tuple_of (by rfl) T.tuple bt_tuple (pa_cons (pe_comp (N' := ["_law_distance", "_law_places", "_law_behind"]) (fr := [none, some 2, some 1]) scLleC1 rfl (pi_tup (pe_ix ix_tup (pv 0) pe_int (fun _ _ => rfl))) (fun C s0 H0 fp => (pg_name (i := 0) scLleC1.nd rfl (Or.inl rfl))) (fun C s0 H0 fp => pts_nil) (fun C s0 H0 fp => (pe_dget1 hu1 (pv 1) (pe_op op_add (pv 2) (pv 0)) ⟨rfl, rfl, rfl, rfl⟩))) pa_nil))))
      (pssx_one (psx_of (ps_ret (pe_ix ix_list (pe_lst (pa_cons (pe_op op_catQ (pe_slice sl_tup (pv 0) po_none (po_some pe_int)) (pe_tup (pa_cons (pv 4) pa_nil))) (pa_cons pe_non pa_nil))) (pe_callTy call_int1 (by rfl) T.int bt_int (pa_cons (pe_cmpR op_in_seq pe_non (pv 4) rfl) pa_nil)) (fun _ _ => rfl)))))) (pssx_nil pss_nil))
      (pssx_one (psx_of (ps_ret (pv 0)))))) ?_
    refine ⟨_, rfl, q, _, 0, .str d.u, rfl, rfl, SqT.of i1, at0 _ _, (by show 5 ≤ sizeLine; decide), fun t0 nt0 => ⟨t0, (["jump", "zero", "below", "call", "mark"] : List Str).map V.str, rfl, .inr (SqT.of upd_same), rfl, rfl, _, rfl, ?_⟩⟩
    have s0 := same_new (o := .tup [V.str "jump", V.str "zero", V.str "below", V.str "call", V.str "mark"]) nt0
    rw [show inV (.str d.u) ((["jump", "zero", "below", "call", "mark"] : List Str).map V.str) = decide (d.u ∈ five) from (inV_str _ _).trans (decide_eq_decide.mpr ⟨(by decide +kernel : ∀ u ∈ (["jump", "zero", "below", "call", "mark"] : List Str), u ∈ five) _, (by decide +kernel : ∀ u ∈ five, u ∈ (["jump", "zero", "below", "call", "mark"] : List Str)) _⟩)]
    generalize upd H t0 (.tup [V.str "jump", V.str "zero", V.str "below", V.str "call", V.str "mark"]) = G0 at s0 ⊢
    by_cases c5 : d.u ∈ five
    · refine iteP (decide_eq_true c5) ?_
      have e5 : ¬ d.u = "table" ∧ G0 q = some (.tup (.str d.u :: d.is.map V.int)) := ⟨(five_row (hR.same s0) c5).1, (five_row (hR.same s0) c5).2.1⟩
      by_cases ej : d.u ∈ jcm
      · obtain ⟨tt, ff, e1, e2⟩ := hR.1.2.2.1 ej
        have g1 : G0 q = some (.tup [V.str d.u, V.int tt, V.int ff]) := by rw [e5.2, e1]; rfl
        rw [e2] at k1 k2
        refine ⟨_, rfl, pd, rfl, .inl ⟨_, .inl (s0 _ _ hp)⟩, _, rfl, _, rfl, _, rfl, q, _, -2, .int tt, rfl, rfl, SqT.of g1, rfl, _, _, rfl, rfl, _, DGet.k (k := Sum.inl (b + tt)) (s0 _ _ hp), ?_⟩
        rw [hv, getD_ov]
        refine ⟨_, rfl, _, rfl, _, rfl, q, _, rfl, SqT.of g1, fun z => absurd z.2 (by decide : ¬ HT.sIx 3 3 (some (-2)) = 3), fun p np => ?_⟩
        refine ⟨_, rfl, _, rfl, _, rfl, q, _, -1, .int ff, rfl, rfl, SqT.of (same_new np _ _ g1), rfl, (by show 2 ≤ sizeLine; decide), fun t2 nt2 => ⟨p, t2, [V.str d.u], [ovI (PL (b + tt)), V.int ff], rfl, rfl, same_new nt2 _ _ upd_same, SqT.of upd_same, List.cons_ne_nil _ _, (show 3 ≤ sizeLine by decide), fun r Gr sr hr2 => ⟨(by show 2 ≤ sizeLine; decide), fun l nl => ⟨_, rfl, rfl, .inr ⟨_, rfl, ?_⟩⟩⟩⟩⟩
        have sl : Same H (upd Gr l (.lst [V.ref r, V.non])) := s0.trans ((same_new np).trans ((same_new nt2).trans (sr.trans (same_new nl))))
        cases ho : PL (b + tt) with
        | none =>
          exact ⟨l, _, 1, .non, rfl, rfl, SqL.of upd_same, at1 _ _ _, k1 (by show none ∈ [PL (b + tt)]; rw [ho]; exact List.mem_cons_self ..) _ sl⟩
        | some i =>
          refine ⟨l, _, 0, .ref r, rfl, rfl, SqL.of upd_same, at0 _ _, k2 (fun z => by rw [show ([tt].map fun x => PL (b + x)) = [some i] from by show [PL (b + tt)] = _; rw [ho]] at z; cases z with | tail _ z => cases z) r _ sl ?_⟩
          unfold withT
          rw [if_neg (show ¬ d.u = "table" from e5.1), if_pos ej]
          have hf : farF d = ff := by unfold farF; rw [e1]; rfl
          rw [hf, show ([tt].map fun x => PL (b + x)) = [some i] from by show [PL (b + tt)] = _; rw [ho]]
          refine row_jcm ej ?_
          rw [ho] at hr2
          exact same_new nl _ _ hr2
      · have nj := ej
        have ez : d.u ∈ zb := (by decide +kernel : ∀ u ∈ five, ¬ u ∈ jcm → u ∈ zb) _ c5 ej
        obtain ⟨bb, tt, ff, e1, e2⟩ := hR.1.2.2.2.1 ez
        have g1 : G0 q = some (.tup [V.str d.u, V.int bb, V.int tt, V.int ff]) := by rw [e5.2, e1]; rfl
        rw [e2] at k1 k2
        refine ⟨_, rfl, pd, rfl, .inl ⟨_, .inl (s0 _ _ hp)⟩, _, rfl, _, rfl, _, rfl, q, _, -2, .int tt, rfl, rfl, SqT.of g1, rfl, _, _, rfl, rfl, _, DGet.k (k := Sum.inl (b + tt)) (s0 _ _ hp), ?_⟩
        rw [hv, getD_ov]
        refine ⟨_, rfl, _, rfl, _, rfl, q, _, rfl, SqT.of g1, fun z => absurd z.2 (by decide : ¬ HT.sIx 4 4 (some (-2)) = 4), fun p np => ?_⟩
        refine ⟨_, rfl, _, rfl, _, rfl, q, _, -1, .int ff, rfl, rfl, SqT.of (same_new np _ _ g1), rfl, (by show 2 ≤ sizeLine; decide), fun t2 nt2 => ⟨p, t2, [V.str d.u, V.int bb], [ovI (PL (b + tt)), V.int ff], rfl, rfl, same_new nt2 _ _ upd_same, SqT.of upd_same, List.cons_ne_nil _ _, (show 4 ≤ sizeLine by decide), fun r Gr sr hr2 => ⟨(by show 2 ≤ sizeLine; decide), fun l nl => ⟨_, rfl, rfl, .inr ⟨_, rfl, ?_⟩⟩⟩⟩⟩
        have sl : Same H (upd Gr l (.lst [V.ref r, V.non])) := s0.trans ((same_new np).trans ((same_new nt2).trans (sr.trans (same_new nl))))
        cases ho : PL (b + tt) with
        | none =>
          exact ⟨l, _, 1, .non, rfl, rfl, SqL.of upd_same, at1 _ _ _, k1 (by show none ∈ [PL (b + tt)]; rw [ho]; exact List.mem_cons_self ..) _ sl⟩
        | some i =>
          refine ⟨l, _, 0, .ref r, rfl, rfl, SqL.of upd_same, at0 _ _, k2 (fun z => by rw [show ([tt].map fun x => PL (b + x)) = [some i] from by show [PL (b + tt)] = _; rw [ho]] at z; cases z with | tail _ z => cases z) r _ sl ?_⟩
          unfold withT
          rw [if_neg (show ¬ d.u = "table" from e5.1), if_neg nj, if_pos ez]
          have hf : farF d = ff := by unfold farF; rw [e1]; rfl
          rw [hf, e1, show ([tt].map fun x => PL (b + x)) = [some i] from by show [PL (b + tt)] = _; rw [ho]]
          refine row_zb ez ?_
          rw [ho] at hr2
          exact same_new nl _ _ hr2
    · refine iteN (fun z => c5 (of_decide_eq_true z)) ?_
      refine ⟨_, rfl, q, _, 0, .str d.u, rfl, rfl, SqT.of (s0 _ _ i1), at0 _ _, rfl, _, rfl, ?_⟩
      by_cases ct : d.u = "table"
      · refine iteP (by rw [ct]; decide) ?_
        rcases (hR.same s0).2 with ⟨_, bx, pt, eis, g1, g2⟩ | ⟨z, _⟩
        · refine ⟨_, rfl, q, _, 2, .ref pt, rfl, rfl, SqT.of g1, at2 _ _ _ _, pt, rfl, ⟨_, SqT.of g2⟩, fun D nD => comp_tup (K := K) (a := pt) (xs := d.ts.map V.int) (fun j σ ys Gx => ∃ v : Option V, σ = [v, some (.ref pd), some (.int b)] ∧ ys = ((d.ts.map fun x => PL (b + x)).take j).map ovI ∧ Same G0 Gx ∧ Gx D = some (.lst ys)) ?_ ?_ ?_ ?_⟩
          · exact ⟨none, rfl, rfl, same_new nD, upd_same⟩
          · rintro j σ ys Gx _ ⟨v, rfl, rfl, sx, _⟩
            exact SqT.of (sx _ _ g2)
          · rintro j x σ ys Gx hx ⟨v, rfl, rfl, sx, hD⟩
            rw [List.getElem?_map] at hx
            obtain ⟨t, htj, rfl⟩ := Option.map_eq_some_iff.mp hx
            have hpx := sx _ _ (s0 _ _ hp)
            have htj2 : (d.ts.map fun x => PL (b + x))[j]? = some (PL (b + t)) := by rw [List.getElem?_map, htj]; rfl
            refine ⟨_, rfl, pd, rfl, .inl ⟨_, .inl hpx⟩, _, rfl, _, rfl, _, _, rfl, rfl, _, DGet.k (k := Sum.inl (b + t)) hpx, hD, small_lt (by rw [List.length_map, List.length_take, List.length_map]; omega), _, rfl, ?_, same_put sx nD, upd_same⟩
            rw [hv, getD_ov, List.take_add_one, htj2, List.map_append]
            rfl
          · rintro σ ys Gx ⟨v, rfl, rfl, sx, hD⟩
            rw [List.length_map, List.take_of_length_le (by rw [List.length_map]; exact Nat.le_refl _)] at hD
            generalize hos : (d.ts.map fun x => PL (b + x)) = os at hD k1 k2
            refine ⟨D, _, rfl, .inl ⟨SqL.of hD, fun tt ntt => ?_⟩⟩
            have s1 := (s0.trans sx).trans (same_new (o := .tup (os.map ovI)) ntt)
            have g1' := same_new (o := .tup (os.map ovI)) ntt _ _ (sx _ _ g1)
            have hT : upd Gx tt (.tup (os.map ovI)) tt = _ := upd_same
            generalize upd Gx tt (.tup (os.map ovI)) = G1 at s1 g1' hT ⊢
            have hall : (os.map ovI).all flatV = true := by
              rw [List.all_eq_true]
              intro y hy
              obtain ⟨o, _, rfl⟩ := List.mem_map.mp hy
              cases o <;> rfl
            refine ⟨_, rfl, _, rfl, q, _, rfl, SqT.of g1', fun z => absurd z.2 (by decide : ¬ HT.sIx 3 3 (some 2) = 3), fun p np => ?_⟩
            refine ⟨_, rfl, (by show 1 ≤ sizeLine; decide), fun t2 nt2 => ⟨p, t2, [V.str d.u, V.int bx], [V.ref tt], rfl, rfl, same_new nt2 _ _ upd_same, SqT.of upd_same, List.cons_ne_nil _ _, (show 3 ≤ sizeLine by decide), fun r Gr sr hr2 => ⟨(by show 2 ≤ sizeLine; decide), fun l nl => ?_⟩⟩⟩
            have hT2 := same_new (o := .lst [V.ref r, V.non]) nl _ _ (sr _ _ (same_new nt2 _ _ (same_new np _ _ hT)))
            refine ⟨_, rfl, tt, os.map ovI, rfl, .inr (SqT.of hT2), rfl, hall, .inr ⟨_, rfl, ?_⟩⟩
            have sl : Same H (upd Gr l (.lst [V.ref r, V.non])) := s1.trans ((same_new np).trans ((same_new nt2).trans (sr.trans (same_new nl))))
            rw [show (if false = true then !inV .non (os.map ovI) else inV .non (os.map ovI)) = decide (none ∈ os) from inV_non _]
            by_cases hno : none ∈ os
            · rw [if_pos (decide_eq_true hno)]
              exact ⟨l, _, 1, .non, rfl, rfl, SqL.of upd_same, at1 _ _ _, k1 hno _ sl⟩
            · rw [if_neg (fun z => hno (of_decide_eq_true z))]
              refine ⟨l, _, 0, .ref r, rfl, rfl, SqL.of upd_same, at0 _ _, k2 hno r _ sl ?_⟩
              unfold withT
              rw [if_pos ct, eis]
              refine row_table (p := tt) ?_ ?_
              · rw [← ct]; exact same_new nl _ _ hr2
              · rw [hT2, ov_ints hno]
        · exact absurd ct z
      · refine iteN (fun z => ct (strEq z)) ?_
        have nj : ¬ d.u ∈ jcm := fun z => c5 ((by decide +kernel : ∀ u ∈ jcm, u ∈ five) _ z)
        have nz : ¬ d.u ∈ zb := fun z => c5 ((by decide +kernel : ∀ u ∈ zb, u ∈ five) _ z)
        have ets : d.ts = [] := (hR.1.2.2.2.2.1 ct nj nz).1
        rw [ets] at k2
        have k2 := k2 (fun z => by cases z) q G0 s0
        unfold withT at k2
        rw [if_neg ct, if_neg nj, if_neg nz] at k2
        exact ⟨_, rfl, k2 (hR.same s0)⟩
end
end My


set_option Elab.async false
set_option linter.all false
set_option maxRecDepth 100000
set_option maxHeartbeats 4000000
namespace My
open PySem L2
def bgs (ds : List FR) (n : Nat) : List Int := (List.range n).map (beg ds)
theorem bgs_len (ds : List FR) (n : Nat) : (bgs ds n).length = n := by unfold bgs; rw [List.length_map, List.length_range]
theorem bgs_succ (ds : List FR) (n : Nat) : bgs ds (n + 1) = bgs ds n ++ [beg ds n] := by
  unfold bgs
  rw [List.range_succ, List.map_append]
  rfl
theorem begs_bgs (ds : List FR) (n : Nat) : bgs ds n ++ [beg ds n] = begs ds n := by
  unfold bgs begs
  rw [List.range_succ, List.map_append]
  rfl
theorem beg_app {ds : List FR} {j : Nat} (l : List FR) (h : j ≤ ds.length) : beg (ds ++ l) j = beg ds j := by
  unfold beg
  rw [List.take_append_of_le_length h]
theorem bgs_app {ds : List FR} {n : Nat} (l : List FR) (h : n ≤ ds.length) : bgs (ds ++ l) n = bgs ds n := by
  unfold bgs
  exact List.map_congr_left fun j hj => beg_app l (by have := List.mem_range.mp hj; omega)
theorem bgs_at {ds : List FR} {n j : Nat} (h : j < n) : (bgs ds n)[j]? = some (beg ds j) := by
  unfold bgs
  rw [List.getElem?_map, List.getElem?_range h]
  rfl
theorem beg_lt {ds : List FR} (h : ∀ d ∈ ds, FarOk d ∧ d.ts.length ≤ 16) {i : Nat} : ∀ j, i < j → j ≤ ds.length → beg ds i < beg ds j
  | 0, hi, _ => absurd hi (Nat.not_lt_zero _)
  | j + 1, hi, hj => by
    have hd : ds[j]? = some ds[j] := List.getElem?_eq_getElem (by omega)
    have h1 := sz_pos' (h ds[j] (List.getElem_mem _)).1
    rw [beg_succ hd]
    by_cases e : i = j
    · subst e; omega
    · have := beg_lt h (i := i) j (Nat.lt_of_le_of_ne (Nat.le_of_lt_succ hi) e) (Nat.le_of_succ_le hj)
      omega
theorem plL_none {ds : List FR} {x : Int} : ∀ n, (∀ j, j < n → beg ds j ≠ x) → plL ds n x = none
  | 0, _ => rfl
  | n + 1, h => by
    show (if beg ds n = x then some n else plL ds n x) = none
    rw [if_neg (h n (Nat.lt_succ_self n)), plL_none n fun j hj => h j (by omega)]
def kvB (ds : List FR) (n : Nat) : List (Key × V) := (List.range n).map fun k => (Sum.inl (beg ds k), V.int (k : Int))
theorem kvB_succ (ds : List FR) (n : Nat) : kvB ds (n + 1) = kvB ds n ++ [(Sum.inl (beg ds n), V.int (n : Int))] := by
  unfold kvB
  rw [List.range_succ, List.map_append]
  rfl
theorem valV_app (l : List (Key × V)) (k : Key) (e : Key × V) : valV (l ++ [e]) k = (valV l k).or (if e.1 = k then some e.2 else none) := by
  unfold valV
  rw [List.find?_append]
  cases l.find? (fun kv => decide (kv.1 = k)) with
  | some v => rfl
  | none =>
    by_cases z : e.1 = k
    · simp [z]
    · simp [z]
theorem kv_val {ds : List FR} (h : ∀ d ∈ ds, FarOk d ∧ d.ts.length ≤ 16) (x : Int) : ∀ n, n ≤ ds.length → valV (kvB ds n) (Sum.inl x) = (plL ds n x).map fun r : Nat => V.int (r : Int)
  | 0, _ => rfl
  | n + 1, hn => by
    rw [kvB_succ, valV_app, kv_val h x n (by omega)]
    show Option.or _ (if (Sum.inl (beg ds n) : Key) = Sum.inl x then some (V.int (n : Int)) else none) = (if beg ds n = x then some n else plL ds n x).map _
    by_cases z : beg ds n = x
    · rw [if_pos z, if_pos (by rw [z]), plL_none n fun j hj => by have := beg_lt h n hj (by omega); omega]
      rfl
    · rw [if_neg z, if_neg (fun y => z (Sum.inl.inj y))]
      cases plL ds n x <;> rfl
theorem kv_nd {ds : List FR} (h : ∀ d ∈ ds, FarOk d ∧ d.ts.length ≤ 16) {n : Nat} (hn : n ≤ ds.length) : ((kvB ds n).map (·.1)).Nodup := by
  unfold kvB
  rw [List.map_map]
  refine List.pairwise_map.mpr ?_
  refine List.Pairwise.imp_of_mem ?_ List.pairwise_lt_range
  intro a b ha hb hab z
  have := beg_lt h b hab (by have := List.mem_range.mp hb; omega)
  have z := Sum.inl.inj z
  omega
theorem kvB_at {ds : List FR} {n i : Nat} {k : Key} {v : V} (h : (kvB ds n)[i]? = some (k, v)) : k = Sum.inl (beg ds i) ∧ v = V.int (i : Int) ∧ i < n := by
  have hi := (List.getElem?_eq_some_iff.mp h).1
  unfold kvB at h hi
  rw [List.length_map, List.length_range] at hi
  rw [List.getElem?_map, List.getElem?_range hi] at h
  cases h
  exact ⟨rfl, rfl, hi⟩
theorem kvB_len (ds : List FR) (n : Nat) : (kvB ds n).length = n := by unfold kvB; rw [List.length_map, List.length_range]
theorem ints_daQ (K : PySem.W.Frag) {H : Hp} {l : Addr} {xs : List Int} (h : H l = some (.lst (xs.map V.int))) : DaAt K H (.ref l) (.lst (xs.map Da.int)) := by
  refine .lst (SqL.of h) (by rw [List.length_map, List.length_map]) fun i x d g1 g2 => ?_
  rw [List.getElem?_map] at g1 g2
  obtain ⟨j, hj, rfl⟩ := Option.map_eq_some_iff.mp g1
  rw [hj] at g2
  cases g2
  exact .int _
theorem ints_nbQ (xs : List Int) : (Da.lst (xs.map Da.int)).Nb 1 := .lst fun d hd => by
  obtain ⟨j, _, rfl⟩ := List.mem_map.mp hd
  exact .int
def DueRes (r : Except Nat (List FR)) (H : Hp) (Q : VK) : Prop := match r with
  | .ok ds => ∀ (t lr : Addr) (H' : Hp), Same H H' → RowsF H' lr ds → H' t = some (.tup [.str "rows", .ref lr]) → Q (.ref t) H'
  | .error e => ∀ (t : Addr) (H' : Hp), Same H H' → H' t = some (.tup [.str "none", .int (e : Int)]) → Q (.ref t) H'
theorem rows_snoc {G : Hp} {qs : List Addr} {ds : List FR} {p : Addr} {d : FR} (hn : qs.length = ds.length) (h : ∀ (i : Nat) q e, qs[i]? = some q → ds[i]? = some e → RowF G q e) (hp : RowF G p d) : ∀ (i : Nat) q e, (qs ++ [p])[i]? = some q → (ds ++ [d])[i]? = some e → RowF G q e := by
  intro i q e g1 g2
  by_cases hi : i < qs.length
  · rw [List.getElem?_append_left hi] at g1
    rw [List.getElem?_append_left (by rw [← hn]; exact hi)] at g2
    exact h i q e g1 g2
  · have h9 := (List.getElem?_eq_some_iff.mp g1).1
    rw [List.length_append, List.length_singleton] at h9
    have ei : i = qs.length := by omega
    subst ei
    rw [show (qs ++ [p])[qs.length]? = some p by simp] at g1
    rw [hn, show (ds ++ [d])[ds.length]? = some d by simp] at g2
    cases g1
    cases g2
    exact hp
end My


set_option Elab.async false
set_option linter.all false
set_option maxRecDepth 100000
set_option maxHeartbeats 4000000
namespace My
open PySem L2
theorem bt_dict : bootBuiltins "dict" = some (.type "dict") := by decide +kernel
section
variable {P : Program} {w : World} {K : PySem.W.Frag} {mg : Str → Option Value} {base : Heap}
def spDue : Sp := fun vs H Q _ => ∃ (lu : Addr) (us : List Int), vs = [.ref lu] ∧ H lu = some (.lst (us.map V.int)) ∧ us.length ≤ 900 ∧ DueRes (unitsRd us) H Q
theorem scLdu : FnScope ["_law_units", "_law_found", "_law_begins", "_law_at", "_law_row", "_law_places", "_law_rows", "_law_k", "_law_led_here"] ["_law_units"] (defScope sDue) := ⟨rfl, rfl, rfl, by decide +kernel, rfl, by decide +kernel, by decide +kernel⟩
def csLduC1 : Scope := { kind := .function, names := [(".0", .local), ("_law_k", .local), ("_law_begin", .local)], isGenerator := false, isCoroutine := false, more := [] }
theorem scLduC1 : CompSc (defScope sDue) csLduC1 ["_law_units", "_law_found", "_law_begins", "_law_at", "_law_row", "_law_places", "_law_rows", "_law_k", "_law_led_here"] ["_law_k", "_law_begin"] [none, none] := ⟨rfl, by decide +kernel, by decide +kernel, by decide +kernel, by decide +kernel, by decide +kernel⟩
theorem ok_due {f fN fL : Addr} {fd fdN fdL : FuncData} (F : Fun K "_law_due" "_law_due" sDue f fd) (T : Txt K w.params mg) (GN : FnOk P w K mg base CX0 3 fN fdN ["_law_units", "_law_at"] spLNext) (kN : PySem.W.keepIn K (.ref fN) = true) (bN : Binds K fdN ["_law_units", "_law_at"] []) (mN : mg "_law_next" = some (.ref fN)) (GL : FnOk P w K mg base CX0 1 fL fdL ["_law_row", "_law_behind", "_law_places"] spLed) (kL : PySem.W.keepIn K (.ref fL) = true) (bL : Binds K fdL ["_law_row", "_law_behind", "_law_places"] []) (mL : mg "_law_led" = some (.ref fL)) : FnOk P w K mg base CX0 4 f fd ["_law_units"] spDue := by
  refine F.ok scLdu (fun vs H Q E h => ?_) (fun cdv A outer s H vs Q E hr h => ?_)
  · obtain ⟨lu, us, rfl, _⟩ := h
    rfl
  · obtain ⟨lu, us, rfl, hu, hl, k⟩ := h
    have hrL : Room 1 (A.deeper (PyProof.Rows.envOfC "_law_due" (defScope sDue) s.heap.objs.size f cdv)) := hr.mono (by decide)
    have hu0 : (A.deeper (PyProof.Rows.envOfC "_law_due" (defScope sDue) s.heap.objs.size f cdv)).units + 6 < cLine := Nat.lt_of_le_of_lt (Nat.add_le_add_left (by decide : 6 ≤ 64) _) hr.units
    refine wrapX (pssx_cons (psx_of (ps_set (i := 1) scLdu.nd rfl (Or.inl rfl) (pe_lst pa_nil)))
      (pssx_cons (psx_of (ps_set (i := 2) scLdu.nd rfl (Or.inl rfl) (pe_lst pa_nil)))
      (pssx_cons (psx_of (ps_set (i := 3) scLdu.nd rfl (Or.inl rfl) pe_int))
      (pssx_cons (psx_of (ps_while PassesOwn.never (pw_or (pt_cmpR op_lt (pv 3) (pe_callB call_len_seq (by rfl) T.len bt_len (pa_cons (pv 0) pa_nil)) (nomark _)) (pw_or1 (pt_cmpR (op_eqA hu0) (pv 2) (pe_lst pa_nil) (nomark _)))).pt (pss_cons (ps_expr (pe_bm PySem.F.plainAttrs_list PySem.F.slot_list_append PySem.F.type_list_append mt_append (pv 2) (pa_cons (pv 3) pa_nil)))
      (pss_cons (ps_asg (pe_call GN hr (by rfl) mN kN bN .nil pass0 (pa_cons (pv 0) (pa_cons (pv 3) pa_nil))) (pg_tup (n := 2) rfl (pgs_cons (pg_name (i := 4) scLdu.nd rfl (Or.inl rfl)) (pgs_cons (pg_name (i := 3) scLdu.nd rfl (Or.inl rfl)) pgs_nil))))
      (pss_cons (ps_if (pt_cmpR op_isN (pv 4) pe_non (nomark _)) (pss_one (ps_ret (pe_tup (pa_cons pe_str (pa_cons (pv 3) pa_nil))))) pss_nil)
      (pss_one (ps_expr (pe_bm PySem.F.plainAttrs_list PySem.F.slot_list_append PySem.F.type_list_append mt_append (pv 1) (pa_cons (pv 4) pa_nil)))))))))
      (pssx_cons (psx_of (ps_set (i := 5) scLdu.nd rfl (Or.inl rfl) (pe_callTy (call_dict_pairs rfl) (by rfl) T.dict bt_dict (pa_cons (pe_comp (N' := ["_law_k", "_law_begin"]) (fr := [none, none]) scLduC1 rfl (pi_enum rfl T.enum (pa_cons (pv 2) pa_nil)) (fun C s0 H0 fp => (pg_two (K := K) (i := 0) (j := 1) rfl rfl scLduC1.nd rfl (Or.inl rfl) rfl (Or.inl rfl))) (fun C s0 H0 fp => pts_nil) (fun C s0 H0 fp => (pe_tup (pa_cons (pv 1) (pa_cons (pv 0) pa_nil))))) pa_nil))))
      (pssx_cons (psx_of (ps_set (i := 6) scLdu.nd rfl (Or.inl rfl) (pe_lst pa_nil)))
      (pssx_cons (psx_of (ps_for PassesOwn.never rfl (pi_enum rfl T.enum (pa_cons (pv 1) pa_nil)) (pg_two (K := K) (i := 7) (j := 4) rfl rfl scLdu.nd rfl (Or.inl rfl) rfl (Or.inl rfl)) (pss_cons (ps_set (i := 8) scLdu.nd rfl (Or.inl rfl) (pe_call GL hrL (by rfl) mL kL bL .nil pass0 (pa_cons (pv 4) (pa_cons (pe_ix ix_list (pe_op op_cat (pv 2) (pe_lst (pa_cons (pv 3) pa_nil))) (pe_op op_add (pv 7) pe_int) (fun _ _ => rfl)) (pa_cons (pv 5) pa_nil)))))
      (pss_cons (ps_if (pw_or (pt_cmpR op_isN (pv 8) pe_non (nomark _)) (pw_or1 (pw_and (pt_cmpR op_eq (pv 7) (pe_op op_sub (pe_callB call_len_seq (by rfl) T.len bt_len (pa_cons (pv 1) pa_nil)) pe_int) (nomark _)) (pw_and1 (pt_cmpR op_notIn_seq (pe_ix ix_tup (pv 4) pe_int (fun _ _ => rfl)) (pe_tup (pa_cons pe_str (pa_cons pe_str (pa_cons pe_str (pa_cons pe_str pa_nil))))) rfl))).pt)).pt (pss_one (ps_ret (pe_tup (pa_cons pe_str (pa_cons (pe_ix ix_list (pv 2) (pv 7) (fun _ _ => rfl)) pa_nil))))) pss_nil)
      (pss_one (ps_expr (pe_bm PySem.F.plainAttrs_list PySem.F.slot_list_append PySem.F.type_list_append mt_append (pv 6) (pa_cons (pv 8) pa_nil))))))))
      (pssx_one (psx_of (ps_ret (pe_tup (pa_cons pe_str (pa_cons (pv 6) pa_nil))))))))))))) ?_
    refine ⟨Nat.le_of_ble_eq_true rfl, fun lf nlf => ?_⟩
    have s0 := same_new (o := .lst []) nlf
    have hlf : upd H lf (.lst []) lf = some (.lst (([] : List Addr).map V.ref)) := upd_same
    generalize upd H lf (.lst []) = G0 at s0 hlf ⊢
    refine ⟨Nat.le_of_ble_eq_true rfl, fun lb nlb => ?_⟩
    have nlbH : H lb = none := s0.free nlb
    have s1 := s0.trans (same_new (o := .lst []) nlb)
    have hlf1 := same_new (o := .lst []) nlb _ _ hlf
    have hlb1 : upd G0 lb (.lst []) lb = some (.lst (([] : List Int).map V.int)) := upd_same
    have nfb : lf ≠ lb := fun z => by rw [z, nlb] at hlf; cases hlf
    clear hlf
    generalize upd G0 lb (.lst []) = G1 at s1 hlf1 hlb1 ⊢
    refine ⟨fun mm σ G => ∃ (at_ : Nat) (qs : List Addr) (ds : List FR) (v4 : Option V), σ = [some (.ref lu), some (.ref lf), some (.ref lb), some (.int (at_ : Int)), v4, none, none, none, none] ∧ Same H G ∧ G lf = some (.lst (qs.map V.ref)) ∧ G lb = some (.lst ((bgs ds ds.length).map V.int)) ∧ (qs.length = ds.length ∧ ∀ (i : Nat) q d, qs[i]? = some q → ds[i]? = some d → RowF G q d) ∧ readN us (us.length + 1) 0 = appD ds (readN us mm at_) ∧ us.length < at_ + mm ∧ ds.length ≤ us.length ∧ (at_ : Int) = beg ds ds.length ∧ ∀ d ∈ ds, FarOk d ∧ d.ts.length ≤ 16, ⟨us.length + 1, 0, [], [], none, rfl, s1, hlf1, hlb1, ⟨rfl, fun i q d g => by simp at g⟩, ?_, by omega, Nat.zero_le _, rfl, fun d hd => (List.not_mem_nil hd).elim⟩, ?_⟩
    · cases readN us (us.length + 1) 0 <;> rfl
    clear hlf1 hlb1 s1
    rintro mm σ G ⟨at_, qs, ds, v4, rfl, s1, hlf, hlb, hR, hrd, hf, hdu, hat, hfar⟩
    refine ⟨_, rfl, _, rfl, lu, _, rfl, .inl (SqL.of (s1 _ _ hu)), _, _, rfl, rfl, _, rfl, ?_⟩
    rw [List.length_map]
    by_cases hlt : at_ < us.length
    · refine iteP (decide_eq_true (by omega)) (iteP rfl ?_)
      have nle : ¬ us.length ≤ at_ := by omega
      have hne : ¬ us = [] := fun z => by rw [z] at hlt; exact absurd hlt (Nat.not_lt_zero _)
      unfold unitsRd at k
      rw [if_neg hne] at k
      obtain ⟨f0, rfl⟩ : ∃ f0, mm = f0 + 1 := ⟨mm - 1, by omega⟩
      refine ⟨fun σ G => ∃ (at2 : Nat) (qs : List Addr) (ds : List FR) (v4 : Option V), σ = [some (.ref lu), some (.ref lf), some (.ref lb), some (.int (at2 : Int)), v4, none, none, none, none] ∧ Same H G ∧ G lf = some (.lst (qs.map V.ref)) ∧ G lb = some (.lst ((bgs ds ds.length).map V.int)) ∧ (qs.length = ds.length ∧ ∀ (i : Nat) q d, qs[i]? = some q → ds[i]? = some d → RowF G q d) ∧ readN us (us.length + 1) 0 = appD ds (readN us f0 at2) ∧ us.length < at2 + f0 ∧ ds.length ≤ us.length ∧ (at2 : Int) = beg ds ds.length ∧ ∀ d ∈ ds, FarOk d ∧ d.ts.length ≤ 16, ?_, ?_⟩
      · rintro σ' G' ⟨at2, qs, ds, v4, rfl, a1, a2, a3, a4, a5, a6, a7, a8, a9⟩
        exact ⟨f0, by omega, at2, qs, ds, v4, rfl, a1, a2, a3, a4, a5, a6, a7, a8, a9⟩
      refine ⟨_, rfl, .inl ⟨rfl, _, SqL.of hlb⟩, _, rfl, lb, _, _, rfl, rfl, hlb, small_lt (by rw [List.length_map, bgs_len]; omega), ?_⟩
      have eB : (bgs ds ds.length).map V.int ++ [V.int (at_ : Int)] = (bgs ds (ds.length + 1)).map V.int := by rw [bgs_succ, List.map_append, hat]; rfl
      rw [eB]
      have s2 : Same H (upd G lb (.lst ((bgs ds (ds.length + 1)).map V.int))) := same_put s1 nlbH
      have hlf2 : upd G lb (.lst ((bgs ds (ds.length + 1)).map V.int)) lf = some (.lst (qs.map V.ref)) := by rw [upd_ne nfb]; exact hlf
      have hlb2 : upd G lb (.lst ((bgs ds (ds.length + 1)).map V.int)) lb = _ := upd_same
      have hR2 : ∀ (i : Nat) q d, qs[i]? = some q → ds[i]? = some d → RowF (upd G lb (.lst ((bgs ds (ds.length + 1)).map V.int))) q d := fun i q d a b => (hR.2 i q d a b).put hlb
      generalize upd G lb (.lst ((bgs ds (ds.length + 1)).map V.int)) = G2 at s2 hlf2 hlb2 hR2 ⊢
      refine ⟨_, rfl, _, rfl, lu, us, at_, rfl, s2 _ _ hu, by omega, ?_⟩
      cases hrow : rowAt us at_ with
      | error e' =>
        rw [readN_err nle hrow] at hrd
        rw [hrd] at k
        intro t G3 s3 ht
        refine ⟨t, _, rfl, SqT.of ht, rfl, _, _, rfl, _, _, rfl, rfl, ?_⟩
        refine ⟨_, rfl, rfl, _, rfl, iteP (by decide) ?_⟩
        exact ⟨_, rfl, (by show 2 ≤ sizeLine; decide), fun tt ntt => k tt _ (s2.trans (s3.trans (same_new ntt))) upd_same⟩
      | ok d =>
        rw [readN_ok nle hrow] at hrd
        have hok := row_ok hrow
        have hsz := sz_pos' hok.1
        intro p t G3 s3 hp ht
        refine ⟨t, _, rfl, SqT.of ht, rfl, _, _, rfl, _, _, rfl, rfl, ?_⟩
        refine ⟨_, rfl, rfl, _, rfl, iteN (by simp) ?_⟩
        have hlf3 := s3 _ _ hlf2
        refine ⟨_, rfl, .inl ⟨rfl, _, SqL.of hlf3⟩, _, rfl, lf, _, _, rfl, rfl, hlf3, small_lt (by rw [List.length_map, hR.1]; omega), ?_⟩
        rw [show qs.map V.ref ++ [V.ref p] = (qs ++ [p]).map V.ref by rw [List.map_append]; rfl]
        obtain ⟨sn, hsn⟩ := Int.eq_ofNat_of_zero_le (show 0 ≤ szF d by omega)
        have hbe : beg (ds ++ [d]) (ds.length + 1) = beg ds ds.length + szF d := by
          rw [beg_succ (d := d) (by simp), beg_app _ (Nat.le_refl _)]
        have hln : (ds ++ [d]).length = ds.length + 1 := by rw [List.length_append]; rfl
        refine ⟨at_ + sn, qs ++ [p], ds ++ [d], some (.ref p), by show _ = [some (V.ref lu), some (V.ref lf), some (V.ref lb), some (V.int ((at_ + sn : Nat) : Int)), some (.ref p), none, none, none, none]; rw [hsn]; rfl, same_put (s2.trans s3) nlf, upd_same, ?_, ⟨by rw [List.length_append, List.length_append, hR.1]; rfl, rows_snoc hR.1 (fun i q e a b => ((hR2 i q e a b).same s3).put hlf3) (hp.put hlf3)⟩, ?_, by rw [hsn] at hsz; omega, ?_, ?_, ?_⟩
        · rw [upd_ne (Ne.symm nfb), s3 _ _ hlb2, hln]
          congr 3
          rw [bgs_succ, bgs_succ, bgs_app _ (Nat.le_refl _), beg_app _ (Nat.le_refl _)]
        · rw [hrd, hsn]
          rfl
        · rw [hln]
          have hbp : ((ds.length : Nat) : Int) ≤ beg ds ds.length := by
            have key : ∀ j, j ≤ ds.length → (j : Int) ≤ beg ds j := by
              intro j
              induction j with
              | zero => intro _; exact Int.le_refl 0
              | succ j ih =>
                intro hj
                have h1 := ih (Nat.le_of_succ_le hj)
                have h2 := beg_lt hfar (i := j) (j + 1) (Nat.lt_succ_self j) hj
                push_cast
                omega
            exact key _ (Nat.le_refl _)
          omega
        · rw [hln, hbe, ← hat, hsn]
          rfl
        · intro e he
          rcases List.mem_append.mp he with z | z
          · exact hfar e z
          · rw [List.mem_singleton] at z
            rw [z]
            exact hok
    · refine iteN (fun z => hlt (by have := of_decide_eq_true z; omega)) ?_
      have hge : us.length ≤ at_ := by omega
      refine ⟨_, rfl, Nat.le_of_ble_eq_true rfl, fun l0 nl0 => ?_⟩
      have t1 := same_new (o := .lst []) nl0
      have s2 := s1.trans t1
      have h0 : upd G l0 (.lst []) l0 = some (.lst (([] : List Int).map V.int)) := upd_same
      have hlf2 := t1 _ _ hlf
      have hlb2 := t1 _ _ hlb
      have hR2 : ∀ (i : Nat) q d, qs[i]? = some q → ds[i]? = some d → RowF (upd G l0 (.lst [])) q d := fun i q d a b => (hR.2 i q d a b).same t1
      clear t1
      generalize upd G l0 (.lst []) = G2 at s2 h0 hlf2 hlb2 hR2 ⊢
      refine ⟨1, lb, l0, _, _, rfl, rfl, ints_daQ K hlb2, ints_daQ K h0, ints_nbQ _, ints_nbQ _, by decide, _, rfl, ?_⟩
      rw [readN_end hge] at hrd
      have hrd : readN us (us.length + 1) 0 = .ok ds := by rw [hrd]; show Except.ok (ds ++ []) = _; rw [List.append_nil]
      by_cases hds : ds = []
      · subst hds
        refine iteP (by decide) ?_
        have hus : us = [] := by
          by_cases z : us = []
          · exact z
          · have hp : 0 < us.length := List.length_pos_iff.mpr z
            have : (at_ : Int) = 0 := hat
            omega
        unfold unitsRd at k
        rw [if_pos hus] at k
        have hat0 : at_ = 0 := by have : (at_ : Int) = 0 := hat; omega
        obtain ⟨f0, rfl⟩ : ∃ f0, mm = f0 + 1 := ⟨mm - 1, by omega⟩
        refine ⟨fun σ G => ∃ (at2 : Nat) (qs : List Addr) (ds : List FR) (v4 : Option V), σ = [some (.ref lu), some (.ref lf), some (.ref lb), some (.int (at2 : Int)), v4, none, none, none, none] ∧ Same H G ∧ G lf = some (.lst (qs.map V.ref)) ∧ G lb = some (.lst ((bgs ds ds.length).map V.int)) ∧ (qs.length = ds.length ∧ ∀ (i : Nat) q d, qs[i]? = some q → ds[i]? = some d → RowF G q d) ∧ readN us (us.length + 1) 0 = appD ds (readN us f0 at2) ∧ us.length < at2 + f0 ∧ ds.length ≤ us.length ∧ (at2 : Int) = beg ds ds.length ∧ ∀ d ∈ ds, FarOk d ∧ d.ts.length ≤ 16, ?_, ?_⟩
        · rintro σ' G' ⟨at2, qs, ds, v4, rfl, a1, a2, a3, a4, a5, a6, a7, a8, a9⟩
          exact ⟨f0, by omega, at2, qs, ds, v4, rfl, a1, a2, a3, a4, a5, a6, a7, a8, a9⟩
        refine ⟨_, rfl, .inl ⟨rfl, _, SqL.of hlb2⟩, _, rfl, lb, _, _, rfl, rfl, hlb2, (by decide), ?_⟩
        have s3 : Same H (upd G2 lb (.lst ((bgs [] ([] : List FR).length).map V.int ++ [V.int (at_ : Int)]))) := same_put s2 nlbH
        generalize upd G2 lb (.lst ((bgs [] ([] : List FR).length).map V.int ++ [V.int (at_ : Int)])) = G3 at s3 ⊢
        refine ⟨_, rfl, _, rfl, lu, us, at_, rfl, s3 _ _ hu, by omega, ?_⟩
        have hrow : rowAt us at_ = .error 0 := by unfold rowAt; rw [hus, hat0]; rfl
        rw [hrow]
        intro t G4 s4 ht
        refine ⟨t, _, rfl, SqT.of ht, rfl, _, _, rfl, _, _, rfl, rfl, ?_⟩
        refine ⟨_, rfl, rfl, _, rfl, iteP (by decide) ?_⟩
        exact ⟨_, rfl, (by show 2 ≤ sizeLine; decide), fun tt ntt => k tt _ (s3.trans (s4.trans (same_new ntt))) upd_same⟩
      · refine iteN (fun z => hds ?_) ?_
        · rw [Bool.false_xor] at z
          have z := of_decide_eq_true z
          injection z with z
          have z2 := congrArg List.length z
          rw [List.length_map, bgs_len] at z2
          exact List.length_eq_zero_iff.mp z2
        have hus : ¬ us = [] := fun z => by
          rw [z] at hrd
          exact hds (by injection hrd with e; exact e.symm)
        unfold unitsRd at k
        rw [if_neg hus, hrd] at k
        have k : DueRes (ledE ds 0 ds) H Q := k
        have hdl : ds.length ≤ 900 := by omega
        refine ⟨_, rfl, lb, rfl, ⟨_, SqL.of hlb2⟩, fun D nD => comp_enum (K := K) (a := lb) (xs := (bgs ds ds.length).map V.int) (fun i σ ys Gx => ∃ (v1 v2 : Option V) (ts : List Addr), σ = [v1, v2] ∧ ys = ts.map V.ref ∧ ts.length = i ∧ (∀ (j : Nat) t, ts[j]? = some t → Gx t = some (.tup [V.int (beg ds j), V.int (j : Int)])) ∧ Same G2 Gx ∧ Gx D = some (.lst ys)) ?_ ?_ ?_ ?_⟩
        · exact ⟨none, none, [], rfl, rfl, rfl, fun j t g => by simp at g, same_new nD, upd_same⟩
        · rintro i σ ys Gx _ ⟨v1, v2, ts, rfl, rfl, _, _, sx, _⟩
          exact SqL.of (sx _ _ hlb2)
        · rintro i x σ ys Gx t hx nt ⟨v1, v2, ts, rfl, rfl, htl, htp, sx, hD⟩
          rw [List.getElem?_map] at hx
          obtain ⟨y, hy, rfl⟩ := Option.map_eq_some_iff.mp hx
          have hil : i < ds.length := by have := (List.getElem?_eq_some_iff.mp hy).1; rw [bgs_len] at this; exact this
          rw [bgs_at hil] at hy
          cases hy
          have u1 := same_new (o := .tup [V.int (i : Int), V.int (beg ds i)]) nt
          refine ⟨t, _, rfl, SqT.of upd_same, rfl, _, _, rfl, _, _, rfl, rfl, ?_⟩
          refine ⟨_, rfl, _, rfl, (by show 2 ≤ sizeLine; decide), fun t2 nt2 => ?_⟩
          have u2 := u1.trans (same_new (o := .tup [V.int (beg ds i), V.int (i : Int)]) nt2)
          have ht2 : upd (upd Gx t (.tup [V.int (i : Int), V.int (beg ds i)])) t2 (.tup [V.int (beg ds i), V.int (i : Int)]) t2 = _ := upd_same
          generalize upd (upd Gx t (.tup [V.int (i : Int), V.int (beg ds i)])) t2 (.tup [V.int (beg ds i), V.int (i : Int)]) = Gy at u2 ht2 ⊢
          refine ⟨u2 _ _ hD, small_lt (by rw [List.length_map]; omega), _, _, ts ++ [t2], rfl, by rw [List.map_append]; rfl, by rw [List.length_append, htl]; rfl, fun j t' g => ?_, same_put (sx.trans u2) nD, upd_same⟩
          by_cases hj : j < ts.length
          · rw [List.getElem?_append_left hj] at g
            have e := htp j t' g
            rw [upd_ne (fun z => by rw [z, hD] at e; cases e)]
            exact u2 _ _ e
          · have h9 := (List.getElem?_eq_some_iff.mp g).1
            rw [List.length_append, List.length_singleton] at h9
            have ej : j = ts.length := by omega
            subst ej
            rw [show (ts ++ [t2])[ts.length]? = some t2 by simp] at g
            cases g
            rw [upd_ne (fun z => by have e := u2 _ _ hD; rw [← z, ht2] at e; cases e), ht2, htl]
        · rintro σ ys Gx ⟨v1, v2, ts, rfl, rfl, htl, htp, sx, hD⟩
          rw [List.length_map, bgs_len] at htl
          refine ⟨D, ts, kvB ds ds.length, rfl, hD, by rw [kvB_len, htl], fun i t kk vv g1 g2 => ?_, by rw [kvB_len]; omega, kv_nd hfar (Nat.le_refl _), fun pd npd => ?_⟩
          · obtain ⟨rfl, rfl, _⟩ := kvB_at g2
            exact htp i t g1
          have sp := sx.trans (same_new (o := .dK (kvB ds ds.length)) npd)
          have s3 := s2.trans sp
          have hlf3 := sp _ _ hlf2
          have hlb3 := sp _ _ hlb2
          have hR3 : ∀ (i : Nat) q d, qs[i]? = some q → ds[i]? = some d → RowF (upd Gx pd (.dK (kvB ds ds.length))) q d := fun i q d a b => (hR2 i q d a b).same sp
          have hpd : upd Gx pd (.dK (kvB ds ds.length)) pd = _ := upd_same
          clear sp
          generalize upd Gx pd (.dK (kvB ds ds.length)) = G3 at s3 hlf3 hlb3 hR3 hpd ⊢
          refine ⟨Nat.le_of_ble_eq_true rfl, fun la nla => ?_⟩
          have t5 := same_new (o := .lst []) nla
          have s5 := s3.trans t5
          have nlaH : H la = none := s3.free nla
          have h5 : upd G3 la (.lst []) la = some (.lst (([] : List Addr).map V.ref)) := upd_same
          have nF : lf ≠ la := fun z => by rw [z, nla] at hlf3; cases hlf3
          have nB : lb ≠ la := fun z => by rw [z, nla] at hlb3; cases hlb3
          have nP : pd ≠ la := fun z => by rw [z, nla] at hpd; cases hpd
          have hlf5 := t5 _ _ hlf3
          have hlb5 := t5 _ _ hlb3
          have hpd5 := t5 _ _ hpd
          have hR5 : ∀ (i : Nat) q d, qs[i]? = some q → ds[i]? = some d → RowF (upd G3 la (.lst [])) q d := fun i q d a b => (hR3 i q d a b).same t5
          clear t5 hlf3 hlb3 hpd hR3
          generalize upd G3 la (.lst []) = G5 at s5 h5 hlf5 hlb5 hpd5 hR5 ⊢
          refine ⟨_, rfl, lf, rfl, ⟨_, SqL.of hlf5⟩, for_enum (K := K) (xs := qs.map V.ref) (fun i σ G => ∃ (v4 v7 v8 : Option V) (ps : List Addr) (ms : List FR), σ = [some (.ref lu), some (.ref lf), some (.ref lb), some (.int (at_ : Int)), v4, some (.ref pd), some (.ref la), v7, v8] ∧ Same H G ∧ Keep5 G5 G la ∧ G la = some (.lst (ps.map V.ref)) ∧ (ps.length = ms.length ∧ ∀ (j : Nat) q d, ps[j]? = some q → ms[j]? = some d → RowF G q d) ∧ ledE ds 0 ds = appD ms (ledE ds i (ds.drop i)) ∧ ms.length = i ∧ i ≤ ds.length) ?_ ?_ ?_ ?_⟩
          · refine ⟨_, none, none, [], [], rfl, s5, fun a o e n => e, h5, ⟨rfl, fun j q d g => by simp at g⟩, ?_, rfl, Nat.zero_le _⟩
            rw [List.drop_zero]
            cases ledE ds 0 ds <;> rfl
          · rintro i σ G' _ ⟨v4, v7, v8, ps, ms, rfl, t6, k6, _⟩
            exact SqL.of (k6 _ _ hlf5 nF)
          · rintro i x σ G' tt hx ntt ⟨v4, v7, v8, ps, ms, rfl, t6, k6, hla, hps, hled, hml, hid⟩
            rw [List.getElem?_map] at hx
            obtain ⟨q, hq, rfl⟩ := Option.map_eq_some_iff.mp hx
            have hil : i < ds.length := by have := (List.getElem?_eq_some_iff.mp hq).1; omega
            have hd : ds[i]? = some ds[i] := List.getElem?_eq_getElem hil
            have hdr : ds.drop i = ds[i] :: ds.drop (i + 1) := List.drop_eq_getElem_cons hil
            have hfd := hfar ds[i] (List.getElem_mem hil)
            generalize ds[i] = d at hd hdr hfd
            have hrow := hR5 i q d hq hd
            have s7 := same_new (o := .tup [V.int i, V.ref q]) ntt
            have t7 := t6.trans s7
            have k7 : Keep5 G5 (upd G' tt (.tup [V.int i, V.ref q])) la := fun a o e n => s7 _ _ (k6 a o e n)
            have hla7 := s7 _ _ hla
            have hps7 : ∀ (j : Nat) q' d', ps[j]? = some q' → ms[j]? = some d' → RowF (upd G' tt (.tup [V.int i, V.ref q])) q' d' := fun j q' d' a b => (hps.2 j q' d' a b).same s7
            have htt : upd G' tt (.tup [V.int i, V.ref q]) tt = _ := upd_same
            generalize upd G' tt (.tup [V.int i, V.ref q]) = G7 at s7 t7 k7 hla7 hps7 htt ⊢
            refine ⟨tt, _, rfl, SqT.of htt, rfl, _, _, rfl, _, _, rfl, rfl, ?_⟩
            have hrow7 := hrow.keep k7 h5
            have hlb7 := k7 _ _ hlb5 nB
            have hlf7 := k7 _ _ hlf5 nF
            have hpd7 := k7 _ _ hpd5 nP
            rw [hdr] at hled
            have hbp := beg_pos hfar i (by omega)
            have bad : badR ds i d = true → ∀ (t : Addr) (Gy : Hp), Same G7 Gy → Gy t = none → Q (.ref t) (upd Gy t (.tup [.str "none", .int (beg ds i)])) := fun z t Gy sy nt => by
              rw [led_err z] at hled
              rw [hled] at k
              refine k t _ (t7.trans (sy.trans (same_new nt))) ?_
              rw [upd_same, show (((beg ds i).toNat : Nat) : Int) = beg ds i by omega]
            have good : badR ds i d = false → ∀ (p : Addr) (Gy : Hp), Same G7 Gy → RowF Gy p (ledR ds i d) → ∃ (v4 v7 v8 : Option V) (ps' : List Addr) (ms' : List FR), ([some (.ref lu), some (.ref lf), some (.ref lb), some (.int (at_ : Int)), some (.ref q), some (.ref pd), some (.ref la), some (.int (i : Int)), some (.ref p)] : St) = [some (.ref lu), some (.ref lf), some (.ref lb), some (.int (at_ : Int)), v4, some (.ref pd), some (.ref la), v7, v8] ∧ Same H (upd Gy la (.lst ((ps ++ [p]).map V.ref))) ∧ Keep5 G5 (upd Gy la (.lst ((ps ++ [p]).map V.ref))) la ∧ upd Gy la (.lst ((ps ++ [p]).map V.ref)) la = some (.lst (ps'.map V.ref)) ∧ (ps'.length = ms'.length ∧ ∀ (j : Nat) q d, ps'[j]? = some q → ms'[j]? = some d → RowF (upd Gy la (.lst ((ps ++ [p]).map V.ref))) q d) ∧ ledE ds 0 ds = appD ms' (ledE ds (i + 1) (ds.drop (i + 1))) ∧ ms'.length = i + 1 ∧ i + 1 ≤ ds.length := fun z p Gy sy hp => by
              rw [led_ok z] at hled
              have hlay := sy _ _ hla7
              exact ⟨_, _, _, ps ++ [p], ms ++ [ledR ds i d], rfl, same_put (t7.trans sy) nlaH, fun a o e n => by rw [upd_ne n]; exact sy _ _ (k7 a o e n), upd_same, ⟨by rw [List.length_append, List.length_append, hps.1]; rfl, rows_snoc hps.1 (fun j q e a b => ((hps7 j q e a b).same sy).put hlay) (hp.put hlay)⟩, hled, by rw [List.length_append, hml]; rfl, by omega⟩
            have eA : (bgs ds ds.length).map V.int ++ [V.int (at_ : Int)] = (begs ds ds.length).map V.int := by rw [← begs_bgs, List.map_append, hat]; rfl
            refine ⟨_, rfl, _, rfl, _, rfl, (by show 1 ≤ sizeLine; decide), fun l1 nl1 => ⟨lb, l1, _, _, rfl, rfl, same_new nl1 _ _ hlb7, upd_same, Nat.le_trans (show ((bgs ds ds.length).map V.int).length + 1 ≤ 1000 by rw [List.length_map, bgs_len]; omega) (by decide), fun l2 nl2 => ?_⟩⟩
            rw [eA]
            have u8 := (same_new (o := .lst [V.int (at_ : Int)]) nl1).trans (same_new (o := .lst ((begs ds ds.length).map V.int)) nl2)
            have h8 : upd (upd G7 l1 (.lst [V.int (at_ : Int)])) l2 (.lst ((begs ds ds.length).map V.int)) l2 = _ := upd_same
            generalize upd (upd G7 l1 (.lst [V.int (at_ : Int)])) l2 (.lst ((begs ds ds.length).map V.int)) = G8 at u8 h8 ⊢
            have hatb : ∀ n : Nat, n < ds.length → atI ((bgs ds ds.length).map V.int) (n : Int) = some (.int (beg ds n)) := fun n hn => atI_nat (by rw [List.getElem?_map, bgs_at hn]; rfl)
            refine ⟨_, rfl, _, _, rfl, rfl, l2, _, _, .int (beg ds (i + 1)), rfl, rfl, SqL.of h8, atI_nat (j := i + 1) (by rw [List.getElem?_map, begs_at (by omega)]; rfl), _, rfl, q, pd, d, beg ds (i + 1), kvB ds ds.length, plL ds ds.length, rfl, hrow7.same u8, hfd.2, u8 _ _ hpd7, fun x => kv_val hfar x _ (Nat.le_refl _), fun hno G9 s9 => ?_, fun hno p G9 s9 hp => ?_⟩
            · have u9 := u8.trans s9
              refine ⟨_, rfl, rfl, _, rfl, iteP (by decide) (iteP rfl ?_)⟩
              exact ⟨_, rfl, _, rfl, lb, _, _, .int (beg ds i), rfl, rfl, SqL.of (u9 _ _ hlb7), hatb i hil, (by show 2 ≤ sizeLine; decide), fun t nt => bad (by unfold badR; rw [show decide (none ∈ ledT ds ds.length i d) = true from decide_eq_true hno]; rfl) t _ u9 nt⟩
            · have u9 := u8.trans s9
              have hno' : decide (none ∈ ledT ds ds.length i d) = false := decide_eq_false hno
              have hp : RowF G9 p (ledR ds i d) := hp
              refine ⟨_, rfl, rfl, _, rfl, iteN (by simp) ?_⟩
              refine ⟨_, rfl, _, rfl, lf, _, rfl, .inl (SqL.of (u9 _ _ hlf7)), _, _, rfl, rfl, rfl, _, rfl, ?_⟩
              rw [List.length_map, hR.1]
              by_cases hlast : i + 1 = ds.length
              · refine iteP (decide_eq_true (by show V.int (i : Int) = V.int (((ds.length : Nat) : Int) - 1); congr 1; omega)) ?_
                obtain ⟨items, i1, _⟩ := (hrow7.same u9).parts
                refine ⟨_, rfl, q, _, 0, .str d.u, rfl, rfl, SqT.of i1, at0 _ _, (by show 4 ≤ sizeLine; decide), fun t4 nt4 => ⟨t4, (["stop", "back", "halt", "jump"] : List Str).map V.str, rfl, .inr (SqT.of upd_same), rfl, rfl, _, rfl, ?_⟩⟩
                have u10 := u9.trans (same_new (o := .tup [V.str "stop", V.str "back", V.str "halt", V.str "jump"]) nt4)
                have hp10 := hp.same (same_new (o := .tup [V.str "stop", V.str "back", V.str "halt", V.str "jump"]) nt4)
                rw [show inV (.str d.u) ((["stop", "back", "halt", "jump"] : List Str).map V.str) = decide (d.u ∈ notOn) from inV_str _ _]
                generalize upd G9 t4 (.tup [V.str "stop", V.str "back", V.str "halt", V.str "jump"]) = G10 at u10 hp10 ⊢
                by_cases hon : d.u ∈ notOn
                · have hbf : badR ds i d = false := by unfold badR; rw [hno', decide_eq_true hon]; simp
                  refine iteN (by rw [decide_eq_true hon]; decide) ?_
                  have hla10 := u10 _ _ hla7
                  refine ⟨_, rfl, .inl ⟨rfl, _, SqL.of hla10⟩, _, rfl, la, _, _, rfl, rfl, hla10, small_lt (by rw [List.length_map, hps.1]; omega), ?_⟩
                  rw [show ps.map V.ref ++ [V.ref p] = (ps ++ [p]).map V.ref by rw [List.map_append]; rfl]
                  exact good hbf p G10 u10 hp10
                · have hbt : badR ds i d = true := by unfold badR; rw [decide_eq_true hlast, decide_eq_false hon]; simp
                  refine iteP (by rw [decide_eq_false hon]; rfl) ?_
                  exact ⟨_, rfl, _, rfl, lb, _, _, .int (beg ds i), rfl, rfl, SqL.of (u10 _ _ hlb7), hatb i hil, (by show 2 ≤ sizeLine; decide), fun t nt => bad hbt t _ u10 nt⟩
              · have hbf : badR ds i d = false := by unfold badR; rw [hno', decide_eq_false hlast]; rfl
                refine iteN (fun z => hlast (by have := V.int.inj (of_decide_eq_true z); omega)) ?_
                have hla10 := u9 _ _ hla7
                refine ⟨_, rfl, .inl ⟨rfl, _, SqL.of hla10⟩, _, rfl, la, _, _, rfl, rfl, hla10, small_lt (by rw [List.length_map, hps.1]; omega), ?_⟩
                rw [show ps.map V.ref ++ [V.ref p] = (ps ++ [p]).map V.ref by rw [List.map_append]; rfl]
                exact good hbf p G9 u9 hp
          · rintro σ G' ⟨v4, v7, v8, ps, ms, rfl, t6, k6, hla, hps, hled, hml, hid⟩
            rw [List.length_map, hR.1, List.drop_length] at hled
            have hled : ledE ds 0 ds = .ok ms := by rw [hled]; show Except.ok (ms ++ []) = _; rw [List.append_nil]
            rw [hled] at k
            exact ⟨_, rfl, (by show 2 ≤ sizeLine; decide), fun t nt => k t la _ (t6.trans (same_new nt)) ⟨ps, same_new nt _ _ hla, hps.1, fun i q d a b => (hps.2 i q d a b).same (same_new nt)⟩ upd_same⟩
end
end My


set_option Elab.async false
set_option linter.all false
set_option maxRecDepth 100000
set_option maxHeartbeats 4000000
namespace L2
open PySem PySem.W PySem.Spec PySem.Calls PyProof.Rows
section
variable {X : Cx}
/-! ### a call within a pair: ('text', f(..)) -/
def cPair (x : Str) (c : V → TE) : V → TE := fun v σ H Q => c v σ H fun y H1 => ∀ p, H1 p = none → Q (.ref p) (upd H1 p (.tup [.str x, y]))
theorem per_pair {x : Str} {j p0 pos x1} {e : Expr} {t : TA} {c : V → TE} {f : Addr} (he0 : PEr X e f t c)
    (he : starEach [.Constant (.str x) j p0, e] X.env = [(false, eval (.Constant (.str x) j p0) X.env), (false, eval e X.env)] := by rfl) : PEr X (.Tuple [.Constant (.str x) j p0, e] x1 pos) f t (cPair x c) := by
  intro XE pins s σ H Q W I h hW
  refine wpAny_Tuple_spliced ?_
  rw [he]
  show wpAny _ _ (spliced ((false, eval (.Constant (.str x) j p0) X.env) :: (false, eval e X.env) :: [])) _ _ s
  refine Calls.spliced_cons (Calls.Constant_str ?_)
  refine Calls.spliced_cons (wpAny_mono (he0 XE pins _ σ H (fun y H1 => ∀ p, H1 p = none → Q (.ref p) (upd H1 p (.tup [.str x, y]))) W (I.tok _) h hW) (fun u s1 hu => ?_) fun _ _ z => z)
  obtain ⟨y, H1, I1, r1, q1⟩ := hu
  refine Calls.spliced_nil ⟨by show 2 ≤ sizeLine; decide, ?_⟩
  have hf : H1 s1.heap.objs.size = none := I1.hok.fresh (Nat.le_refl _)
  refine ⟨.ref s1.heap.objs.size, upd H1 s1.heap.objs.size (.tup [.str x, y]), I1.laid (t' := s1.toks) (fun b u e => Heap.get?_push_of_some _ e) (Nat.le_refl _) ?_, rfl, q1 _ hf⟩
  exact ⟨by show 2 ≤ sizeLine; decide, _, .cons ⟨_, rfl⟩ (.cons r1 .nil), ⟨_, Heap.get?_push_size _ rfl, rfl, _, rfl⟩⟩
end
end L2


set_option Elab.async false
set_option linter.all false
set_option maxRecDepth 100000
set_option maxHeartbeats 4000000
namespace My
open PySem L2
theorem ints_da (K : PySem.W.Frag) (H : Hp) (ms : List Int) : ∀ (i : Nat) x d, (ms.map V.int)[i]? = some x → (ms.map Da.int)[i]? = some d → DaAt K H x d := fun i x d h1 h2 => by
  rw [List.getElem?_map] at h1 h2
  obtain ⟨j, hj, rfl⟩ := Option.map_eq_some_iff.mp h1
  rw [hj] at h2
  cases h2
  exact .int _
/-! ### rows and claims as data of == -/
def frDa (d : FR) : Da := if d.u = "table" then .tup [.str d.u, .int (d.is.headD 0), .tup (d.ts.map Da.int)] else .tup (.str d.u :: d.is.map Da.int)
theorem row_daF (K : PySem.W.Frag) {H : Hp} {q : Addr} {d : FR} (h : RowF H q d) : DaAt K H (.ref q) (frDa d) := by
  unfold frDa
  rcases h.2 with ⟨a, b, p, e, h1, h2⟩ | ⟨a, h1⟩
  · rw [if_pos a, e]
    refine .tup (SqT.of h1) rfl fun i x d' g1 g2 => ?_
    match i, g1, g2 with
    | 0, g1, g2 => cases g1; cases g2; exact .str _
    | 1, g1, g2 => cases g1; cases g2; exact .int _
    | 2, g1, g2 => cases g1; cases g2; exact .tup (SqT.of h2) (by simp) (ints_da K H _)
  · rw [if_neg a]
    refine .tup (SqT.of h1) (by simp) fun i x d' g1 g2 => ?_
    cases i with
    | zero => simp at g1 g2; subst g1; subst g2; exact .str _
    | succ i => exact ints_da K H d.is i x d' (by simpa using g1) (by simpa using g2)
theorem ints_nbT (ms : List Int) : (Da.tup (ms.map Da.int)).Nb 1 := .tup fun d hd => by
  obtain ⟨j, _, rfl⟩ := List.mem_map.mp hd
  exact .int
theorem fr_nb (d : FR) : (frDa d).Nb 2 := by
  unfold frDa
  split
  · refine .tup fun x hx => ?_
    rcases List.mem_cons.mp hx with rfl | hx
    · exact .str
    rcases List.mem_cons.mp hx with rfl | hx
    · exact .int
    rw [List.mem_singleton.mp hx]
    exact ints_nbT _
  · refine .tup fun x hx => ?_
    rcases List.mem_cons.mp hx with rfl | hx
    · exact .str
    obtain ⟨j, _, rfl⟩ := List.mem_map.mp hx
    exact .int
theorem rows_daF (K : PySem.W.Frag) {H : Hp} {l : Addr} {qs : List Addr} {ds : List FR} (hl : H l = some (.lst (qs.map V.ref))) (hn : qs.length = ds.length) (h : ∀ (i : Nat) q d, qs[i]? = some q → ds[i]? = some d → RowF H q d) : DaAt K H (.ref l) (.lst (ds.map frDa)) := by
  refine .lst (SqL.of hl) (by simp [hn]) fun i x e g1 g2 => ?_
  rw [List.getElem?_map] at g1 g2
  obtain ⟨q, hq, rfl⟩ := Option.map_eq_some_iff.mp g1
  obtain ⟨d, hd, rfl⟩ := Option.map_eq_some_iff.mp g2
  exact row_daF K (h i q d hq hd)
theorem rows_nb (ds : List FR) : (Da.lst (ds.map frDa)).Nb 3 := .lst fun x hx => by
  obtain ⟨d, _, rfl⟩ := List.mem_map.mp hx
  exact fr_nb d
theorem RowsF.da (K : PySem.W.Frag) {H : Hp} {l : Addr} {ds : List FR} (h : RowsF H l ds) : DaAt K H (.ref l) (.lst (ds.map frDa)) := by
  obtain ⟨qs, a, b, c⟩ := h
  exact rows_daF K a b c
theorem pair_da (K : PySem.W.Frag) {H : Hp} {p : Addr} {x : Str} {v : V} {b : Da} (h : H p = some (.tup [.str x, v])) (hb : DaAt K H v b) : DaAt K H (.ref p) (.tup [.str x, b]) := by
  refine .tup (SqT.of h) rfl fun i y d g1 g2 => ?_
  match i, g1, g2 with
  | 0, g1, g2 => cases g1; cases g2; exact .str _
  | 1, g1, g2 => cases g1; cases g2; exact hb
theorem bt_ve : bootBuiltins "ValueError" = some (.type "ValueError") := by decide +kernel
theorem k_list_boolQ {K : PySem.W.Frag} : PySem.W.kitOne K (.type "list") (.type "bool") = some false := kit_ty (by decide) (by decide +kernel) (by decide +kernel)
theorem pair_nbN {x : Str} {b : Da} {n : Nat} (h : b.Nb n) : (Da.tup [.str x, b]).Nb (n + 1) := .tup fun d hd => by
  rcases List.mem_cons.mp hd with rfl | hd
  · exact .str
  · rw [List.mem_singleton.mp hd]
    exact h
/-- what the top tells of the classes of exceptions -/
structure Ys (K : PySem.W.Frag) (mg : Str → Option Value) (cNoUnits cRowError cNoFree cNoLayout cNoRows cNoText cNoWish fI : Addr) : Prop where
  mNoUnits : mg "NoUnits" = some (.ref cNoUnits)
  mRowError : mg "RowError" = some (.ref cRowError)
  mNoFree : mg "NoFree" = some (.ref cNoFree)
  mNoLayout : mg "NoLayout" = some (.ref cNoLayout)
  mNoRows : mg "NoRows" = some (.ref cNoRows)
  mNoText : mg "NoText" = some (.ref cNoText)
  mNoWish : mg "NoWish" = some (.ref cNoWish)
  mValueError : mg "ValueError" = none
  cx : XIni K cNoUnits cRowError fI
  kC : PySem.W.keepIn K (.ref cNoUnits) = true
  exm : PySem.W.exmOne K (.ref cNoUnits) (.ref cRowError) = some true
  oth : PySem.W.kitAny K (.ref cNoUnits) [.ref cNoFree, .ref cNoLayout, .ref cNoRows, .ref cNoText, .ref cNoWish] = some false
  own : PySem.W.kitOne K (.ref cNoUnits) (.ref cNoUnits) = some true
  val : PySem.W.kitOne K (.ref cNoUnits) (.type "ValueError") = some true
section
variable {P : Program} {w : World} {K : PySem.W.Frag} {mg : Str → Option Value} {base : Heap}
theorem scLrd : FnScope ["_law_units", "_law_found", "e", "_law_others"] ["_law_units"] (defScope sLRead) := ⟨rfl, rfl, rfl, by decide +kernel, rfl, by decide +kernel, by decide +kernel⟩
section
variable {cNoUnits cRowError cNoFree cNoLayout cNoRows cNoText cNoWish fI : Addr}
theorem ok_lread {f fF : Addr} {fd fdF : FuncData} (F : Fun K "_law_read" "_law_read" sLRead f fd) (T : Txt K w.params mg) (Y : Ys K mg cNoUnits cRowError cNoFree cNoLayout cNoRows cNoText cNoWish fI)
    (GF : FnOk P w K mg base (CX2 P w) 8 fF fdF ["units"] (spRou cNoUnits)) (kF : PySem.W.keepIn K (.ref fF) = true) (bF : Binds K fdF ["units"] []) (mF : mg "rows_of_units" = some (.ref fF)) : FnOk P w K mg base CX0 9 f fd ["_law_units"] spDue := by
  refine F.ok scLrd (fun vs H Q E h => ?_) (fun cdv A outer s H vs Q E hr h => ?_)
  · obtain ⟨lu, us, rfl, _⟩ := h
    rfl
  · obtain ⟨lu, us, rfl, hu, hl, k⟩ := h
    refine ⟨_, (pss_cons (ps_set (i := 1) scLrd.nd rfl (Or.inl rfl) (pe_tup (pa_cons pe_str (pa_cons pe_non pa_nil))))
      (pss_cons (ps_tryG (i := 2) (n := "e") (psr_set (i := 1) scLrd.nd rfl (Or.inl rfl) (per_pair (per_call (pa_cons (pv 0) pa_nil) (by rfl) mF kF))) GF hr bF .nil rfl rfl rfl rfl (by rfl) Y.mRowError scLrd.nd rfl rfl (fun ea => (pss_cons (ps_set (i := 3) scLrd.nd rfl (Or.inl rfl) (pe_callB (r := rIsDT K cNoUnits) (call_isdT Y.cx.rd PySem.F.attr_ValueError) (by rfl) T.isi bt_isi (pa_cons (pv 2) (pa_cons (pe_tup (pa_cons (pe_glob (v := .ref cNoFree) (by rfl) Y.mNoFree rfl) (pa_cons (pe_glob (v := .ref cNoLayout) (by rfl) Y.mNoLayout rfl) (pa_cons (pe_glob (v := .ref cNoRows) (by rfl) Y.mNoRows rfl) (pa_cons (pe_glob (v := .ref cNoText) (by rfl) Y.mNoText rfl) (pa_cons (pe_glob (v := .ref cNoWish) (by rfl) Y.mNoWish rfl) pa_nil)))))) pa_nil))))
      (pss_one (ps_if (pw_and (pt_val (pe_callB (r := rIsD K cNoUnits) (call_isd Y.cx.rd PySem.F.attr_ValueError) (by rfl) T.isi bt_isi (pa_cons (pv 2) (pa_cons (pe_glob (v := .ref cNoUnits) (by rfl) Y.mNoUnits rfl) pa_nil)))) (pw_and (pt_val (pe_callB (r := rIsD K cNoUnits) (call_isd Y.cx.rd PySem.F.attr_ValueError) (by rfl) T.isi bt_isi (pa_cons (pv 2) (pa_cons (pe_bltn (v := .ty "ValueError") (by rfl) Y.mValueError bt_ve rfl) pa_nil)))) (pw_and1 (pt_not (pt_val (pv 3)))))).pt (pss_one (ps_set (i := 1) scLrd.nd rfl (Or.inl rfl) (pe_tup (pa_cons pe_str (pa_cons (pe_xat Y.cx (pv 2)) pa_nil))))) pss_nil)))))
      (pss_one (ps_ret (pv 1))))), ?_⟩
    refine ⟨(by show 2 ≤ sizeLine; decide), fun t0 n0 => ?_⟩
    have s0 := same_new (o := .tup [V.str "other", V.non]) n0
    generalize upd H t0 (.tup [V.str "other", V.non]) = G0 at s0 ⊢
    refine ⟨_, rfl, lu, us, rfl, s0 _ _ hu, by omega, ?_⟩
    cases hr : unitsRd us with
    | ok ds =>
      rw [hr] at k
      intro lr G1 s1 nlr hR
      refine fun p np => ⟨_, rfl, ?_⟩
      exact k p lr _ ((s0.trans s1).trans (same_new np)) (hR.same (same_new np)) upd_same
    | error r =>
      rw [hr] at k
      intro H7 d s7 hd
      refine ⟨Y.exm, fun ea hea => ?_⟩
      have s8 := same_new (o := excD ea (.ref cNoUnits) (some d)) hea
      have e8 : upd H7 ea (excD ea (.ref cNoUnits) (some d)) ea = _ := upd_same
      have d8 := s8 _ _ hd
      generalize upd H7 ea (excD ea (.ref cNoUnits) (some d)) = H8 at s8 e8 d8 ⊢
      refine ⟨_, rfl, Nat.le_of_ble_eq_true rfl, fun tp ntp => ?_⟩
      have s9 := same_new (o := .tup [V.ref cNoFree, V.ref cNoLayout, V.ref cNoRows, V.ref cNoText, V.ref cNoWish]) ntp
      have t9 : upd H8 tp (.tup [V.ref cNoFree, V.ref cNoLayout, V.ref cNoRows, V.ref cNoText, V.ref cNoWish]) tp = _ := upd_same
      have e9 := s9 _ _ e8
      have d9 := s9 _ _ d8
      generalize upd H8 tp (.tup [V.ref cNoFree, V.ref cNoLayout, V.ref cNoRows, V.ref cNoText, V.ref cNoWish]) = H9 at s9 t9 e9 d9 ⊢
      refine ⟨ea, tp, _, _, false, rfl, e9, t9, fun cvs hv => ?_, ?_⟩
      · cases hv with | cons a1 hv => cases hv with | cons a2 hv => cases hv with | cons a3 hv => cases hv with | cons a4 hv => cases hv with | cons a5 hv =>
        cases hv
        cases a1
        cases a2
        cases a3
        cases a4
        cases a5
        exact Y.oth
      refine ⟨_, rfl, ea, _, .ref cNoUnits, true, rfl, e9, (fun cv hc => by cases hc; exact Y.own), _, rfl, iteP (by decide) ?_⟩
      refine ⟨_, rfl, ea, _, .ty "ValueError", true, rfl, e9, (fun cv hc => by cases hc; exact Y.val), _, rfl, iteP (by decide) ?_⟩
      refine ⟨_, rfl, _, rfl, iteP (by decide) ?_⟩
      refine ⟨_, rfl, ea, d, r, rfl, e9, d9, (by show 2 ≤ sizeLine; decide), fun p np => ?_⟩
      exact ⟨_, rfl, k p _ ((s0.trans (s7.trans (s8.trans s9))).trans (same_new np)) upd_same⟩
end
/-! ### the law's own look at units -/
def spRightL : Sp := fun vs H Q _ => ∃ (lu : Addr) (us : List Int), vs = [.ref lu] ∧ H lu = some (.lst (us.map V.int)) ∧ us.length ≤ 900 ∧ ∀ H', Same H H' → Q (.bl true) H'
theorem scLri : FnScope ["_law_units", "_law_handed", "_law_found"] ["_law_units"] (defScope sRightL) := ⟨rfl, rfl, rfl, by decide +kernel, rfl, by decide +kernel, by decide +kernel⟩
theorem ok_right {f fR fD : Addr} {fd fdR fdD : FuncData} (F : Fun K "_law_right" "_law_right" sRightL f fd) (T : Txt K w.params mg) (GR : FnOk P w K mg base CX0 9 fR fdR ["_law_units"] spDue) (kR : PySem.W.keepIn K (.ref fR) = true) (bR : Binds K fdR ["_law_units"] []) (mR : mg "_law_read" = some (.ref fR)) (GD : FnOk P w K mg base CX0 4 fD fdD ["_law_units"] spDue) (kD : PySem.W.keepIn K (.ref fD) = true) (bD : Binds K fdD ["_law_units"] []) (mD : mg "_law_due" = some (.ref fD)) : FnOk P w K mg base CX0 10 f fd ["_law_units"] spRightL := by
  refine F.ok scLri (fun vs H Q E h => ?_) (fun cdv A outer s H vs Q E hr h => ?_)
  · obtain ⟨lu, us, rfl, _⟩ := h
    rfl
  · obtain ⟨lu, us, rfl, hu, hl, k⟩ := h
    have hrD : Room 4 (A.deeper (PyProof.Rows.envOfC "_law_right" (defScope sRightL) s.heap.objs.size f cdv)) := hr.mono (by decide)
    have hu0 : (A.deeper (PyProof.Rows.envOfC "_law_right" (defScope sRightL) s.heap.objs.size f cdv)).units + 6 < cLine := Nat.lt_of_le_of_lt (Nat.add_le_add_left (by decide : 6 ≤ 64) _) hr.units
    refine wrapX (pssx_cons (psx_of (ps_set (i := 1) scLri.nd rfl (Or.inl rfl) (pe_callTy call_list_of (by rfl) T.list bt_list (pa_cons (pv 0) pa_nil))))
      (pssx_cons (psx_of (ps_set (i := 2) scLri.nd rfl (Or.inl rfl) (pe_call GR hr (by rfl) mR kR bR .nil pass0 (pa_cons (pv 1) pa_nil))))
      (pssx_one (psx_of (ps_ret (pe_and (pe_cmpR (op_eqA hu0) (pv 2) (pe_call GD hrD (by rfl) mD kD bD .nil pass0 (pa_cons (pv 0) pa_nil)) (nomark _)) (pe_and (pe_cmpR (op_eqA hu0) (pv 1) (pv 0) (nomark _)) (pe_one (pe_not (pe_callB call_isinst (by rfl) T.isi bt_isi (pa_cons (pe_ix ix_tup (pv 2) pe_int (fun _ _ => rfl)) (pa_cons (pe_bltn (v := .ty "bool") (by rfl) T.bool bt_bool rfl) pa_nil)))))))))))) ?_
    refine ⟨_, rfl, lu, _, rfl, .inl (SqL.of hu), fun lh nh => ?_⟩
    have s1 := same_new (o := .lst (us.map V.int)) nh
    have hlh : upd H lh (.lst (us.map V.int)) lh = _ := upd_same
    have hu1 := s1 _ _ hu
    generalize upd H lh (.lst (us.map V.int)) = G1 at s1 hlh hu1 ⊢
    refine ⟨_, rfl, lh, us, rfl, hlh, hl, ?_⟩
    cases hr2 : unitsRd us with
    | ok ds =>
      intro t lr G2 s2 hR ht
      refine ⟨_, rfl, _, rfl, lu, us, rfl, s2 _ _ hu1, hl, ?_⟩
      rw [hr2]
      intro t' lr' G3 s3 hR' ht'
      refine ⟨4, t, t', _, _, rfl, rfl, pair_da K (s3 _ _ ht) ((hR.same s3).da K), pair_da K ht' (hR'.da K), pair_nbN (rows_nb _), pair_nbN (rows_nb _), by decide, _, rfl, iteP (by simp) ?_⟩
      have s23 := s2.trans s3
      refine ⟨_, rfl, _, rfl, 1, lh, lu, _, _, rfl, rfl, ints_daQ K (s23 _ _ hlh), ints_daQ K (s23 _ _ hu1), ints_nbQ _, ints_nbQ _, by decide, _, rfl, iteP (by simp) ?_⟩
      obtain ⟨qs, g1, _⟩ := hR.same s3
      refine ⟨_, rfl, t, _, 1, .ref lr, rfl, rfl, SqT.of (s3 _ _ ht), rfl, _, _, _, _, rfl, .lst g1, k_list_boolQ, ?_⟩
      exact ⟨_, rfl, k _ (s1.trans s23)⟩
    | error e =>
      intro t G2 s2 ht
      refine ⟨_, rfl, _, rfl, lu, us, rfl, s2 _ _ hu1, hl, ?_⟩
      rw [hr2]
      intro t' G3 s3 ht'
      refine ⟨1, t, t', _, _, rfl, rfl, pair_da K (s3 _ _ ht) (.int _), pair_da K ht' (.int _), pair_nbN .int, pair_nbN .int, by decide, _, rfl, iteP (by simp) ?_⟩
      have s23 := s2.trans s3
      refine ⟨_, rfl, _, rfl, 1, lh, lu, _, _, rfl, rfl, ints_daQ K (s23 _ _ hlh), ints_daQ K (s23 _ _ hu1), ints_nbQ _, ints_nbQ _, by decide, _, rfl, iteP (by simp) ?_⟩
      refine ⟨_, rfl, t, _, 1, .int (e : Int), rfl, rfl, SqT.of (s3 _ _ ht), rfl, _, _, _, _, rfl, .int _, k_int_bool, ?_⟩
      exact ⟨_, rfl, k _ (s1.trans s23)⟩
end
end My


set_option Elab.async false
set_option linter.all false
set_option maxRecDepth 100000
set_option maxHeartbeats 4000000
namespace My
open PySem L2
theorem pei_ix {X : Cx} {a b : Expr} {ta tb : TE} {pos : Pos} {r : R2} (hr : IxR X r) (ha : PEi X a ta) (hb : PE X b tb) (hs : PlainIx b) : PEi X (.Subscript a b pos) (tOp r ta tb) := by
  unfold PEi at ha ⊢
  exact pe_ix hr ha hb hs
theorem psi_set_sub {X : Cx} {pos pos' cpos : Pos} {i : Nat} {x : Str} {a b : Expr} {te : TE} (hN : X.N.Nodup) (hi : X.N[i]? = some x) (hx : Loc X.env.scope x) (he : PEi X (.Subscript a b cpos) te) (hf : X.fn x = true ∨ X.env.scope.names.lookup x = some .local := by first | exact .inl rfl | exact .inr rfl | assumption) :
    PSi X (.Assign [.Name x pos'] (.Subscript a b cpos) pos) (tAsg te (gName i)) := by
  unfold PEi at he
  unfold PSi
  exact ps_set hN hi hx he rfl hf
theorem psi_ret_sub {X : Cx} {pos cpos : Pos} {a b : Expr} {te : TE} (he : PEi X (.Subscript a b cpos) te) : PSi X (.Return (some (.Subscript a b cpos)) pos) (tRet te) := by
  unfold PEi at he
  unfold PSi
  exact ps_ret he
theorem pk_p {X : Cx} {d e : Int} {j6 p6 j7 p7 p8} : PE X (.BinOp (.Constant (.int d) j6 p6) .Pow (.Constant (.int e) j7 p7) p8) (tOp (rI CPow fun i j => .int (i ^ j.toNat)) (tC (.int d)) (tC (.int e))) := pe_op op_pow pe_int pe_int
theorem pk_p1 {X : Cx} {d e g : Int} {j6 p6 j7 p7 p8 j9 p9 p10} : PE X (.BinOp (.BinOp (.Constant (.int d) j6 p6) .Pow (.Constant (.int e) j7 p7) p8) .Add (.Constant (.int g) j9 p9) p10) (tOp (rI0 fun i j => .int (i + j)) (tOp (rI CPow fun i j => .int (i ^ j.toNat)) (tC (.int d)) (tC (.int e))) (tC (.int g))) := pe_op op_add pk_p pe_int
theorem pk_m {X : Cx} {d e g : Int} {j6 p6 j7 p7 p8 j9 p9 p10} : PE X (.BinOp (.Constant (.int g) j9 p9) .Sub (.BinOp (.Constant (.int d) j6 p6) .Pow (.Constant (.int e) j7 p7) p8) p10) (tOp (rI0 fun i j => .int (i - j)) (tC (.int g)) (tOp (rI CPow fun i j => .int (i ^ j.toNat)) (tC (.int d)) (tC (.int e)))) := pe_op op_sub pe_int pk_p
theorem pk_n {X : Cx} {d : Int} {j6 p6 p8} : PE X (.UnaryOp .USub (.Constant (.int d) j6 p6) p8) (tUn (rU fun i => .int (-i)) (tC (.int d))) := pe_un un_neg pe_int
section
variable {P : Program} {w : World} {K : PySem.W.Frag} {mg : Str → Option Value} {base : Heap}
def spLUnit : Sp := fun vs H Q _ => ∃ c : Int, vs = [.int c] ∧ ∀ (n : Int) (H' : Hp), Same H H' → Q (.int n) H'
theorem scLun : FnScope ["_law_cell", "_law_xs", "_law_way", "_law_code", "_law_low", "_law_box"] ["_law_cell"] (defScope sLUnit) := ⟨rfl, rfl, rfl, by decide +kernel, rfl, by decide +kernel, by decide +kernel⟩
theorem ok_lunit {f fS : Addr} {fd fdS : FuncData} (F : Fun K "_law_unit" "_law_unit" sLUnit f fd) (T : Txt K w.params mg) (GS : FnOk P w K mg base CX0 1 fS fdS ["_law_cell", "_law_many"] spStream) (kS : PySem.W.keepIn K (.ref fS) = true) (bS : Binds K fdS ["_law_cell", "_law_many"] []) (mS : mg "_law_stream" = some (.ref fS)) : FnOk P w K mg base CX0 2 f fd ["_law_cell"] spLUnit := by
  refine F.ok scLun (fun vs H Q E h => ?_) (fun cdv A outer s H vs Q E hr h => ?_)
  · obtain ⟨c, rfl, _⟩ := h
    rfl
  · obtain ⟨c, rfl, k⟩ := h
    have cp : CPow 10 9 := ⟨by decide, by decide, by decide⟩
    have cp6 : CPow 10 6 := ⟨by decide, by decide, by decide⟩
    refine wrapX (pssx_cons (psx_of (ps_set (i := 1) scLun.nd rfl (Or.inl rfl) (pe_call GS hr (by rfl) mS kS bS .nil pass0 (pa_cons (pv 0) (pa_cons pe_int pa_nil)))))
      (pssx_cons (psx_of (ps_set (i := 2) scLun.nd rfl (Or.inl rfl) (pe_op op_mod (pe_ix ix_list (pv 1) pe_int (fun _ _ => rfl)) pe_int)))
      (pssx_cons (psx_of (ps_set (i := 3) scLun.nd rfl (Or.inl rfl) (pe_op op_mod (pe_ix ix_list (pv 1) pe_int (fun _ _ => rfl)) pe_int)))
      (pssx_cons (psx_if (pt_cmpR op_lt (pv 2) pe_int (nomark _)) (pssx_cons (psx_of_i (psi_set_sub (i := 4) scLun.nd rfl (Or.inl rfl) (pei_ix ix_list (pei_lst (.cons pe_int (.cons pe_int (.cons pe_int (.cons pe_int (.cons pe_int (.cons pe_int (.cons pe_int (.cons pe_int (.cons pe_int (.cons pe_int (.cons pe_int (.cons pe_int (.cons pe_int (.cons pe_int (.cons pe_int (.cons pe_int (.cons pe_int (.cons pe_int (.cons pe_int (.cons pe_int (.cons pe_int (.cons pe_int (.cons pe_int (.cons pe_int (.cons pe_int .nil)))))))))))))))))))))))))) (pv 3) (fun _ _ => rfl))))
      (pssx_cons (psx_of (ps_set (i := 4) scLun.nd rfl (Or.inl rfl) (pe_ix ix_list (pe_lst (pa_cons pe_int (pa_cons (pe_op op_mod (pe_ix ix_list (pv 1) pe_int (fun _ _ => rfl)) pe_int) (pa_cons (pe_op op_add pe_int (pe_op op_mod (pe_ix ix_list (pv 1) pe_int (fun _ _ => rfl)) pe_int)) pa_nil)))) (pv 4) (fun _ _ => rfl))))
      (pssx_cons (psx_of (ps_set (i := 5) scLun.nd rfl (Or.inl rfl) (pe_op op_mul (pe_op op_mod (pe_op op_fdivB (pe_ix ix_list (pv 1) pe_int (fun _ _ => rfl)) pe_int) pe_int) (pe_callTy call_int1 (by rfl) T.int bt_int (pa_cons (pe_cmpR op_notIn_seq (pv 3) (pe_tupS (.cons pe_int (.cons pe_int (.cons pe_int (.cons pe_int (.cons pe_int (.cons pe_int (.cons pe_int (.cons pe_int (.cons pe_int .nil)))))))))) rfl) pa_nil)))))
      (pssx_one (psx_of (ps_ret (pe_op op_add (pe_op op_add (pe_op op_mul (pv 3) pe_int) (pe_op op_mul (pv 5) pe_int)) (pv 4)))))))) (pssx_nil pss_nil))
      (pssx_cons (psx_if (pt_cmpR op_eq (pv 2) pe_int (nomark _)) (pssx_one (psx_of (ps_ret (pe_op op_sub (pe_op op_mod (pe_ix ix_list (pv 1) pe_int (fun _ _ => rfl)) pe_int) pe_int)))) (pssx_nil pss_nil))
      (pssx_cons (psx_if (pt_cmpR op_eq (pv 2) pe_int (nomark _)) (pssx_one (psx_of_i (psi_ret_sub (pei_ix ix_list (pei_lst (.cons pe_int (.cons pe_int (.cons pe_int (.cons pe_int (.cons pe_int (.cons pe_int (.cons pe_int (.cons pk_p (.cons pk_p1 (.cons pk_p (.cons pk_p1 (.cons pk_n (.cons pk_m .nil)))))))))))))) (pe_op op_mod (pe_ix ix_list (pv 1) pe_int (fun _ _ => rfl)) pe_int) (fun _ _ => rfl))))) (pssx_nil pss_nil))
      (pssx_cons (psx_if (pt_cmpR op_eq (pv 2) pe_int (nomark _)) (pssx_one (psx_of (ps_ret (pe_op op_mul (pe_op op_mod (pe_ix ix_list (pv 1) pe_int (fun _ _ => rfl)) pe_int) pe_int)))) (pssx_nil pss_nil))
      (pssx_one (psx_of (ps_ret (pe_op op_mod (pe_ix ix_list (pv 1) pe_int (fun _ _ => rfl)) pe_int))))))))))) ?_
    refine ⟨_, rfl, c, 3, rfl, by decide, fun ls ms G1 s1 nls hls hml hpos => ?_⟩
    obtain ⟨x0, _, hx0⟩ := at_intsS ms 0 (by decide) (by omega)
    obtain ⟨x1, _, hx1⟩ := at_intsS ms 1 (by decide) (by omega)
    obtain ⟨x2, _, hx2⟩ := at_intsS ms 2 (by decide) (by omega)
    refine ⟨_, rfl, ls, _, 0, .int x0, rfl, rfl, SqL.of (hls), hx0, _, _, rfl, rfl, (by show (0 : Int) < 8; decide), ?_⟩
    refine ⟨_, rfl, ls, _, 1, .int x1, rfl, rfl, SqL.of (hls), hx1, _, _, rfl, rfl, (by show (0 : Int) < 25; decide), ?_⟩
    have h25 := modB x1 (show (0 : Int) < 25 by decide)
    refine ⟨_, rfl, _, _, rfl, rfl, _, rfl, ?_⟩
    refine ite2 (fun _ => ?_) (fun _ => ?_)
    · obtain ⟨lo, hlo, hat⟩ := at_intsS [0, 0, 0, 0, 0, 1, 1, 1, 1, 1, 0, 0, 0, 0, 2, 2, 2, 2, 2, 0, 0, 0, 0, 0, 0] (x1 % 25) h25.1 h25.2
      have hlo3 : 0 ≤ lo ∧ lo < 3 := (by decide +kernel : ∀ x ∈ ([0, 0, 0, 0, 0, 1, 1, 1, 1, 1, 0, 0, 0, 0, 2, 2, 2, 2, 2, 0, 0, 0, 0, 0, 0] : List Int), 0 ≤ x ∧ x < 3) lo hlo
      refine ⟨(by show 25 ≤ sizeLine; decide), fun l2 nl2 => ?_⟩
      have s2 := s1.trans (same_new (o := .lst (([0, 0, 0, 0, 0, 1, 1, 1, 1, 1, 0, 0, 0, 0, 2, 2, 2, 2, 2, 0, 0, 0, 0, 0, 0] : List Int).map V.int)) nl2)
      have hl2 : upd G1 l2 (.lst (([0, 0, 0, 0, 0, 1, 1, 1, 1, 1, 0, 0, 0, 0, 2, 2, 2, 2, 2, 0, 0, 0, 0, 0, 0] : List Int).map V.int)) l2 = some (.lst (([0, 0, 0, 0, 0, 1, 1, 1, 1, 1, 0, 0, 0, 0, 2, 2, 2, 2, 2, 0, 0, 0, 0, 0, 0] : List Int).map V.int)) := upd_same
      have hls2 := same_new (o := .lst (([0, 0, 0, 0, 0, 1, 1, 1, 1, 1, 0, 0, 0, 0, 2, 2, 2, 2, 2, 0, 0, 0, 0, 0, 0] : List Int).map V.int)) nl2 _ _ hls
      refine ⟨_, rfl, l2, _, _, .int lo, rfl, rfl, SqL.of hl2, hat, ?_⟩
      change tSeq _ _ _ _ (upd G1 l2 (.lst (([0, 0, 0, 0, 0, 1, 1, 1, 1, 1, 0, 0, 0, 0, 2, 2, 2, 2, 2, 0, 0, 0, 0, 0, 0] : List Int).map V.int)))
      generalize upd G1 l2 (.lst (([0, 0, 0, 0, 0, 1, 1, 1, 1, 1, 0, 0, 0, 0, 2, 2, 2, 2, 2, 0, 0, 0, 0, 0, 0] : List Int).map V.int)) = G2 at s2 hl2 hls2 ⊢
      obtain ⟨lw, _, hat3⟩ := at_intsS [0, x2 % 8, 56 + x2 % 16] lo hlo3.1 hlo3.2
      refine ⟨_, rfl, ls, _, 2, .int x2, rfl, rfl, SqL.of (hls2), hx2, _, _, rfl, rfl, (by show (0 : Int) < 8; decide), _, rfl, ls, _, 2, .int x2, rfl, rfl, SqL.of (hls2), hx2, _, _, rfl, rfl, (by show (0 : Int) < 16; decide), _, _, rfl, rfl, (by show 3 ≤ sizeLine; decide), fun l3 nl3 => ⟨_, rfl, l3, _, _, .int lw, rfl, rfl, SqL.of (show _ = some (.lst (([0, x2 % 8, 56 + x2 % 16] : List Int).map V.int)) from upd_same), hat3, ?_⟩⟩
      have s3 := s2.trans (same_new (o := .lst [V.int 0, V.int (x2 % 8), V.int (56 + x2 % 16)]) nl3)
      have hls3 := same_new (o := .lst [V.int 0, V.int (x2 % 8), V.int (56 + x2 % 16)]) nl3 _ _ hls2
      generalize upd G2 l3 (.lst [V.int 0, V.int (x2 % 8), V.int (56 + x2 % 16)]) = G3 at s3 hls3 ⊢
      have h8 := modB (x1 / 25) (show (0 : Int) < 8 by decide)
      refine ⟨_, rfl, ls, _, 1, .int x1, rfl, rfl, SqL.of (hls3), hx1, _, _, rfl, rfl, ⟨by show (0 : Int) < 25; decide, by show (25 : Int) < _; decide⟩, _, _, rfl, rfl, (by show (0 : Int) < 8; decide), _, rfl, (by show 9 ≤ sizeLine; decide), fun t4 nt4 => ⟨t4, ([0, 1, 2, 14, 17, 18, 20, 23, 24] : List Int).map V.int, rfl, .inr (SqT.of upd_same), rfl, rfl, .inr ⟨_, rfl, _, _, rfl, rfl, .inl ⟨by omega, by omega⟩, ?_⟩⟩⟩
      exact ⟨_, rfl, _, _, rfl, rfl, .inr ⟨by decide, by decide⟩, _, rfl, _, _, rfl, rfl, .inr ⟨by decide, by decide⟩, _, _, rfl, rfl, _, rfl, _, _, rfl, rfl, k _ _ (s3.trans (same_new nt4))⟩
    · refine ⟨_, rfl, rfl, _, rfl, ?_⟩
      refine ite2 (fun _ => ?_) (fun _ => ?_)
      · exact ⟨_, rfl, ls, _, 1, .int x1, rfl, rfl, SqL.of (hls), hx1, _, _, rfl, rfl, (by show (0 : Int) < 13; decide), _, _, rfl, rfl, k _ _ s1⟩
      refine ⟨_, rfl, rfl, _, rfl, ?_⟩
      refine ite2 (fun _ => ?_) (fun _ => ?_)
      · have h13 := modB x1 (show (0 : Int) < 13 by decide)
        obtain ⟨lo, hlo, hat⟩ := at_intsS [0, 1, 16, 17, 63, 127, 128, (10 : Int) ^ (6 : Int).toNat, (10 : Int) ^ (6 : Int).toNat + 1, (10 : Int) ^ (9 : Int).toNat, (10 : Int) ^ (9 : Int).toNat + 1, -1, 0 - (10 : Int) ^ (9 : Int).toNat] (x1 % 13) h13.1 h13.2
        refine ⟨_, _, rfl, rfl, cp6, _, _, rfl, rfl, cp6, _, _, rfl, rfl, _, _, rfl, rfl, cp, _, _, rfl, rfl, cp, _, _, rfl, rfl, _, rfl, _, _, rfl, rfl, cp, _, _, rfl, rfl, (by show 13 ≤ sizeLine; decide), fun l2 nl2 => ?_⟩
        have hl2 : upd G1 l2 (.lst (([0, 1, 16, 17, 63, 127, 128, (10 : Int) ^ (6 : Int).toNat, (10 : Int) ^ (6 : Int).toNat + 1, (10 : Int) ^ (9 : Int).toNat, (10 : Int) ^ (9 : Int).toNat + 1, -1, 0 - (10 : Int) ^ (9 : Int).toNat] : List Int).map V.int)) l2 = some (.lst (([0, 1, 16, 17, 63, 127, 128, (10 : Int) ^ (6 : Int).toNat, (10 : Int) ^ (6 : Int).toNat + 1, (10 : Int) ^ (9 : Int).toNat, (10 : Int) ^ (9 : Int).toNat + 1, -1, 0 - (10 : Int) ^ (9 : Int).toNat] : List Int).map V.int)) := upd_same
        exact ⟨_, rfl, ls, _, 1, .int x1, rfl, rfl, SqL.of (same_new nl2 _ _ hls), hx1, _, _, rfl, rfl, (by show (0 : Int) < 13; decide), l2, _, _, .int lo, rfl, rfl, SqL.of hl2, hat, k _ _ (s1.trans (same_new nl2))⟩
      refine ⟨_, rfl, rfl, _, rfl, ?_⟩
      refine ite2 (fun _ => ?_) (fun _ => ?_)
      · exact ⟨_, rfl, ls, _, 1, .int x1, rfl, rfl, SqL.of (hls), hx1, _, _, rfl, rfl, (by show (0 : Int) < 3; decide), _, _, rfl, rfl, .inr ⟨by decide, by decide⟩, k _ _ s1⟩
      exact ⟨_, rfl, ls, _, 1, .int x1, rfl, rfl, SqL.of (hls), hx1, _, _, rfl, rfl, (by show (0 : Int) < 26000; decide), k _ _ s1⟩
end
end My


set_option Elab.async false
set_option linter.all false
set_option maxRecDepth 100000
set_option maxHeartbeats 4000000
namespace L2
open PySem PySem.Spec PyProof.Rows
/-! ### xs[::-1] of a list -/
theorem fm_range {α : Type} {f : Nat → Option α} {h : Nat → α} : ∀ (n : Nat), (∀ k, k < n → f k = some (h k)) → (List.range n).filterMap f = (List.range n).map h
  | 0, _ => rfl
  | n + 1, q => by
    rw [List.range_succ, List.filterMap_append, List.map_append, fm_range n (fun k hk => q k (by omega))]
    simp [q n (by omega)]
theorem pick_rev (its : List Value) : slicePick its.toArray none none (some (-1)) = its.reverse.toArray := by
  unfold slicePick
  congr 1
  have hb : sliceBounds none none (some (-1)) its.toArray.size = ((its.length : Int) - 1, -1, -1) := by
    simp [sliceBounds]
  rw [hb]
  have hr : sliceRange ((its.length : Int) - 1) (-1) (-1) = (List.range its.length).map fun k => its.length - 1 - k := by
    unfold sliceRange
    have hc : (if (-1 : Int) > 0 then if (its.length : Int) - 1 < -1 then (-1 - ((its.length : Int) - 1) + -1 - 1) / -1 else 0 else if (its.length : Int) - 1 > -1 then ((its.length : Int) - 1 - -1 - -1 - 1) / - -1 else 0).toNat = its.length := by
      rw [if_neg (by decide)]
      split
      · rw [show (- -1 : Int) = 1 by decide, Int.ediv_one]
        omega
      · omega
    simp only []
    rw [hc]
    refine List.map_congr_left fun k hk => ?_
    have := List.mem_range.mp hk
    omega
  simp only []
  rw [hr, List.filterMap_map]
  rcases its with _ | ⟨z, zs⟩
  · rfl
  · have q : ∀ k, k < (z :: zs).length → ((fun x => (z :: zs).toArray[x]?) ∘ fun k => (z :: zs).length - 1 - k) k = some ((z :: zs).reverse.getD k z) := fun k hk => by
      show (z :: zs).toArray[(z :: zs).length - 1 - k]? = _
      rw [List.getElem?_toArray]
      have h1 : (z :: zs).length - 1 - k < (z :: zs).length := by omega
      rw [List.getElem?_eq_getElem h1, List.getD_eq_getElem?_getD, List.getElem?_reverse hk, List.getElem?_eq_getElem h1]
      rfl
    rw [fm_range _ q]
    refine List.ext_getElem (by simp) fun i h1 h2 => ?_
    rw [List.getElem_map, List.getElem_range, List.getD_eq_getElem?_getD, List.getElem?_eq_getElem h2]
    rfl
theorem Vals_rev_aux {xs : List V} {its : List Value} (r : Vals xs its) : ∀ {ys : List V} {jts : List Value}, Vals ys jts → Vals (xs.reverseAux ys) (its.reverseAux jts) := by
  induction r with
  | nil => intro ys jts h; exact h
  | cons a _ ih => intro ys jts h; exact ih (.cons a h)
section
variable {X : Cx} {e st : Expr} {te : TE} {ts : TO} {pos p2 : Pos}
def tRev (K : PySem.W.Frag) (te : TE) (ts : TO) : TE := fun σ H Q => te σ H fun x H1 => ts σ H1 fun k H2 => k = some (-1) ∧ ∃ a xs, x = .ref a ∧ SqL K H2 a xs ∧ ∀ p, H2 p = none → Q (.ref p) (upd H2 p (.lst xs.reverse))
theorem pe_rev (he : PE X e te) (hs : PO X (some st) ts) : PE X (.Subscript e (.Slice none none (some st) p2) pos) (tRev X.K te ts) := by
  intro pins s σ H Q I h
  refine Subscript_ (thn (he pins s σ H _ I h) fun v s1 ⟨x, H1, I1, r1, q1⟩ => ?_)
  refine wpAny_Slice ?_
  rw [evalPart_none]
  refine wpAny_pure ?_
  refine wpAny_pure ?_
  refine thn (hs pins s1 σ H1 _ I1 q1) fun vs s3 ⟨u, H3, I3, pu, q3⟩ => ?_
  obtain ⟨rfl, a, xs, rfl, hx, q⟩ := q3
  cases r1
  have I4 : Inv X pins σ H3 { s3 with heap := s3.heap.push { cls := .type "slice", data := .fields #[.none, .none, vs] } } := I3.kept (t' := s3.toks) fun b ob q => Heap.get?_push_of_some _ q
  obtain ⟨its, r, ht, hz⟩ := I4.list hx
  have hlen := r.length
  show wpAny (model X.prog X.w) X.A (subscriptTail e (.Slice none none (some st) p2) (.ref a) (.ref s3.heap.objs.size)) (EP X pins σ Q) X.xe { s3 with heap := s3.heap.push { cls := .type "slice", data := .fields #[.none, .none, vs] } }
  refine tail_any (ops := [.ref a, .ref s3.heap.objs.size]) ht.isList.typeIs slot_list_getitem.lookup ?_ (by with_unfolding_all rfl)
  refine wpAny_getItem_list_slice ht.isList (Heap.IsSliceOf.new ..) .none .none pu (by simp) ?_ (by rw [List.size_toArray] <;> omega)
  rw [pick_rev]
  refine ⟨.ref _, _, I4.laid (t' := s3.toks) (o := .lst xs.reverse) (fun b ob q => Heap.get?_push_of_some _ q) (Nat.le_refl _) ?_, rfl, q _ (I4.hok.fresh (Nat.le_refl _))⟩
  exact ⟨by rw [List.length_reverse]; exact hz, _, 0, Vals_rev_aux r .nil, Heap.get?_push_size _ rfl⟩
end
end L2


set_option Elab.async false
set_option linter.all false
set_option maxRecDepth 100000
set_option maxHeartbeats 4000000
namespace My
open PySem L2
section
variable {P : Program} {w : World} {K : PySem.W.Frag} {mg : Str → Option Value} {base : Heap}
def spLaw : Sp := fun vs H Q _ => ∃ (a : Addr) (ns : List Int), vs = [.ref a] ∧ SqL K H a (ns.map V.int) ∧ ns.length ≤ 63 ∧ ∀ H', Q (.bl true) H'
theorem scLaw : FnScope ["_law_script", "_law_units", "_law_k"] ["_law_script"] (defScope sLaw) := ⟨rfl, rfl, rfl, by decide +kernel, rfl, by decide +kernel, by decide +kernel⟩
def csLawC1 : Scope := { kind := .function, names := [(".0", .local), ("_law_cell", .local), ("_law_unit", .globalImplicit)], isGenerator := false, isCoroutine := false, more := [] }
theorem scLawC1 : CompSc (defScope sLaw) csLawC1 ["_law_script", "_law_units", "_law_k"] ["_law_cell"] [none] := ⟨rfl, by decide +kernel, by decide +kernel, by decide +kernel, by decide +kernel, by decide +kernel⟩
theorem ok_law {f fU fR : Addr} {fd fdU fdR : FuncData} (F : Fun K "law" "law" sLaw f fd) (T : Txt K w.params mg) (GU : FnOk P w K mg base CX0 2 fU fdU ["_law_cell"] spLUnit) (kU : PySem.W.keepIn K (.ref fU) = true) (bU : Binds K fdU ["_law_cell"] []) (mU : mg "_law_unit" = some (.ref fU)) (GR : FnOk P w K mg base CX0 10 fR fdR ["_law_units"] spRightL) (kR : PySem.W.keepIn K (.ref fR) = true) (bR : Binds K fdR ["_law_units"] []) (mR : mg "_law_right" = some (.ref fR)) : FnOk P w K mg base CX0 11 f fd ["_law_script"] (spLaw (K := K)) := by
  refine F.ok scLaw (fun vs H Q E h => ?_) (fun cdv A outer s H vs Q E hr h => ?_)
  · obtain ⟨a, ns, rfl, _⟩ := h
    rfl
  · obtain ⟨a, ns, rfl, hS, hn, k⟩ := h
    have hrU : Room 2 (A.deeper (PyProof.Rows.envOfC "law" (defScope sLaw) s.heap.objs.size f cdv)) := hr.mono (by decide)
    refine wrapX (pssx_cons (psx_of (ps_comp (i := 1) (N' := ["_law_cell"]) (fr := [none]) scLaw.nd rfl rfl scLawC1 rfl (pi_list (pe_slice sl_list (pv 0) po_none (po_some pe_int))) (fun C s0 H0 fp => (pg_name (i := 0) scLawC1.nd rfl (Or.inl rfl))) (fun C s0 H0 fp => pts_nil) (fun C s0 H0 fp => (pe_call GU hrU (by rfl) mU kU bU .nil pass0 (pa_cons (pv 0) pa_nil)))))
      (pssx_cons (psx_of (ps_for PassesOwn.never rfl (pi_range1 rfl T.range (pa_cons (pe_op op_add (pe_callB call_len_seq (by rfl) T.len bt_len (pa_cons (pv 1) pa_nil)) pe_int) pa_nil)) (pg_name (i := 2) scLaw.nd rfl (Or.inl rfl)) (pss_one (ps_if (pt_not (pt_val (pe_call GR hr (by rfl) mR kR bR .nil pass0 (pa_cons (pe_slice sl_list (pv 1) po_none (po_some (pv 2))) pa_nil)))) (pss_one (ps_ret pe_bl)) pss_nil))))
      (pssx_one (psx_of (ps_ret (pe_and (pe_call GR hr (by rfl) mR kR bR .nil pass0 (pa_cons (pe_rev (pv 1) (po_some (pe_un un_neg pe_int))) pa_nil)) (pe_and (pe_call GR hr (by rfl) mR kR bR .nil pass0 (pa_cons (pe_lst (pa_cons pe_int pa_nil)) pa_nil)) (pe_one (pe_call GR hr (by rfl) mR kR bR .nil pass0 (pa_cons (pe_lst pa_nil) pa_nil)))))))))) ?_
    refine ⟨_, rfl, _, rfl, a, _, rfl, hS, fun lc nlc => ?_⟩
    have hcut : cutV (ns.map V.int) none (some 40) = (ns.take 40).map V.int := by
      rw [List.map_take]
      exact cut_take _ 40
    rw [hcut]
    have hlc : upd H lc (.lst ((ns.take 40).map V.int)) lc = _ := upd_same
    generalize upd H lc (.lst ((ns.take 40).map V.int)) = G1 at hlc ⊢
    have h40 : (ns.take 40).length ≤ 40 := by rw [List.length_take]; omega
    generalize ns.take 40 = cs at hlc h40 ⊢
    refine ⟨lc, rfl, ⟨_, SqL.of hlc⟩, fun D nD => comp_list (K := K) (a := lc) (xs := cs.map V.int) (fun j σ ys Gx => ∃ (v : Option V) (us : List Int), σ = [v] ∧ ys = us.map V.int ∧ us.length = j ∧ Same G1 Gx ∧ Gx D = some (.lst ys)) ?_ ?_ ?_ ?_⟩
    · exact ⟨none, [], rfl, rfl, rfl, same_new nD, upd_same⟩
    · rintro j σ ys Gx _ ⟨v, us, rfl, rfl, _, sx, _⟩
      exact SqL.of (sx _ _ hlc)
    · rintro j x σ ys Gx hx ⟨v, us, rfl, rfl, hul, sx, hD⟩
      rw [List.getElem?_map] at hx
      obtain ⟨c, hc, rfl⟩ := Option.map_eq_some_iff.mp hx
      have hj := (List.getElem?_eq_some_iff.mp hc).1
      refine ⟨_, rfl, c, rfl, fun n Gy sy => ⟨sy _ _ hD, small_lt (by rw [List.length_map]; omega), _, us ++ [n], rfl, by rw [List.map_append]; rfl, by rw [List.length_append, hul]; rfl, same_put (sx.trans sy) nD, upd_same⟩⟩
    · rintro σ ys Gx ⟨v, us, rfl, rfl, hul, sx, hD⟩
      rw [List.length_map] at hul
      refine ⟨_, rfl, D, _, rfl, .inl (SqL.of hD), _, _, rfl, rfl, ?_⟩
      rw [List.length_map]
      refine ⟨_, rfl, by omega, by omega, ?_⟩
      refine for_range (lo := 0) (n := ((us.length : Nat) : Int).toNat + 1) (fun i σ G => (∃ v : Option V, σ = [some (.ref a), some (.ref D), v]) ∧ Same Gx G) ?_ ?_ ?_
      · exact ⟨⟨none, rfl⟩, .refl _⟩
      · rintro i σ G hi ⟨⟨v, rfl⟩, s1⟩
        have e0 : (0 : Int) + (i : Int) = (i : Int) := by omega
        rw [e0]
        refine ⟨_, rfl, _, rfl, _, rfl, D, _, rfl, SqL.of (s1 _ _ hD), fun l nl => ?_⟩
        rw [show cutV (us.map V.int) none (some (i : Int)) = (us.take i).map V.int by rw [List.map_take]; exact cut_take _ i]
        exact ⟨l, us.take i, rfl, upd_same, by rw [List.length_take]; omega, fun G2 s2 => ⟨_, rfl, iteN (by decide) ⟨⟨_, rfl⟩, s1.trans ((same_new nl).trans s2)⟩⟩⟩
      · rintro σ G ⟨⟨v, rfl⟩, s1⟩
        refine ⟨_, rfl, _, rfl, _, rfl, rfl, D, _, rfl, SqL.of (s1 _ _ hD), fun l nl => ?_⟩
        rw [← List.map_reverse]
        refine ⟨l, us.reverse, rfl, upd_same, by rw [List.length_reverse]; omega, fun G2 s2 => ⟨_, rfl, iteP rfl ?_⟩⟩
        refine ⟨(by show 1 ≤ sizeLine; decide), fun l2 nl2 => ⟨l2, [0], rfl, upd_same, by decide, fun G3 s3 => ⟨_, rfl, iteP rfl ?_⟩⟩⟩
        exact ⟨Nat.le_of_ble_eq_true rfl, fun l3 nl3 => ⟨l3, [], rfl, upd_same, by decide, fun G4 s4 => k _⟩⟩
end
end My


set_option Elab.async false
set_option linter.all false
set_option maxRecDepth 100000
set_option maxHeartbeats 4000000
namespace My
open PySem L2
abbrev sXI : Stmt := inClass (top 5) 0
section
variable {P : Program} {w : World} {K : PySem.W.Frag} {mg : Str → Option Value} {base : Heap}
theorem scXI : FnScope ["self", "at"] ["self", "at"] (defScope sXI) := ⟨rfl, rfl, rfl, by decide +kernel, rfl, by decide +kernel, by decide +kernel⟩
theorem ok_xi {f C R : Addr} {fd : FuncData} (F : Fun K "__init__" "NoUnits.__init__" sXI f fd) (c : XIni K C R f) (hm : mg "RowError" = some (.ref R)) : FnOk P w K mg base CX0 1 f fd ["self", "at"] (spXI C) := by
  refine F.ok scXI (fun vs H Q E h => ?_) (fun cdv A outer s H vs Q E hr h => ?_)
  · obtain ⟨e, i, rfl, _⟩ := h
    rfl
  · obtain ⟨e, i, rfl, he, hi, k⟩ := h
    refine ⟨_, pss_cons (ps_expr (pe_xini c (by rfl) hm (pa_cons (pv 0) (pa_cons (pe_fstr (pv 1) (by decide)) pa_nil)))) (pss_one (ps_xat c (pv 0) (pv 1) rfl)), ?_⟩
    refine ⟨_, rfl, _, rfl, i, rfl, hi, fun u => ⟨e, _, rfl, he, ?_⟩⟩
    refine ⟨_, rfl, _, rfl, e, rfl, upd_same, fun d nd de => ?_⟩
    rw [upd3 de]
    rw [upd_ne de] at nd
    exact k d nd de
end
end My


set_option Elab.async false
set_option linter.all false
set_option maxRecDepth 100000
set_option maxHeartbeats 8000000
namespace PySem.W.Fast
def tw12631419623765782892 : Nat := 0
def tw12089342062240515365 : Nat := 0
def tw2697028429596575226 : Nat := 0
def tw15016549980652399472 : Nat := 0
def tw1126957784956616160 : Nat := 0
def tw18418419242456701935 : Nat := 0
def tw3386003302593498847 : Nat := 0
def tw16549305864061878278 : Nat := 0
def tw9660246263253720281 : Nat := 0
def tw11894783303565848484 : Nat := 0
def tw8438271396798273418 : Nat := 0
def tw7992682667448958218 : Nat := 0
end PySem.W.Fast
namespace My
open PySem L2
theorem fa_nil {α : Type} {p : α → Prop} : ∀ x ∈ ([] : List α), p x := fun x h => absurd h (by simp)
theorem fa_cons {α : Type} {p : α → Prop} {a : α} {l : List α} (h : p a) (t : ∀ x ∈ l, p x) : ∀ x ∈ a :: l, p x := fun x hx => by
  rcases List.mem_cons.mp hx with rfl | hx
  · exact h
  · exact t x hx
theorem vals_refs : ∀ hs : List Addr, Vals (hs.map V.ref) (hs.map Value.ref)
  | [] => .nil
  | a :: r => .cons (show RelV (.ref a) (.ref a) from rfl) (vals_refs r)
inductive HdAt (K : PySem.W.Frag) (H : Hp) : List Addr → List (Str × Int) → Prop
  | nil : HdAt K H [] []
  | cons {q : Addr} {u : Str} {f : Int} {qs : List Addr} {hs : List (Str × Int)} : SqT K H q [.str u, .int f] → HdAt K H qs hs → HdAt K H (q :: qs) ((u, f) :: hs)
theorem HdAt.len {K : PySem.W.Frag} {H : Hp} : ∀ {qs : List Addr} {hs : List (Str × Int)}, HdAt K H qs hs → qs.length = hs.length
  | _, _, .nil => rfl
  | _, _, .cons _ r => congrArg (· + 1) r.len
theorem HdAt.get {K : PySem.W.Frag} {H : Hp} {qs : List Addr} {hs : List (Str × Int)} (h : HdAt K H qs hs) : ∀ (i : Nat) q x, qs[i]? = some q → hs[i]? = some x → SqT K H q [.str x.1, .int x.2] := by
  induction h with
  | nil => intro i q x h; simp at h
  | cons h0 _ ih =>
    intro i q x h1 h2
    cases i with
    | zero => cases h1; cases h2; exact h0
    | succ i => exact ih i q x (by simpa using h1) (by simpa using h2)
/-! ### what the top has written, and the law's own head -/
theorem all_mk {l : PySem.W.OpenLaw} {w : World} {K : PySem.W.Frag} {h : Heap} {mg : Str → Option Value} {fa f0 f1 f2 f3 f4 f5 f6 f7 f8 f9 f10 f11 f12 f13 f14 f15 f16 f17 f18 f19 f20 f21 f22 f23 f24 f25 f26 f27 : Addr} (X : K.In h) (G : h.Ns mainGlobals mg) (hfa : mg "law" = some (.ref fa))
    {od0 an0 od1 an1 od2 an2 od3 an3 od4 an4 od5 an5 od6 an6 od7 an7 od8 an8 od9 an9 od10 an10 od11 an11 od12 an12 od13 an13 od14 an14 od15 an15 od16 an16 od17 an17 od18 an18 od19 an19 od20 an20 od21 an21 od22 an22 od23 an23 od24 an24 od25 an25 od26 an26 od27 an27 : Option Addr} {sl0 sl1 sl2 sl3 sl4 sl5 sl6 sl7 sl8 sl9 sl10 sl11 sl12 sl13 sl14 sl15 sl16 sl17 sl18 sl19 sl20 sl21 sl22 sl23 sl24 sl25 sl26 sl27 : Array (Option Value)} {oc0 kV0 dc0 pm0 cd0 ct0 oc1 kV1 dc1 pm1 cd1 ct1 oc2 kV2 dc2 pm2 cd2 ct2 oc3 kV3 dc3 pm3 cd3 ct3 oc4 kV4 dc4 pm4 cd4 ct4 oc5 kV5 dc5 pm5 cd5 ct5 oc6 kV6 dc6 pm6 cd6 ct6 oc7 kV7 dc7 pm7 cd7 ct7 oc8 kV8 dc8 pm8 cd8 ct8 oc9 kV9 dc9 pm9 cd9 ct9 oc10 kV10 dc10 pm10 cd10 ct10 oc11 kV11 dc11 pm11 cd11 ct11 oc12 kV12 dc12 pm12 cd12 ct12 oc13 kV13 dc13 pm13 cd13 ct13 oc14 kV14 dc14 pm14 cd14 ct14 oc15 kV15 dc15 pm15 cd15 ct15 oc16 kV16 dc16 pm16 cd16 ct16 oc17 kV17 dc17 pm17 cd17 ct17 oc18 kV18 dc18 pm18 cd18 ct18 oc19 kV19 dc19 pm19 cd19 ct19 oc20 kV20 dc20 pm20 cd20 ct20 oc21 kV21 dc21 pm21 cd21 ct21 oc22 kV22 dc22 pm22 cd22 ct22 oc23 kV23 dc23 pm23 cd23 ct23 oc24 kV24 dc24 pm24 cd24 ct24 oc25 kV25 dc25 pm25 cd25 ct25 oc26 kV26 dc26 pm26 cd26 ct26 oc27 kV27 dc27 pm27 cd27 ct27 : Value}
    (a0 : PySem.W.nsIn K mainGlobals "goes_on" = some (some (.ref f0))) (l0 : K.lookup f0 = some ⟨oc0, od0, .func (PySem.W.fnOf "goes_on" "goes_on" (defArgs sGoesOn) (defBody sGoesOn) (defScope sGoesOn) .none kV0 dc0 pm0 an0 cd0 ct0), sl0⟩) (c0 : PySem.W.codeIn K cd0 "goes_on" = true) (k0 : PySem.W.keepIn K (.ref f0) = true)
    (a1 : PySem.W.nsIn K mainGlobals "targets_of" = some (some (.ref f1))) (l1 : K.lookup f1 = some ⟨oc1, od1, .func (PySem.W.fnOf "targets_of" "targets_of" (defArgs sTargets) (defBody sTargets) (defScope sTargets) .none kV1 dc1 pm1 an1 cd1 ct1), sl1⟩) (c1 : PySem.W.codeIn K cd1 "targets_of" = true) (k1 : PySem.W.keepIn K (.ref f1) = true)
    (a2 : PySem.W.nsIn K mainGlobals "with_targets" = some (some (.ref f2))) (l2 : K.lookup f2 = some ⟨oc2, od2, .func (PySem.W.fnOf "with_targets" "with_targets" (defArgs sWithT) (defBody sWithT) (defScope sWithT) .none kV2 dc2 pm2 an2 cd2 ct2), sl2⟩) (c2 : PySem.W.codeIn K cd2 "with_targets" = true) (k2 : PySem.W.keepIn K (.ref f2) = true)
    (a3 : PySem.W.nsIn K mainGlobals "is_whole" = some (some (.ref f3))) (l3 : K.lookup f3 = some ⟨oc3, od3, .func (PySem.W.fnOf "is_whole" "is_whole" (defArgs sWholeF) (defBody sWholeF) (defScope sWholeF) .none kV3 dc3 pm3 an3 cd3 ct3), sl3⟩) (c3 : PySem.W.codeIn K cd3 "is_whole" = true) (k3 : PySem.W.keepIn K (.ref f3) = true)
    (a4 : PySem.W.nsIn K mainGlobals "is_number_of" = some (some (.ref f4))) (l4 : K.lookup f4 = some ⟨oc4, od4, .func (PySem.W.fnOf "is_number_of" "is_number_of" (defArgs sNumOf) (defBody sNumOf) (defScope sNumOf) .none kV4 dc4 pm4 an4 cd4 ct4), sl4⟩) (c4 : PySem.W.codeIn K cd4 "is_number_of" = true) (k4 : PySem.W.keepIn K (.ref f4) = true)
    (a5 : PySem.W.nsIn K mainGlobals "has_far" = some (some (.ref f5))) (l5 : K.lookup f5 = some ⟨oc5, od5, .func (PySem.W.fnOf "has_far" "has_far" (defArgs sHasFar) (defBody sHasFar) (defScope sHasFar) .none kV5 dc5 pm5 an5 cd5 ct5), sl5⟩) (c5 : PySem.W.codeIn K cd5 "has_far" = true) (k5 : PySem.W.keepIn K (.ref f5) = true)
    (a6 : PySem.W.nsIn K mainGlobals "size_of" = some (some (.ref f6))) (l6 : K.lookup f6 = some ⟨oc6, od6, .func (PySem.W.fnOf "size_of" "size_of" (defArgs sSize) (defBody sSize) (defScope sSize) .none kV6 dc6 pm6 an6 cd6 ct6), sl6⟩) (c6 : PySem.W.codeIn K cd6 "size_of" = true) (k6 : PySem.W.keepIn K (.ref f6) = true)
    (a7 : PySem.W.nsIn K mainGlobals "begins_of" = some (some (.ref f7))) (l7 : K.lookup f7 = some ⟨oc7, od7, .func (PySem.W.fnOf "begins_of" "begins_of" (defArgs sBegins) (defBody sBegins) (defScope sBegins) .none kV7 dc7 pm7 an7 cd7 ct7), sl7⟩) (c7 : PySem.W.codeIn K cd7 "begins_of" = true) (k7 : PySem.W.keepIn K (.ref f7) = true)
    (a8 : PySem.W.nsIn K mainGlobals "whole_at" = some (some (.ref f8))) (l8 : K.lookup f8 = some ⟨oc8, od8, .func (PySem.W.fnOf "whole_at" "whole_at" (defArgs sWholeAt) (defBody sWholeAt) (defScope sWholeAt) .none kV8 dc8 pm8 an8 cd8 ct8), sl8⟩) (c8 : PySem.W.codeIn K cd8 "whole_at" = true) (k8 : PySem.W.keepIn K (.ref f8) = true)
    (a9 : PySem.W.nsIn K mainGlobals "fits_head" = some (some (.ref f9))) (l9 : K.lookup f9 = some ⟨oc9, od9, .func (PySem.W.fnOf "fits_head" "fits_head" (defArgs sFits) (defBody sFits) (defScope sFits) .none kV9 dc9 pm9 an9 cd9 ct9), sl9⟩) (c9 : PySem.W.codeIn K cd9 "fits_head" = true) (k9 : PySem.W.keepIn K (.ref f9) = true)
    (a10 : PySem.W.nsIn K mainGlobals "table_at" = some (some (.ref f10))) (l10 : K.lookup f10 = some ⟨oc10, od10, .func (PySem.W.fnOf "table_at" "table_at" (defArgs sTableAt) (defBody sTableAt) (defScope sTableAt) .none kV10 dc10 pm10 an10 cd10 ct10), sl10⟩) (c10 : PySem.W.codeIn K cd10 "table_at" = true) (k10 : PySem.W.keepIn K (.ref f10) = true)
    (a11 : PySem.W.nsIn K mainGlobals "number_at" = some (some (.ref f11))) (l11 : K.lookup f11 = some ⟨oc11, od11, .func (PySem.W.fnOf "number_at" "number_at" (defArgs sNumAt) (defBody sNumAt) (defScope sNumAt) .none kV11 dc11 pm11 an11 cd11 ct11), sl11⟩) (c11 : PySem.W.codeIn K cd11 "number_at" = true) (k11 : PySem.W.keepIn K (.ref f11) = true)
    (a12 : PySem.W.nsIn K mainGlobals "part_at" = some (some (.ref f12))) (l12 : K.lookup f12 = some ⟨oc12, od12, .func (PySem.W.fnOf "part_at" "part_at" (defArgs sPartAt) (defBody sPartAt) (defScope sPartAt) .none kV12 dc12 pm12 an12 cd12 ct12), sl12⟩) (c12 : PySem.W.codeIn K cd12 "part_at" = true) (k12 : PySem.W.keepIn K (.ref f12) = true)
    (a13 : PySem.W.nsIn K mainGlobals "jump_at" = some (some (.ref f13))) (l13 : K.lookup f13 = some ⟨oc13, od13, .func (PySem.W.fnOf "jump_at" "jump_at" (defArgs sJumpAt) (defBody sJumpAt) (defScope sJumpAt) .none kV13 dc13 pm13 an13 cd13 ct13), sl13⟩) (c13 : PySem.W.codeIn K cd13 "jump_at" = true) (k13 : PySem.W.keepIn K (.ref f13) = true)
    (a14 : PySem.W.nsIn K mainGlobals "row_at" = some (some (.ref f14))) (l14 : K.lookup f14 = some ⟨oc14, od14, .func (PySem.W.fnOf "row_at" "row_at" (defArgs sRowAt) (defBody sRowAt) (defScope sRowAt) .none kV14 dc14 pm14 an14 cd14 ct14), sl14⟩) (c14 : PySem.W.codeIn K cd14 "row_at" = true) (k14 : PySem.W.keepIn K (.ref f14) = true)
    (a15 : PySem.W.nsIn K mainGlobals "rows_with_distances" = some (some (.ref f15))) (l15 : K.lookup f15 = some ⟨oc15, od15, .func (PySem.W.fnOf "rows_with_distances" "rows_with_distances" (defArgs sRowsWD) (defBody sRowsWD) (defScope sRowsWD) .none kV15 dc15 pm15 an15 cd15 ct15), sl15⟩) (c15 : PySem.W.codeIn K cd15 "rows_with_distances" = true) (k15 : PySem.W.keepIn K (.ref f15) = true)
    (a16 : PySem.W.nsIn K mainGlobals "rows_of_units" = some (some (.ref f16))) (l16 : K.lookup f16 = some ⟨oc16, od16, .func (PySem.W.fnOf "rows_of_units" "rows_of_units" (defArgs sRowsOU) (defBody sRowsOU) (defScope sRowsOU) .none kV16 dc16 pm16 an16 cd16 ct16), sl16⟩) (c16 : PySem.W.codeIn K cd16 "rows_of_units" = true) (k16 : PySem.W.keepIn K (.ref f16) = true)
    (a17 : PySem.W.nsIn K mainGlobals "_law_stream" = some (some (.ref f17))) (l17 : K.lookup f17 = some ⟨oc17, od17, .func (PySem.W.fnOf "_law_stream" "_law_stream" (defArgs sStream) (defBody sStream) (defScope sStream) .none kV17 dc17 pm17 an17 cd17 ct17), sl17⟩) (c17 : PySem.W.codeIn K cd17 "_law_stream" = true) (k17 : PySem.W.keepIn K (.ref f17) = true)
    (a18 : PySem.W.nsIn K mainGlobals "_law_whole" = some (some (.ref f18))) (l18 : K.lookup f18 = some ⟨oc18, od18, .func (PySem.W.fnOf "_law_whole" "_law_whole" (defArgs sLWhole) (defBody sLWhole) (defScope sLWhole) .none kV18 dc18 pm18 an18 cd18 ct18), sl18⟩) (c18 : PySem.W.codeIn K cd18 "_law_whole" = true) (k18 : PySem.W.keepIn K (.ref f18) = true)
    (a19 : PySem.W.nsIn K mainGlobals "_law_first" = some (some (.ref f19))) (l19 : K.lookup f19 = some ⟨oc19, od19, .func (PySem.W.fnOf "_law_first" "_law_first" (defArgs sLFirst) (defBody sLFirst) (defScope sLFirst) .none kV19 dc19 pm19 an19 cd19 ct19), sl19⟩) (c19 : PySem.W.codeIn K cd19 "_law_first" = true) (k19 : PySem.W.keepIn K (.ref f19) = true)
    (a20 : PySem.W.nsIn K mainGlobals "_law_next" = some (some (.ref f20))) (l20 : K.lookup f20 = some ⟨oc20, od20, .func (PySem.W.fnOf "_law_next" "_law_next" (defArgs sLNext) (defBody sLNext) (defScope sLNext) .none kV20 dc20 pm20 an20 cd20 ct20), sl20⟩) (c20 : PySem.W.codeIn K cd20 "_law_next" = true) (k20 : PySem.W.keepIn K (.ref f20) = true)
    (a21 : PySem.W.nsIn K mainGlobals "_law_table" = some (some (.ref f21))) (l21 : K.lookup f21 = some ⟨oc21, od21, .func (PySem.W.fnOf "_law_table" "_law_table" (defArgs sLTable) (defBody sLTable) (defScope sLTable) .none kV21 dc21 pm21 an21 cd21 ct21), sl21⟩) (c21 : PySem.W.codeIn K cd21 "_law_table" = true) (k21 : PySem.W.keepIn K (.ref f21) = true)
    (a22 : PySem.W.nsIn K mainGlobals "_law_led" = some (some (.ref f22))) (l22 : K.lookup f22 = some ⟨oc22, od22, .func (PySem.W.fnOf "_law_led" "_law_led" (defArgs sLed) (defBody sLed) (defScope sLed) .none kV22 dc22 pm22 an22 cd22 ct22), sl22⟩) (c22 : PySem.W.codeIn K cd22 "_law_led" = true) (k22 : PySem.W.keepIn K (.ref f22) = true)
    (a23 : PySem.W.nsIn K mainGlobals "_law_due" = some (some (.ref f23))) (l23 : K.lookup f23 = some ⟨oc23, od23, .func (PySem.W.fnOf "_law_due" "_law_due" (defArgs sDue) (defBody sDue) (defScope sDue) .none kV23 dc23 pm23 an23 cd23 ct23), sl23⟩) (c23 : PySem.W.codeIn K cd23 "_law_due" = true) (k23 : PySem.W.keepIn K (.ref f23) = true)
    (a24 : PySem.W.nsIn K mainGlobals "_law_read" = some (some (.ref f24))) (l24 : K.lookup f24 = some ⟨oc24, od24, .func (PySem.W.fnOf "_law_read" "_law_read" (defArgs sLRead) (defBody sLRead) (defScope sLRead) .none kV24 dc24 pm24 an24 cd24 ct24), sl24⟩) (c24 : PySem.W.codeIn K cd24 "_law_read" = true) (k24 : PySem.W.keepIn K (.ref f24) = true)
    (a25 : PySem.W.nsIn K mainGlobals "_law_unit" = some (some (.ref f25))) (l25 : K.lookup f25 = some ⟨oc25, od25, .func (PySem.W.fnOf "_law_unit" "_law_unit" (defArgs sLUnit) (defBody sLUnit) (defScope sLUnit) .none kV25 dc25 pm25 an25 cd25 ct25), sl25⟩) (c25 : PySem.W.codeIn K cd25 "_law_unit" = true) (k25 : PySem.W.keepIn K (.ref f25) = true)
    (a26 : PySem.W.nsIn K mainGlobals "_law_right" = some (some (.ref f26))) (l26 : K.lookup f26 = some ⟨oc26, od26, .func (PySem.W.fnOf "_law_right" "_law_right" (defArgs sRightL) (defBody sRightL) (defScope sRightL) .none kV26 dc26 pm26 an26 cd26 ct26), sl26⟩) (c26 : PySem.W.codeIn K cd26 "_law_right" = true) (k26 : PySem.W.keepIn K (.ref f26) = true)
    (a27 : PySem.W.nsIn K mainGlobals "law" = some (some (.ref f27))) (l27 : K.lookup f27 = some ⟨oc27, od27, .func (PySem.W.fnOf "law" "law" (defArgs sLaw) (defBody sLaw) (defScope sLaw) .none kV27 dc27 pm27 an27 cd27 ct27), sl27⟩) (c27 : PySem.W.codeIn K cd27 "law" = true) (k27 : PySem.W.keepIn K (.ref f27) = true)
    {pT0 : Addr} {odT0 : Option Addr} {slT0 : Array (Option Value)} {nT0 : Nat} {t0_0 t0_1 t0_2 t0_3 t0_4 t0_5 : Tok} (aT0 : PySem.W.nsIn K mainGlobals "TWO_UNITS" = some (some (.ref pT0)))
    (lT0 : K.lookup pT0 = some ⟨.type "tuple", odT0, .seq #[.str "set" t0_0, .str "more" t0_1, .str "put" t0_2, .str "take" t0_3, .str "see" t0_4, .str "halt" t0_5] nT0, slT0⟩)
    {pT1 : Addr} {odT1 : Option Addr} {slT1 : Array (Option Value)} {nT1 : Nat} {t1_0 t1_1 t1_2 t1_3 : Tok} (aT1 : PySem.W.nsIn K mainGlobals "NOT_GOING_ON" = some (some (.ref pT1)))
    (lT1 : K.lookup pT1 = some ⟨.type "tuple", odT1, .seq #[.str "stop" t1_0, .str "back" t1_1, .str "halt" t1_2, .str "jump" t1_3] nT1, slT1⟩)
    (z_len : PySem.W.nsIn K mainGlobals "len" = some none)
    (z_list : PySem.W.nsIn K mainGlobals "list" = some none)
    (z_tuple : PySem.W.nsIn K mainGlobals "tuple" = some none)
    (z_int : PySem.W.nsIn K mainGlobals "int" = some none)
    (z_bool : PySem.W.nsIn K mainGlobals "bool" = some none)
    (z_isinstance : PySem.W.nsIn K mainGlobals "isinstance" = some none)
    (z_enumerate : PySem.W.nsIn K mainGlobals "enumerate" = some none)
    (z_range : PySem.W.nsIn K mainGlobals "range" = some none)
    (z_dict : PySem.W.nsIn K mainGlobals "dict" = some none)
    (z_ValueError : PySem.W.nsIn K mainGlobals "ValueError" = some none)
    {pP : Addr} {esP : Array DictEntry} {nP : Nat} (aP : PySem.W.nsIn K mainGlobals "PARTS" = some (some (.ref pP))) (lP : K.lookup pP = some ⟨.type "dict", none, .dict esP nP, #[]⟩) (kP : PySem.W.KeysLit w.params esP.toList) (oP : (pP == sysModules) = false)
    {qP0 : Addr} {slP0 : Array (Option Value)} {nP0 : Nat} (eP0 : PySem.W.nsIn K pP "stop" = some (some (.ref qP0))) (lP0 : K.lookup qP0 = some ⟨.type "tuple", none, .seq #[] nP0, slP0⟩)
    {qP1 : Addr} {slP1 : Array (Option Value)} {nP1 : Nat} (eP1 : PySem.W.nsIn K pP "back" = some (some (.ref qP1))) (lP1 : K.lookup qP1 = some ⟨.type "tuple", none, .seq #[] nP1, slP1⟩)
    {qP2 : Addr} {slP2 : Array (Option Value)} {nP2 : Nat} {tP2_0 : Tok} (eP2 : PySem.W.nsIn K pP "halt" = some (some (.ref qP2))) (lP2 : K.lookup qP2 = some ⟨.type "tuple", none, .seq #[.str "number" tP2_0] nP2, slP2⟩)
    {qP3 : Addr} {slP3 : Array (Option Value)} {nP3 : Nat} {tP3_0 tP3_1 : Tok} (eP3 : PySem.W.nsIn K pP "set" = some (some (.ref qP3))) (lP3 : K.lookup qP3 = some ⟨.type "tuple", none, .seq #[.str "box" tP3_0, .str "value" tP3_1] nP3, slP3⟩)
    {qP4 : Addr} {slP4 : Array (Option Value)} {nP4 : Nat} {tP4_0 tP4_1 : Tok} (eP4 : PySem.W.nsIn K pP "more" = some (some (.ref qP4))) (lP4 : K.lookup qP4 = some ⟨.type "tuple", none, .seq #[.str "box" tP4_0, .str "value" tP4_1] nP4, slP4⟩)
    {qP5 : Addr} {slP5 : Array (Option Value)} {nP5 : Nat} {tP5_0 tP5_1 : Tok} (eP5 : PySem.W.nsIn K pP "copy" = some (some (.ref qP5))) (lP5 : K.lookup qP5 = some ⟨.type "tuple", none, .seq #[.str "box" tP5_0, .str "box" tP5_1] nP5, slP5⟩)
    {qP6 : Addr} {slP6 : Array (Option Value)} {nP6 : Nat} {tP6_0 tP6_1 : Tok} (eP6 : PySem.W.nsIn K pP "add" = some (some (.ref qP6))) (lP6 : K.lookup qP6 = some ⟨.type "tuple", none, .seq #[.str "box" tP6_0, .str "box" tP6_1] nP6, slP6⟩)
    {qP7 : Addr} {slP7 : Array (Option Value)} {nP7 : Nat} {tP7_0 tP7_1 : Tok} (eP7 : PySem.W.nsIn K pP "less" = some (some (.ref qP7))) (lP7 : K.lookup qP7 = some ⟨.type "tuple", none, .seq #[.str "box" tP7_0, .str "box" tP7_1] nP7, slP7⟩)
    {qP8 : Addr} {slP8 : Array (Option Value)} {nP8 : Nat} {tP8_0 tP8_1 : Tok} (eP8 : PySem.W.nsIn K pP "load" = some (some (.ref qP8))) (lP8 : K.lookup qP8 = some ⟨.type "tuple", none, .seq #[.str "box" tP8_0, .str "box" tP8_1] nP8, slP8⟩)
    {qP9 : Addr} {slP9 : Array (Option Value)} {nP9 : Nat} {tP9_0 tP9_1 : Tok} (eP9 : PySem.W.nsIn K pP "keep" = some (some (.ref qP9))) (lP9 : K.lookup qP9 = some ⟨.type "tuple", none, .seq #[.str "box" tP9_0, .str "box" tP9_1] nP9, slP9⟩)
    {qP10 : Addr} {slP10 : Array (Option Value)} {nP10 : Nat} {tP10_0 : Tok} (eP10 : PySem.W.nsIn K pP "tell" = some (some (.ref qP10))) (lP10 : K.lookup qP10 = some ⟨.type "tuple", none, .seq #[.str "box" tP10_0] nP10, slP10⟩)
    {qP11 : Addr} {slP11 : Array (Option Value)} {nP11 : Nat} {tP11_0 tP11_1 : Tok} (eP11 : PySem.W.nsIn K pP "see" = some (some (.ref qP11))) (lP11 : K.lookup qP11 = some ⟨.type "tuple", none, .seq #[.str "box" tP11_0, .str "number" tP11_1] nP11, slP11⟩)
    {qP12 : Addr} {slP12 : Array (Option Value)} {nP12 : Nat} {tP12_0 tP12_1 : Tok} (eP12 : PySem.W.nsIn K pP "put" = some (some (.ref qP12))) (lP12 : K.lookup qP12 = some ⟨.type "tuple", none, .seq #[.str "box" tP12_0, .str "aside" tP12_1] nP12, slP12⟩)
    {qP13 : Addr} {slP13 : Array (Option Value)} {nP13 : Nat} {tP13_0 tP13_1 : Tok} (eP13 : PySem.W.nsIn K pP "take" = some (some (.ref qP13))) (lP13 : K.lookup qP13 = some ⟨.type "tuple", none, .seq #[.str "box" tP13_0, .str "aside" tP13_1] nP13, slP13⟩)
    {qP14 : Addr} {slP14 : Array (Option Value)} {nP14 : Nat} {tP14_0 tP14_1 : Tok} (eP14 : PySem.W.nsIn K pP "jump" = some (some (.ref qP14))) (lP14 : K.lookup qP14 = some ⟨.type "tuple", none, .seq #[.str "target" tP14_0, .str "far" tP14_1] nP14, slP14⟩)
    {qP15 : Addr} {slP15 : Array (Option Value)} {nP15 : Nat} {tP15_0 tP15_1 tP15_2 : Tok} (eP15 : PySem.W.nsIn K pP "zero" = some (some (.ref qP15))) (lP15 : K.lookup qP15 = some ⟨.type "tuple", none, .seq #[.str "box" tP15_0, .str "target" tP15_1, .str "far" tP15_2] nP15, slP15⟩)
    {qP16 : Addr} {slP16 : Array (Option Value)} {nP16 : Nat} {tP16_0 tP16_1 tP16_2 : Tok} (eP16 : PySem.W.nsIn K pP "below" = some (some (.ref qP16))) (lP16 : K.lookup qP16 = some ⟨.type "tuple", none, .seq #[.str "box" tP16_0, .str "target" tP16_1, .str "far" tP16_2] nP16, slP16⟩)
    {qP17 : Addr} {slP17 : Array (Option Value)} {nP17 : Nat} {tP17_0 tP17_1 : Tok} (eP17 : PySem.W.nsIn K pP "call" = some (some (.ref qP17))) (lP17 : K.lookup qP17 = some ⟨.type "tuple", none, .seq #[.str "target" tP17_0, .str "far" tP17_1] nP17, slP17⟩)
    {qP18 : Addr} {slP18 : Array (Option Value)} {nP18 : Nat} {tP18_0 tP18_1 : Tok} (eP18 : PySem.W.nsIn K pP "mark" = some (some (.ref qP18))) (lP18 : K.lookup qP18 = some ⟨.type "tuple", none, .seq #[.str "target" tP18_0, .str "far" tP18_1] nP18, slP18⟩)
    {qP19 : Addr} {slP19 : Array (Option Value)} {nP19 : Nat} {tP19_0 tP19_1 : Tok} (eP19 : PySem.W.nsIn K pP "table" = some (some (.ref qP19))) (lP19 : K.lookup qP19 = some ⟨.type "tuple", none, .seq #[.str "box" tP19_0, .str "targets" tP19_1] nP19, slP19⟩)
    {tCODE_STEP : Tok} (aCODE_STEP : PySem.W.nsIn K mainGlobals "CODE_STEP" = some (some (.int (1024) tCODE_STEP)))
    {tBOX_STEP : Tok} (aBOX_STEP : PySem.W.nsIn K mainGlobals "BOX_STEP" = some (some (.int (128) tBOX_STEP)))
    {tSHORT_ADDED : Tok} (aSHORT_ADDED : PySem.W.nsIn K mainGlobals "SHORT_ADDED" = some (some (.int (64) tSHORT_ADDED)))
    {pH h0_ h1_ h2_ h3_ h4_ h5_ h6_ h7_ h8_ h9_ h10_ h11_ h12_ h13_ h14_ h15_ h16_ h17_ h18_ h19_ h20_ h21_ h22_ h23_ h24_ : Addr} {slH : Array (Option Value)} {nH : Nat} (aH : PySem.W.nsIn K mainGlobals "HEADS" = some (some (.ref pH))) (lH : K.lookup pH = some ⟨.type "tuple", none, .seq #[.ref h0_, .ref h1_, .ref h2_, .ref h3_, .ref h4_, .ref h5_, .ref h6_, .ref h7_, .ref h8_, .ref h9_, .ref h10_, .ref h11_, .ref h12_, .ref h13_, .ref h14_, .ref h15_, .ref h16_, .ref h17_, .ref h18_, .ref h19_, .ref h20_, .ref h21_, .ref h22_, .ref h23_, .ref h24_] nH, slH⟩)
    {odH0 : Option Addr} {slH0 : Array (Option Value)} {nH0 : Nat} {tH0 uH0 : Tok} (lH0 : K.lookup h0_ = some ⟨.type "tuple", odH0, .seq #[.str "stop" tH0, .int 0 uH0] nH0, slH0⟩)
    {odH1 : Option Addr} {slH1 : Array (Option Value)} {nH1 : Nat} {tH1 uH1 : Tok} (lH1 : K.lookup h1_ = some ⟨.type "tuple", odH1, .seq #[.str "back" tH1, .int 0 uH1] nH1, slH1⟩)
    {odH2 : Option Addr} {slH2 : Array (Option Value)} {nH2 : Nat} {tH2 uH2 : Tok} (lH2 : K.lookup h2_ = some ⟨.type "tuple", odH2, .seq #[.str "halt" tH2, .int 0 uH2] nH2, slH2⟩)
    {odH3 : Option Addr} {slH3 : Array (Option Value)} {nH3 : Nat} {tH3 uH3 : Tok} (lH3 : K.lookup h3_ = some ⟨.type "tuple", odH3, .seq #[.str "set" tH3, .int 0 uH3] nH3, slH3⟩)
    {odH4 : Option Addr} {slH4 : Array (Option Value)} {nH4 : Nat} {tH4 uH4 : Tok} (lH4 : K.lookup h4_ = some ⟨.type "tuple", odH4, .seq #[.str "more" tH4, .int 0 uH4] nH4, slH4⟩)
    {odH5 : Option Addr} {slH5 : Array (Option Value)} {nH5 : Nat} {tH5 uH5 : Tok} (lH5 : K.lookup h5_ = some ⟨.type "tuple", odH5, .seq #[.str "copy" tH5, .int 0 uH5] nH5, slH5⟩)
    {odH6 : Option Addr} {slH6 : Array (Option Value)} {nH6 : Nat} {tH6 uH6 : Tok} (lH6 : K.lookup h6_ = some ⟨.type "tuple", odH6, .seq #[.str "add" tH6, .int 0 uH6] nH6, slH6⟩)
    {odH7 : Option Addr} {slH7 : Array (Option Value)} {nH7 : Nat} {tH7 uH7 : Tok} (lH7 : K.lookup h7_ = some ⟨.type "tuple", odH7, .seq #[.str "less" tH7, .int 0 uH7] nH7, slH7⟩)
    {odH8 : Option Addr} {slH8 : Array (Option Value)} {nH8 : Nat} {tH8 uH8 : Tok} (lH8 : K.lookup h8_ = some ⟨.type "tuple", odH8, .seq #[.str "load" tH8, .int 0 uH8] nH8, slH8⟩)
    {odH9 : Option Addr} {slH9 : Array (Option Value)} {nH9 : Nat} {tH9 uH9 : Tok} (lH9 : K.lookup h9_ = some ⟨.type "tuple", odH9, .seq #[.str "keep" tH9, .int 0 uH9] nH9, slH9⟩)
    {odH10 : Option Addr} {slH10 : Array (Option Value)} {nH10 : Nat} {tH10 uH10 : Tok} (lH10 : K.lookup h10_ = some ⟨.type "tuple", odH10, .seq #[.str "tell" tH10, .int 0 uH10] nH10, slH10⟩)
    {odH11 : Option Addr} {slH11 : Array (Option Value)} {nH11 : Nat} {tH11 uH11 : Tok} (lH11 : K.lookup h11_ = some ⟨.type "tuple", odH11, .seq #[.str "see" tH11, .int 0 uH11] nH11, slH11⟩)
    {odH12 : Option Addr} {slH12 : Array (Option Value)} {nH12 : Nat} {tH12 uH12 : Tok} (lH12 : K.lookup h12_ = some ⟨.type "tuple", odH12, .seq #[.str "put" tH12, .int 0 uH12] nH12, slH12⟩)
    {odH13 : Option Addr} {slH13 : Array (Option Value)} {nH13 : Nat} {tH13 uH13 : Tok} (lH13 : K.lookup h13_ = some ⟨.type "tuple", odH13, .seq #[.str "take" tH13, .int 0 uH13] nH13, slH13⟩)
    {odH14 : Option Addr} {slH14 : Array (Option Value)} {nH14 : Nat} {tH14 uH14 : Tok} (lH14 : K.lookup h14_ = some ⟨.type "tuple", odH14, .seq #[.str "jump" tH14, .int 0 uH14] nH14, slH14⟩)
    {odH15 : Option Addr} {slH15 : Array (Option Value)} {nH15 : Nat} {tH15 uH15 : Tok} (lH15 : K.lookup h15_ = some ⟨.type "tuple", odH15, .seq #[.str "zero" tH15, .int 0 uH15] nH15, slH15⟩)
    {odH16 : Option Addr} {slH16 : Array (Option Value)} {nH16 : Nat} {tH16 uH16 : Tok} (lH16 : K.lookup h16_ = some ⟨.type "tuple", odH16, .seq #[.str "below" tH16, .int 0 uH16] nH16, slH16⟩)
    {odH17 : Option Addr} {slH17 : Array (Option Value)} {nH17 : Nat} {tH17 uH17 : Tok} (lH17 : K.lookup h17_ = some ⟨.type "tuple", odH17, .seq #[.str "call" tH17, .int 0 uH17] nH17, slH17⟩)
    {odH18 : Option Addr} {slH18 : Array (Option Value)} {nH18 : Nat} {tH18 uH18 : Tok} (lH18 : K.lookup h18_ = some ⟨.type "tuple", odH18, .seq #[.str "mark" tH18, .int 0 uH18] nH18, slH18⟩)
    {odH19 : Option Addr} {slH19 : Array (Option Value)} {nH19 : Nat} {tH19 uH19 : Tok} (lH19 : K.lookup h19_ = some ⟨.type "tuple", odH19, .seq #[.str "table" tH19, .int 0 uH19] nH19, slH19⟩)
    {odH20 : Option Addr} {slH20 : Array (Option Value)} {nH20 : Nat} {tH20 uH20 : Tok} (lH20 : K.lookup h20_ = some ⟨.type "tuple", odH20, .seq #[.str "jump" tH20, .int 1 uH20] nH20, slH20⟩)
    {odH21 : Option Addr} {slH21 : Array (Option Value)} {nH21 : Nat} {tH21 uH21 : Tok} (lH21 : K.lookup h21_ = some ⟨.type "tuple", odH21, .seq #[.str "zero" tH21, .int 1 uH21] nH21, slH21⟩)
    {odH22 : Option Addr} {slH22 : Array (Option Value)} {nH22 : Nat} {tH22 uH22 : Tok} (lH22 : K.lookup h22_ = some ⟨.type "tuple", odH22, .seq #[.str "below" tH22, .int 1 uH22] nH22, slH22⟩)
    {odH23 : Option Addr} {slH23 : Array (Option Value)} {nH23 : Nat} {tH23 uH23 : Tok} (lH23 : K.lookup h23_ = some ⟨.type "tuple", odH23, .seq #[.str "call" tH23, .int 1 uH23] nH23, slH23⟩)
    {odH24 : Option Addr} {slH24 : Array (Option Value)} {nH24 : Nat} {tH24 uH24 : Tok} (lH24 : K.lookup h24_ = some ⟨.type "tuple", odH24, .seq #[.str "mark" tH24, .int 1 uH24] nH24, slH24⟩)
    {pB : Addr} {esB : Array DictEntry} {nB : Nat} (aB : PySem.W.nsIn K mainGlobals "BOUNDS" = some (some (.ref pB))) (lB : K.lookup pB = some ⟨.type "dict", none, .dict esB nB, #[]⟩) (kB : PySem.W.KeysLit w.params esB.toList) (oB : (pB == sysModules) = false)
    {qB0 : Addr} {slB0 : Array (Option Value)} {nB0 : Nat} {tB0_0 tB0_1 : Tok} (eB0 : PySem.W.nsIn K pB "box" = some (some (.ref qB0))) (lB0 : K.lookup qB0 = some ⟨.type "tuple", none, .seq #[.int (0) tB0_0, .int (7) tB0_1] nB0, slB0⟩)
    {qB1 : Addr} {slB1 : Array (Option Value)} {nB1 : Nat} {tB1_0 tB1_1 : Tok} (eB1 : PySem.W.nsIn K pB "aside" = some (some (.ref qB1))) (lB1 : K.lookup qB1 = some ⟨.type "tuple", none, .seq #[.int (0) tB1_0, .int (1000000) tB1_1] nB1, slB1⟩)
    {qB2 : Addr} {slB2 : Array (Option Value)} {nB2 : Nat} {tB2_0 tB2_1 : Tok} (eB2 : PySem.W.nsIn K pB "target" = some (some (.ref qB2))) (lB2 : K.lookup qB2 = some ⟨.type "tuple", none, .seq #[.int (0) tB2_0, .int (1000000000) tB2_1] nB2, slB2⟩)
    {qB3 : Addr} {slB3 : Array (Option Value)} {nB3 : Nat} {tB3_0 tB3_1 : Tok} (eB3 : PySem.W.nsIn K pB "number" = some (some (.ref qB3))) (lB3 : K.lookup qB3 = some ⟨.type "tuple", none, .seq #[.int (0) tB3_0, .int (1000000) tB3_1] nB3, slB3⟩)
    {qB4 : Addr} {slB4 : Array (Option Value)} {nB4 : Nat} {tB4_0 tB4_1 : Tok} (eB4 : PySem.W.nsIn K pB "value" = some (some (.ref qB4))) (lB4 : K.lookup qB4 = some ⟨.type "tuple", none, .seq #[.int (-1000000000) tB4_0, .int (1000000000) tB4_1] nB4, slB4⟩)
    {qB5 : Addr} {slB5 : Array (Option Value)} {nB5 : Nat} {tB5_0 tB5_1 : Tok} (eB5 : PySem.W.nsIn K pB "far" = some (some (.ref qB5))) (lB5 : K.lookup qB5 = some ⟨.type "tuple", none, .seq #[.int (0) tB5_0, .int (1) tB5_1] nB5, slB5⟩)
    {tMOST_TARGETS : Tok} (aMOST_TARGETS : PySem.W.nsIn K mainGlobals "MOST_TARGETS" = some (some (.int (16) tMOST_TARGETS)))
    {tBOXES : Tok} (aBOXES : PySem.W.nsIn K mainGlobals "BOXES" = some (some (.int (8) tBOXES)))
    {cNoUnits : Addr} (xNoUnits : PySem.W.nsIn K mainGlobals "NoUnits" = some (some (.ref cNoUnits)))
    {cRowError : Addr} (xRowError : PySem.W.nsIn K mainGlobals "RowError" = some (some (.ref cRowError)))
    {cNoFree : Addr} (xNoFree : PySem.W.nsIn K mainGlobals "NoFree" = some (some (.ref cNoFree)))
    {cNoLayout : Addr} (xNoLayout : PySem.W.nsIn K mainGlobals "NoLayout" = some (some (.ref cNoLayout)))
    {cNoRows : Addr} (xNoRows : PySem.W.nsIn K mainGlobals "NoRows" = some (some (.ref cNoRows)))
    {cNoText : Addr} (xNoText : PySem.W.nsIn K mainGlobals "NoText" = some (some (.ref cNoText)))
    {cNoWish : Addr} (xNoWish : PySem.W.nsIn K mainGlobals "NoWish" = some (some (.ref cNoWish)))
    {gI : Addr} {odgI angI : Option Addr} {slgI : Array (Option Value)} {ocgI kVgI dcgI pmgI cdgI ctgI : Value} (agI : PySem.W.findIn K (.ref cNoUnits) "__init__" = some (some (.ref gI))) (igI : PySem.W.typeIn K (.ref gI) = some (.type "function")) (lgI : K.lookup gI = some ⟨ocgI, odgI, .func (PySem.W.fnOf "__init__" "NoUnits.__init__" (defArgs sXI) (defBody sXI) (defScope sXI) .none kVgI dcgI pmgI angI cdgI ctgI), slgI⟩) (cgI : PySem.W.codeIn K cdgI "NoUnits.__init__" = true) (kgI : PySem.W.keepIn K (.ref gI) = true)
    {ddC : Option Addr} {nmC qnC : Str} {bsC subC : List Value} {nsC : Addr} {snC : List Str} {abC : Bool} {colC : Option Bool} {k0C k1C k2C k3C k5C : Option Value} {cdE : ClassData} (xlk : K.lookup cNoUnits = some ⟨.type "type", ddC, .cls ⟨nmC, bsC, .ref cNoUnits :: .ref cRowError :: vmVE, nsC, qnC, true, snC, subC, abC, colC, false⟩, #[k0C, k1C, k2C, k3C, some (.builtin "ValueError.__new__"), k5C]⟩) (xq : PySem.W.excIn K cRowError vmVE "ValueError.__new__" = true) (xrt : PySem.W.mroIn K cRowError (.type "object") = some true) (xsa : PySem.W.findIn K (.ref cNoUnits) "__setattr__" = some (some (.builtin "object.__setattr__"))) (xna : PySem.W.takerIn K cNoUnits "at" = some none) (xnt : PySem.W.findIn K (.ref cNoUnits) "at" = some none) (xhd : PySem.W.hasDictIn K cNoUnits = true) (xga : PySem.W.findIn K (.ref cNoUnits) "__getattribute__" = some (some (.builtin "BaseException.__getattribute__"))) (xgh : PySem.W.findIn K (.ref cNoUnits) "__getattr__" = some none) (xcl : PySem.W.findIn K (.ref cNoUnits) "__class__" = some (some (.builtin "object.__class__"))) (xgt : PySem.W.specialIn K (.builtin "object.__class__") "__get__" = some (some (.builtin "getset_descriptor.__get__"))) (xtk : PySem.W.takesIn K (.builtin "object.__class__") = some true) (xob : PySem.W.mroIn K cNoUnits (.type "object") = some true) (xbx : PySem.W.mroIn K cNoUnits (.type "BaseException") = some true) (xci : PySem.W.clsIn K cNoUnits = some cdE) (xsg : PySem.W.specialIn K (.ref cRowError) "__getattribute__" = some (some (.builtin "type.__getattribute__"))) (xrr : PySem.W.readsIn K cRowError (.type "type") = true) (xfi : PySem.W.findCls K (.ref cRowError) (.type "type") "__init__" = some (.val (.builtin "ValueError.__init__"))) (xkc : PySem.W.keepIn K (.ref cNoUnits) = true) (xexm : PySem.W.exmOne K (.ref cNoUnits) (.ref cRowError) = some true) (xown : PySem.W.kitOne K (.ref cNoUnits) (.ref cNoUnits) = some true) (xval : PySem.W.kitOne K (.ref cNoUnits) (.type "ValueError") = some true) (xoth : PySem.W.kitAny K (.ref cNoUnits) [.ref cNoFree, .ref cNoLayout, .ref cNoRows, .ref cNoText, .ref cNoWish] = some false)
    : ∃ fd : FuncData, (∀ (s : Shared) (v : Value), BindsTo s fd ⟨[v], []⟩ [("_law_script", v)]) ∧ ∀ base : Heap, K.In base → base.Ns mainGlobals mg → FnOk l.prog w K mg base CX0 11 fa fd ["_law_script"] (spLaw (K := K)) := by
  have e := hfa.symm.trans (PySem.W.mg_of X G a27)
  cases e
  have F0 := fun_mk (st := sGoesOn) l0 c0 k0
  have b0 := F0.binds (ps := ["row"]) fun _ _ _ _ _ _ us hl => match us, hl with | [_], _ => rfl
  have m0 := PySem.W.mg_of X G a0
  have F1 := fun_mk (st := sTargets) l1 c1 k1
  have b1 := F1.binds (ps := ["row"]) fun _ _ _ _ _ _ us hl => match us, hl with | [_], _ => rfl
  have m1 := PySem.W.mg_of X G a1
  have F2 := fun_mk (st := sWithT) l2 c2 k2
  have b2 := F2.binds (ps := ["row", "targets"]) fun _ _ _ _ _ _ us hl => match us, hl with | [_, _], _ => rfl
  have m2 := PySem.W.mg_of X G a2
  have F3 := fun_mk (st := sWholeF) l3 c3 k3
  have b3 := F3.binds (ps := ["thing"]) fun _ _ _ _ _ _ us hl => match us, hl with | [_], _ => rfl
  have m3 := PySem.W.mg_of X G a3
  have F4 := fun_mk (st := sNumOf) l4 c4 k4
  have b4 := F4.binds (ps := ["kind", "thing"]) fun _ _ _ _ _ _ us hl => match us, hl with | [_, _], _ => rfl
  have m4 := PySem.W.mg_of X G a4
  have F5 := fun_mk (st := sHasFar) l5 c5 k5
  have b5 := F5.binds (ps := ["word"]) fun _ _ _ _ _ _ us hl => match us, hl with | [_], _ => rfl
  have m5 := PySem.W.mg_of X G a5
  have F6 := fun_mk (st := sSize) l6 c6 k6
  have b6 := F6.binds (ps := ["row"]) fun _ _ _ _ _ _ us hl => match us, hl with | [_], _ => rfl
  have m6 := PySem.W.mg_of X G a6
  have F7 := fun_mk (st := sBegins) l7 c7 k7
  have b7 := F7.binds (ps := ["rows"]) fun _ _ _ _ _ _ us hl => match us, hl with | [_], _ => rfl
  have m7 := PySem.W.mg_of X G a7
  have F8 := fun_mk (st := sWholeAt) l8 c8 k8
  have b8 := F8.binds (ps := ["units", "at"]) fun _ _ _ _ _ _ us hl => match us, hl with | [_, _], _ => rfl
  have m8 := PySem.W.mg_of X G a8
  have F9 := fun_mk (st := sFits) l9 c9 k9
  have b9 := F9.binds (ps := ["head", "a", "low"]) fun _ _ _ _ _ _ us hl => match us, hl with | [_, _, _], _ => rfl
  have m9 := PySem.W.mg_of X G a9
  have F10 := fun_mk (st := sTableAt) l10 c10 k10
  have b10 := F10.binds (ps := ["units", "at", "a"]) fun _ _ _ _ _ _ us hl => match us, hl with | [_, _, _], _ => rfl
  have m10 := PySem.W.mg_of X G a10
  have F11 := fun_mk (st := sNumAt) l11 c11 k11
  have b11 := F11.binds (ps := ["units", "at", "kind"]) fun _ _ _ _ _ _ us hl => match us, hl with | [_, _, _], _ => rfl
  have m11 := PySem.W.mg_of X G a11
  have F12 := fun_mk (st := sPartAt) l12 c12 k12
  have b12 := F12.binds (ps := ["units", "at", "kind", "a"]) fun _ _ _ _ _ _ us hl => match us, hl with | [_, _, _, _], _ => rfl
  have m12 := PySem.W.mg_of X G a12
  have F13 := fun_mk (st := sJumpAt) l13 c13 k13
  have b13 := F13.binds (ps := ["units", "at", "head", "a", "low"]) fun _ _ _ _ _ _ us hl => match us, hl with | [_, _, _, _, _], _ => rfl
  have m13 := PySem.W.mg_of X G a13
  have F14 := fun_mk (st := sRowAt) l14 c14 k14
  have b14 := F14.binds (ps := ["units", "at"]) fun _ _ _ _ _ _ us hl => match us, hl with | [_, _], _ => rfl
  have m14 := PySem.W.mg_of X G a14
  have F15 := fun_mk (st := sRowsWD) l15 c15 k15
  have b15 := F15.binds (ps := ["units"]) fun _ _ _ _ _ _ us hl => match us, hl with | [_], _ => rfl
  have m15 := PySem.W.mg_of X G a15
  have F16 := fun_mk (st := sRowsOU) l16 c16 k16
  have b16 := F16.binds (ps := ["units"]) fun _ _ _ _ _ _ us hl => match us, hl with | [_], _ => rfl
  have m16 := PySem.W.mg_of X G a16
  have F17 := fun_mk (st := sStream) l17 c17 k17
  have b17 := F17.binds (ps := ["_law_cell", "_law_many"]) fun _ _ _ _ _ _ us hl => match us, hl with | [_, _], _ => rfl
  have m17 := PySem.W.mg_of X G a17
  have F18 := fun_mk (st := sLWhole) l18 c18 k18
  have b18 := F18.binds (ps := ["_law_unit_here", "_law_least", "_law_most"]) fun _ _ _ _ _ _ us hl => match us, hl with | [_, _, _], _ => rfl
  have m18 := PySem.W.mg_of X G a18
  have F19 := fun_mk (st := sLFirst) l19 c19 k19
  have b19 := F19.binds (ps := ["_law_unit_here"]) fun _ _ _ _ _ _ us hl => match us, hl with | [_], _ => rfl
  have m19 := PySem.W.mg_of X G a19
  have F20 := fun_mk (st := sLNext) l20 c20 k20
  have b20 := F20.binds (ps := ["_law_units", "_law_at"]) fun _ _ _ _ _ _ us hl => match us, hl with | [_, _], _ => rfl
  have m20 := PySem.W.mg_of X G a20
  have F21 := fun_mk (st := sLTable) l21 c21 k21
  have b21 := F21.binds (ps := ["_law_units", "_law_at", "_law_box"]) fun _ _ _ _ _ _ us hl => match us, hl with | [_, _, _], _ => rfl
  have m21 := PySem.W.mg_of X G a21
  have F22 := fun_mk (st := sLed) l22 c22 k22
  have b22 := F22.binds (ps := ["_law_row", "_law_behind", "_law_places"]) fun _ _ _ _ _ _ us hl => match us, hl with | [_, _, _], _ => rfl
  have m22 := PySem.W.mg_of X G a22
  have F23 := fun_mk (st := sDue) l23 c23 k23
  have b23 := F23.binds (ps := ["_law_units"]) fun _ _ _ _ _ _ us hl => match us, hl with | [_], _ => rfl
  have m23 := PySem.W.mg_of X G a23
  have F24 := fun_mk (st := sLRead) l24 c24 k24
  have b24 := F24.binds (ps := ["_law_units"]) fun _ _ _ _ _ _ us hl => match us, hl with | [_], _ => rfl
  have m24 := PySem.W.mg_of X G a24
  have F25 := fun_mk (st := sLUnit) l25 c25 k25
  have b25 := F25.binds (ps := ["_law_cell"]) fun _ _ _ _ _ _ us hl => match us, hl with | [_], _ => rfl
  have m25 := PySem.W.mg_of X G a25
  have F26 := fun_mk (st := sRightL) l26 c26 k26
  have b26 := F26.binds (ps := ["_law_units"]) fun _ _ _ _ _ _ us hl => match us, hl with | [_], _ => rfl
  have m26 := PySem.W.mg_of X G a26
  have F27 := fun_mk (st := sLaw) l27 c27 k27
  have T : Txt K w.params mg := ⟨⟨pP, PySem.W.mg_of X G aP, fa_cons ⟨qP0, ⟨esP, nP, lP, kP, oP, _, eP0, rfl⟩, fun H => .inr ⟨_, _, _, lP0, rfl, rfl, (by show 0 ≤ sizeLine; decide), .nil⟩⟩
      (fa_cons ⟨qP1, ⟨esP, nP, lP, kP, oP, _, eP1, rfl⟩, fun H => .inr ⟨_, _, _, lP1, rfl, rfl, (by show 0 ≤ sizeLine; decide), .nil⟩⟩
      (fa_cons ⟨qP2, ⟨esP, nP, lP, kP, oP, _, eP2, rfl⟩, fun H => .inr ⟨_, _, _, lP2, rfl, rfl, (by show 1 ≤ sizeLine; decide), .cons ⟨_, rfl⟩ (.nil)⟩⟩
      (fa_cons ⟨qP3, ⟨esP, nP, lP, kP, oP, _, eP3, rfl⟩, fun H => .inr ⟨_, _, _, lP3, rfl, rfl, (by show 2 ≤ sizeLine; decide), .cons ⟨_, rfl⟩ (.cons ⟨_, rfl⟩ (.nil))⟩⟩
      (fa_cons ⟨qP4, ⟨esP, nP, lP, kP, oP, _, eP4, rfl⟩, fun H => .inr ⟨_, _, _, lP4, rfl, rfl, (by show 2 ≤ sizeLine; decide), .cons ⟨_, rfl⟩ (.cons ⟨_, rfl⟩ (.nil))⟩⟩
      (fa_cons ⟨qP5, ⟨esP, nP, lP, kP, oP, _, eP5, rfl⟩, fun H => .inr ⟨_, _, _, lP5, rfl, rfl, (by show 2 ≤ sizeLine; decide), .cons ⟨_, rfl⟩ (.cons ⟨_, rfl⟩ (.nil))⟩⟩
      (fa_cons ⟨qP6, ⟨esP, nP, lP, kP, oP, _, eP6, rfl⟩, fun H => .inr ⟨_, _, _, lP6, rfl, rfl, (by show 2 ≤ sizeLine; decide), .cons ⟨_, rfl⟩ (.cons ⟨_, rfl⟩ (.nil))⟩⟩
      (fa_cons ⟨qP7, ⟨esP, nP, lP, kP, oP, _, eP7, rfl⟩, fun H => .inr ⟨_, _, _, lP7, rfl, rfl, (by show 2 ≤ sizeLine; decide), .cons ⟨_, rfl⟩ (.cons ⟨_, rfl⟩ (.nil))⟩⟩
      (fa_cons ⟨qP8, ⟨esP, nP, lP, kP, oP, _, eP8, rfl⟩, fun H => .inr ⟨_, _, _, lP8, rfl, rfl, (by show 2 ≤ sizeLine; decide), .cons ⟨_, rfl⟩ (.cons ⟨_, rfl⟩ (.nil))⟩⟩
      (fa_cons ⟨qP9, ⟨esP, nP, lP, kP, oP, _, eP9, rfl⟩, fun H => .inr ⟨_, _, _, lP9, rfl, rfl, (by show 2 ≤ sizeLine; decide), .cons ⟨_, rfl⟩ (.cons ⟨_, rfl⟩ (.nil))⟩⟩
      (fa_cons ⟨qP10, ⟨esP, nP, lP, kP, oP, _, eP10, rfl⟩, fun H => .inr ⟨_, _, _, lP10, rfl, rfl, (by show 1 ≤ sizeLine; decide), .cons ⟨_, rfl⟩ (.nil)⟩⟩
      (fa_cons ⟨qP11, ⟨esP, nP, lP, kP, oP, _, eP11, rfl⟩, fun H => .inr ⟨_, _, _, lP11, rfl, rfl, (by show 2 ≤ sizeLine; decide), .cons ⟨_, rfl⟩ (.cons ⟨_, rfl⟩ (.nil))⟩⟩
      (fa_cons ⟨qP12, ⟨esP, nP, lP, kP, oP, _, eP12, rfl⟩, fun H => .inr ⟨_, _, _, lP12, rfl, rfl, (by show 2 ≤ sizeLine; decide), .cons ⟨_, rfl⟩ (.cons ⟨_, rfl⟩ (.nil))⟩⟩
      (fa_cons ⟨qP13, ⟨esP, nP, lP, kP, oP, _, eP13, rfl⟩, fun H => .inr ⟨_, _, _, lP13, rfl, rfl, (by show 2 ≤ sizeLine; decide), .cons ⟨_, rfl⟩ (.cons ⟨_, rfl⟩ (.nil))⟩⟩
      (fa_cons ⟨qP14, ⟨esP, nP, lP, kP, oP, _, eP14, rfl⟩, fun H => .inr ⟨_, _, _, lP14, rfl, rfl, (by show 2 ≤ sizeLine; decide), .cons ⟨_, rfl⟩ (.cons ⟨_, rfl⟩ (.nil))⟩⟩
      (fa_cons ⟨qP15, ⟨esP, nP, lP, kP, oP, _, eP15, rfl⟩, fun H => .inr ⟨_, _, _, lP15, rfl, rfl, (by show 3 ≤ sizeLine; decide), .cons ⟨_, rfl⟩ (.cons ⟨_, rfl⟩ (.cons ⟨_, rfl⟩ (.nil)))⟩⟩
      (fa_cons ⟨qP16, ⟨esP, nP, lP, kP, oP, _, eP16, rfl⟩, fun H => .inr ⟨_, _, _, lP16, rfl, rfl, (by show 3 ≤ sizeLine; decide), .cons ⟨_, rfl⟩ (.cons ⟨_, rfl⟩ (.cons ⟨_, rfl⟩ (.nil)))⟩⟩
      (fa_cons ⟨qP17, ⟨esP, nP, lP, kP, oP, _, eP17, rfl⟩, fun H => .inr ⟨_, _, _, lP17, rfl, rfl, (by show 2 ≤ sizeLine; decide), .cons ⟨_, rfl⟩ (.cons ⟨_, rfl⟩ (.nil))⟩⟩
      (fa_cons ⟨qP18, ⟨esP, nP, lP, kP, oP, _, eP18, rfl⟩, fun H => .inr ⟨_, _, _, lP18, rfl, rfl, (by show 2 ≤ sizeLine; decide), .cons ⟨_, rfl⟩ (.cons ⟨_, rfl⟩ (.nil))⟩⟩
      (fa_cons ⟨qP19, ⟨esP, nP, lP, kP, oP, _, eP19, rfl⟩, fun H => .inr ⟨_, _, _, lP19, rfl, rfl, (by show 2 ≤ sizeLine; decide), .cons ⟨_, rfl⟩ (.cons ⟨_, rfl⟩ (.nil))⟩⟩
      (fa_nil))))))))))))))))))))⟩,
    ⟨pT0, PySem.W.mg_of X G aT0, fun H => .inr ⟨_, _, _, lT0, rfl, rfl, (by show 6 ≤ sizeLine; decide), .cons ⟨_, rfl⟩ (.cons ⟨_, rfl⟩ (.cons ⟨_, rfl⟩ (.cons ⟨_, rfl⟩ (.cons ⟨_, rfl⟩ (.cons ⟨_, rfl⟩ (.nil))))))⟩⟩,
    ⟨tCODE_STEP, PySem.W.mg_of X G aCODE_STEP⟩,
    ⟨tBOX_STEP, PySem.W.mg_of X G aBOX_STEP⟩,
    ⟨tSHORT_ADDED, PySem.W.mg_of X G aSHORT_ADDED⟩,
    ⟨pH, PySem.W.mg_of X G aH, ⟨_, lH, rfl, rfl⟩, fun H => have hd : HdAt K H [h0_, h1_, h2_, h3_, h4_, h5_, h6_, h7_, h8_, h9_, h10_, h11_, h12_, h13_, h14_, h15_, h16_, h17_, h18_, h19_, h20_, h21_, h22_, h23_, h24_] heads := (.cons (.inr ⟨_, _, _, lH0, rfl, rfl, (by show 2 ≤ sizeLine; decide), .cons ⟨_, rfl⟩ (.cons ⟨_, rfl⟩ .nil)⟩) (.cons (.inr ⟨_, _, _, lH1, rfl, rfl, (by show 2 ≤ sizeLine; decide), .cons ⟨_, rfl⟩ (.cons ⟨_, rfl⟩ .nil)⟩) (.cons (.inr ⟨_, _, _, lH2, rfl, rfl, (by show 2 ≤ sizeLine; decide), .cons ⟨_, rfl⟩ (.cons ⟨_, rfl⟩ .nil)⟩) (.cons (.inr ⟨_, _, _, lH3, rfl, rfl, (by show 2 ≤ sizeLine; decide), .cons ⟨_, rfl⟩ (.cons ⟨_, rfl⟩ .nil)⟩) (.cons (.inr ⟨_, _, _, lH4, rfl, rfl, (by show 2 ≤ sizeLine; decide), .cons ⟨_, rfl⟩ (.cons ⟨_, rfl⟩ .nil)⟩) (.cons (.inr ⟨_, _, _, lH5, rfl, rfl, (by show 2 ≤ sizeLine; decide), .cons ⟨_, rfl⟩ (.cons ⟨_, rfl⟩ .nil)⟩) (.cons (.inr ⟨_, _, _, lH6, rfl, rfl, (by show 2 ≤ sizeLine; decide), .cons ⟨_, rfl⟩ (.cons ⟨_, rfl⟩ .nil)⟩) (.cons (.inr ⟨_, _, _, lH7, rfl, rfl, (by show 2 ≤ sizeLine; decide), .cons ⟨_, rfl⟩ (.cons ⟨_, rfl⟩ .nil)⟩) (.cons (.inr ⟨_, _, _, lH8, rfl, rfl, (by show 2 ≤ sizeLine; decide), .cons ⟨_, rfl⟩ (.cons ⟨_, rfl⟩ .nil)⟩) (.cons (.inr ⟨_, _, _, lH9, rfl, rfl, (by show 2 ≤ sizeLine; decide), .cons ⟨_, rfl⟩ (.cons ⟨_, rfl⟩ .nil)⟩) (.cons (.inr ⟨_, _, _, lH10, rfl, rfl, (by show 2 ≤ sizeLine; decide), .cons ⟨_, rfl⟩ (.cons ⟨_, rfl⟩ .nil)⟩) (.cons (.inr ⟨_, _, _, lH11, rfl, rfl, (by show 2 ≤ sizeLine; decide), .cons ⟨_, rfl⟩ (.cons ⟨_, rfl⟩ .nil)⟩) (.cons (.inr ⟨_, _, _, lH12, rfl, rfl, (by show 2 ≤ sizeLine; decide), .cons ⟨_, rfl⟩ (.cons ⟨_, rfl⟩ .nil)⟩) (.cons (.inr ⟨_, _, _, lH13, rfl, rfl, (by show 2 ≤ sizeLine; decide), .cons ⟨_, rfl⟩ (.cons ⟨_, rfl⟩ .nil)⟩) (.cons (.inr ⟨_, _, _, lH14, rfl, rfl, (by show 2 ≤ sizeLine; decide), .cons ⟨_, rfl⟩ (.cons ⟨_, rfl⟩ .nil)⟩) (.cons (.inr ⟨_, _, _, lH15, rfl, rfl, (by show 2 ≤ sizeLine; decide), .cons ⟨_, rfl⟩ (.cons ⟨_, rfl⟩ .nil)⟩) (.cons (.inr ⟨_, _, _, lH16, rfl, rfl, (by show 2 ≤ sizeLine; decide), .cons ⟨_, rfl⟩ (.cons ⟨_, rfl⟩ .nil)⟩) (.cons (.inr ⟨_, _, _, lH17, rfl, rfl, (by show 2 ≤ sizeLine; decide), .cons ⟨_, rfl⟩ (.cons ⟨_, rfl⟩ .nil)⟩) (.cons (.inr ⟨_, _, _, lH18, rfl, rfl, (by show 2 ≤ sizeLine; decide), .cons ⟨_, rfl⟩ (.cons ⟨_, rfl⟩ .nil)⟩) (.cons (.inr ⟨_, _, _, lH19, rfl, rfl, (by show 2 ≤ sizeLine; decide), .cons ⟨_, rfl⟩ (.cons ⟨_, rfl⟩ .nil)⟩) (.cons (.inr ⟨_, _, _, lH20, rfl, rfl, (by show 2 ≤ sizeLine; decide), .cons ⟨_, rfl⟩ (.cons ⟨_, rfl⟩ .nil)⟩) (.cons (.inr ⟨_, _, _, lH21, rfl, rfl, (by show 2 ≤ sizeLine; decide), .cons ⟨_, rfl⟩ (.cons ⟨_, rfl⟩ .nil)⟩) (.cons (.inr ⟨_, _, _, lH22, rfl, rfl, (by show 2 ≤ sizeLine; decide), .cons ⟨_, rfl⟩ (.cons ⟨_, rfl⟩ .nil)⟩) (.cons (.inr ⟨_, _, _, lH23, rfl, rfl, (by show 2 ≤ sizeLine; decide), .cons ⟨_, rfl⟩ (.cons ⟨_, rfl⟩ .nil)⟩) (.cons (.inr ⟨_, _, _, lH24, rfl, rfl, (by show 2 ≤ sizeLine; decide), .cons ⟨_, rfl⟩ (.cons ⟨_, rfl⟩ .nil)⟩) .nil))))))))))))))))))))))))); ⟨_, .inr ⟨_, _, _, lH, rfl, rfl, (by show 25 ≤ sizeLine; decide), vals_refs [h0_, h1_, h2_, h3_, h4_, h5_, h6_, h7_, h8_, h9_, h10_, h11_, h12_, h13_, h14_, h15_, h16_, h17_, h18_, h19_, h20_, h21_, h22_, h23_, h24_]⟩, hd.len, hd.get⟩⟩,
    have hd : ∀ H, HdAt K H [h0_, h1_, h2_, h3_, h4_, h5_, h6_, h7_, h8_, h9_, h10_, h11_, h12_, h13_, h14_, h15_, h16_, h17_, h18_, h19_, h20_, h21_, h22_, h23_, h24_] heads := fun H => (.cons (.inr ⟨_, _, _, lH0, rfl, rfl, (by show 2 ≤ sizeLine; decide), .cons ⟨_, rfl⟩ (.cons ⟨_, rfl⟩ .nil)⟩) (.cons (.inr ⟨_, _, _, lH1, rfl, rfl, (by show 2 ≤ sizeLine; decide), .cons ⟨_, rfl⟩ (.cons ⟨_, rfl⟩ .nil)⟩) (.cons (.inr ⟨_, _, _, lH2, rfl, rfl, (by show 2 ≤ sizeLine; decide), .cons ⟨_, rfl⟩ (.cons ⟨_, rfl⟩ .nil)⟩) (.cons (.inr ⟨_, _, _, lH3, rfl, rfl, (by show 2 ≤ sizeLine; decide), .cons ⟨_, rfl⟩ (.cons ⟨_, rfl⟩ .nil)⟩) (.cons (.inr ⟨_, _, _, lH4, rfl, rfl, (by show 2 ≤ sizeLine; decide), .cons ⟨_, rfl⟩ (.cons ⟨_, rfl⟩ .nil)⟩) (.cons (.inr ⟨_, _, _, lH5, rfl, rfl, (by show 2 ≤ sizeLine; decide), .cons ⟨_, rfl⟩ (.cons ⟨_, rfl⟩ .nil)⟩) (.cons (.inr ⟨_, _, _, lH6, rfl, rfl, (by show 2 ≤ sizeLine; decide), .cons ⟨_, rfl⟩ (.cons ⟨_, rfl⟩ .nil)⟩) (.cons (.inr ⟨_, _, _, lH7, rfl, rfl, (by show 2 ≤ sizeLine; decide), .cons ⟨_, rfl⟩ (.cons ⟨_, rfl⟩ .nil)⟩) (.cons (.inr ⟨_, _, _, lH8, rfl, rfl, (by show 2 ≤ sizeLine; decide), .cons ⟨_, rfl⟩ (.cons ⟨_, rfl⟩ .nil)⟩) (.cons (.inr ⟨_, _, _, lH9, rfl, rfl, (by show 2 ≤ sizeLine; decide), .cons ⟨_, rfl⟩ (.cons ⟨_, rfl⟩ .nil)⟩) (.cons (.inr ⟨_, _, _, lH10, rfl, rfl, (by show 2 ≤ sizeLine; decide), .cons ⟨_, rfl⟩ (.cons ⟨_, rfl⟩ .nil)⟩) (.cons (.inr ⟨_, _, _, lH11, rfl, rfl, (by show 2 ≤ sizeLine; decide), .cons ⟨_, rfl⟩ (.cons ⟨_, rfl⟩ .nil)⟩) (.cons (.inr ⟨_, _, _, lH12, rfl, rfl, (by show 2 ≤ sizeLine; decide), .cons ⟨_, rfl⟩ (.cons ⟨_, rfl⟩ .nil)⟩) (.cons (.inr ⟨_, _, _, lH13, rfl, rfl, (by show 2 ≤ sizeLine; decide), .cons ⟨_, rfl⟩ (.cons ⟨_, rfl⟩ .nil)⟩) (.cons (.inr ⟨_, _, _, lH14, rfl, rfl, (by show 2 ≤ sizeLine; decide), .cons ⟨_, rfl⟩ (.cons ⟨_, rfl⟩ .nil)⟩) (.cons (.inr ⟨_, _, _, lH15, rfl, rfl, (by show 2 ≤ sizeLine; decide), .cons ⟨_, rfl⟩ (.cons ⟨_, rfl⟩ .nil)⟩) (.cons (.inr ⟨_, _, _, lH16, rfl, rfl, (by show 2 ≤ sizeLine; decide), .cons ⟨_, rfl⟩ (.cons ⟨_, rfl⟩ .nil)⟩) (.cons (.inr ⟨_, _, _, lH17, rfl, rfl, (by show 2 ≤ sizeLine; decide), .cons ⟨_, rfl⟩ (.cons ⟨_, rfl⟩ .nil)⟩) (.cons (.inr ⟨_, _, _, lH18, rfl, rfl, (by show 2 ≤ sizeLine; decide), .cons ⟨_, rfl⟩ (.cons ⟨_, rfl⟩ .nil)⟩) (.cons (.inr ⟨_, _, _, lH19, rfl, rfl, (by show 2 ≤ sizeLine; decide), .cons ⟨_, rfl⟩ (.cons ⟨_, rfl⟩ .nil)⟩) (.cons (.inr ⟨_, _, _, lH20, rfl, rfl, (by show 2 ≤ sizeLine; decide), .cons ⟨_, rfl⟩ (.cons ⟨_, rfl⟩ .nil)⟩) (.cons (.inr ⟨_, _, _, lH21, rfl, rfl, (by show 2 ≤ sizeLine; decide), .cons ⟨_, rfl⟩ (.cons ⟨_, rfl⟩ .nil)⟩) (.cons (.inr ⟨_, _, _, lH22, rfl, rfl, (by show 2 ≤ sizeLine; decide), .cons ⟨_, rfl⟩ (.cons ⟨_, rfl⟩ .nil)⟩) (.cons (.inr ⟨_, _, _, lH23, rfl, rfl, (by show 2 ≤ sizeLine; decide), .cons ⟨_, rfl⟩ (.cons ⟨_, rfl⟩ .nil)⟩) (.cons (.inr ⟨_, _, _, lH24, rfl, rfl, (by show 2 ≤ sizeLine; decide), .cons ⟨_, rfl⟩ (.cons ⟨_, rfl⟩ .nil)⟩) .nil))))))))))))))))))))))))); ⟨pH, [h0_, h1_, h2_, h3_, h4_, h5_, h6_, h7_, h8_, h9_, h10_, h11_, h12_, h13_, h14_, h15_, h16_, h17_, h18_, h19_, h20_, h21_, h22_, h23_, h24_], PySem.W.mg_of X G aH, fun H => .inr ⟨_, _, _, lH, rfl, rfl, (by show 25 ≤ sizeLine; decide), vals_refs [h0_, h1_, h2_, h3_, h4_, h5_, h6_, h7_, h8_, h9_, h10_, h11_, h12_, h13_, h14_, h15_, h16_, h17_, h18_, h19_, h20_, h21_, h22_, h23_, h24_]⟩, rfl, fun i q x g1 g2 H => (hd H).get i q x g1 g2⟩,
    ⟨pP, PySem.W.mg_of X G aP, fa_cons ⟨qP0, ⟨esP, nP, lP, kP, oP, _, eP0, rfl⟩, ⟨_, lP0, rfl, rfl⟩, fun H => .inr ⟨_, _, _, lP0, rfl, rfl, (by show 0 ≤ sizeLine; decide), .nil⟩⟩
      (fa_cons ⟨qP1, ⟨esP, nP, lP, kP, oP, _, eP1, rfl⟩, ⟨_, lP1, rfl, rfl⟩, fun H => .inr ⟨_, _, _, lP1, rfl, rfl, (by show 0 ≤ sizeLine; decide), .nil⟩⟩
      (fa_cons ⟨qP2, ⟨esP, nP, lP, kP, oP, _, eP2, rfl⟩, ⟨_, lP2, rfl, rfl⟩, fun H => .inr ⟨_, _, _, lP2, rfl, rfl, (by show 1 ≤ sizeLine; decide), .cons ⟨_, rfl⟩ (.nil)⟩⟩
      (fa_cons ⟨qP3, ⟨esP, nP, lP, kP, oP, _, eP3, rfl⟩, ⟨_, lP3, rfl, rfl⟩, fun H => .inr ⟨_, _, _, lP3, rfl, rfl, (by show 2 ≤ sizeLine; decide), .cons ⟨_, rfl⟩ (.cons ⟨_, rfl⟩ (.nil))⟩⟩
      (fa_cons ⟨qP4, ⟨esP, nP, lP, kP, oP, _, eP4, rfl⟩, ⟨_, lP4, rfl, rfl⟩, fun H => .inr ⟨_, _, _, lP4, rfl, rfl, (by show 2 ≤ sizeLine; decide), .cons ⟨_, rfl⟩ (.cons ⟨_, rfl⟩ (.nil))⟩⟩
      (fa_cons ⟨qP5, ⟨esP, nP, lP, kP, oP, _, eP5, rfl⟩, ⟨_, lP5, rfl, rfl⟩, fun H => .inr ⟨_, _, _, lP5, rfl, rfl, (by show 2 ≤ sizeLine; decide), .cons ⟨_, rfl⟩ (.cons ⟨_, rfl⟩ (.nil))⟩⟩
      (fa_cons ⟨qP6, ⟨esP, nP, lP, kP, oP, _, eP6, rfl⟩, ⟨_, lP6, rfl, rfl⟩, fun H => .inr ⟨_, _, _, lP6, rfl, rfl, (by show 2 ≤ sizeLine; decide), .cons ⟨_, rfl⟩ (.cons ⟨_, rfl⟩ (.nil))⟩⟩
      (fa_cons ⟨qP7, ⟨esP, nP, lP, kP, oP, _, eP7, rfl⟩, ⟨_, lP7, rfl, rfl⟩, fun H => .inr ⟨_, _, _, lP7, rfl, rfl, (by show 2 ≤ sizeLine; decide), .cons ⟨_, rfl⟩ (.cons ⟨_, rfl⟩ (.nil))⟩⟩
      (fa_cons ⟨qP8, ⟨esP, nP, lP, kP, oP, _, eP8, rfl⟩, ⟨_, lP8, rfl, rfl⟩, fun H => .inr ⟨_, _, _, lP8, rfl, rfl, (by show 2 ≤ sizeLine; decide), .cons ⟨_, rfl⟩ (.cons ⟨_, rfl⟩ (.nil))⟩⟩
      (fa_cons ⟨qP9, ⟨esP, nP, lP, kP, oP, _, eP9, rfl⟩, ⟨_, lP9, rfl, rfl⟩, fun H => .inr ⟨_, _, _, lP9, rfl, rfl, (by show 2 ≤ sizeLine; decide), .cons ⟨_, rfl⟩ (.cons ⟨_, rfl⟩ (.nil))⟩⟩
      (fa_cons ⟨qP10, ⟨esP, nP, lP, kP, oP, _, eP10, rfl⟩, ⟨_, lP10, rfl, rfl⟩, fun H => .inr ⟨_, _, _, lP10, rfl, rfl, (by show 1 ≤ sizeLine; decide), .cons ⟨_, rfl⟩ (.nil)⟩⟩
      (fa_cons ⟨qP11, ⟨esP, nP, lP, kP, oP, _, eP11, rfl⟩, ⟨_, lP11, rfl, rfl⟩, fun H => .inr ⟨_, _, _, lP11, rfl, rfl, (by show 2 ≤ sizeLine; decide), .cons ⟨_, rfl⟩ (.cons ⟨_, rfl⟩ (.nil))⟩⟩
      (fa_cons ⟨qP12, ⟨esP, nP, lP, kP, oP, _, eP12, rfl⟩, ⟨_, lP12, rfl, rfl⟩, fun H => .inr ⟨_, _, _, lP12, rfl, rfl, (by show 2 ≤ sizeLine; decide), .cons ⟨_, rfl⟩ (.cons ⟨_, rfl⟩ (.nil))⟩⟩
      (fa_cons ⟨qP13, ⟨esP, nP, lP, kP, oP, _, eP13, rfl⟩, ⟨_, lP13, rfl, rfl⟩, fun H => .inr ⟨_, _, _, lP13, rfl, rfl, (by show 2 ≤ sizeLine; decide), .cons ⟨_, rfl⟩ (.cons ⟨_, rfl⟩ (.nil))⟩⟩
      (fa_cons ⟨qP14, ⟨esP, nP, lP, kP, oP, _, eP14, rfl⟩, ⟨_, lP14, rfl, rfl⟩, fun H => .inr ⟨_, _, _, lP14, rfl, rfl, (by show 2 ≤ sizeLine; decide), .cons ⟨_, rfl⟩ (.cons ⟨_, rfl⟩ (.nil))⟩⟩
      (fa_cons ⟨qP15, ⟨esP, nP, lP, kP, oP, _, eP15, rfl⟩, ⟨_, lP15, rfl, rfl⟩, fun H => .inr ⟨_, _, _, lP15, rfl, rfl, (by show 3 ≤ sizeLine; decide), .cons ⟨_, rfl⟩ (.cons ⟨_, rfl⟩ (.cons ⟨_, rfl⟩ (.nil)))⟩⟩
      (fa_cons ⟨qP16, ⟨esP, nP, lP, kP, oP, _, eP16, rfl⟩, ⟨_, lP16, rfl, rfl⟩, fun H => .inr ⟨_, _, _, lP16, rfl, rfl, (by show 3 ≤ sizeLine; decide), .cons ⟨_, rfl⟩ (.cons ⟨_, rfl⟩ (.cons ⟨_, rfl⟩ (.nil)))⟩⟩
      (fa_cons ⟨qP17, ⟨esP, nP, lP, kP, oP, _, eP17, rfl⟩, ⟨_, lP17, rfl, rfl⟩, fun H => .inr ⟨_, _, _, lP17, rfl, rfl, (by show 2 ≤ sizeLine; decide), .cons ⟨_, rfl⟩ (.cons ⟨_, rfl⟩ (.nil))⟩⟩
      (fa_cons ⟨qP18, ⟨esP, nP, lP, kP, oP, _, eP18, rfl⟩, ⟨_, lP18, rfl, rfl⟩, fun H => .inr ⟨_, _, _, lP18, rfl, rfl, (by show 2 ≤ sizeLine; decide), .cons ⟨_, rfl⟩ (.cons ⟨_, rfl⟩ (.nil))⟩⟩
      (fa_cons ⟨qP19, ⟨esP, nP, lP, kP, oP, _, eP19, rfl⟩, ⟨_, lP19, rfl, rfl⟩, fun H => .inr ⟨_, _, _, lP19, rfl, rfl, (by show 2 ≤ sizeLine; decide), .cons ⟨_, rfl⟩ (.cons ⟨_, rfl⟩ (.nil))⟩⟩
      (fa_nil))))))))))))))))))))⟩,
    ⟨pB, PySem.W.mg_of X G aB, fa_cons ⟨qB0, ⟨esB, nB, lB, kB, oB, _, eB0, rfl⟩, fun H => .inr ⟨_, _, _, lB0, rfl, rfl, (by show 2 ≤ sizeLine; decide), .cons ⟨_, rfl⟩ (.cons ⟨_, rfl⟩ (.nil))⟩⟩
      (fa_cons ⟨qB1, ⟨esB, nB, lB, kB, oB, _, eB1, rfl⟩, fun H => .inr ⟨_, _, _, lB1, rfl, rfl, (by show 2 ≤ sizeLine; decide), .cons ⟨_, rfl⟩ (.cons ⟨_, rfl⟩ (.nil))⟩⟩
      (fa_cons ⟨qB2, ⟨esB, nB, lB, kB, oB, _, eB2, rfl⟩, fun H => .inr ⟨_, _, _, lB2, rfl, rfl, (by show 2 ≤ sizeLine; decide), .cons ⟨_, rfl⟩ (.cons ⟨_, rfl⟩ (.nil))⟩⟩
      (fa_cons ⟨qB3, ⟨esB, nB, lB, kB, oB, _, eB3, rfl⟩, fun H => .inr ⟨_, _, _, lB3, rfl, rfl, (by show 2 ≤ sizeLine; decide), .cons ⟨_, rfl⟩ (.cons ⟨_, rfl⟩ (.nil))⟩⟩
      (fa_cons ⟨qB4, ⟨esB, nB, lB, kB, oB, _, eB4, rfl⟩, fun H => .inr ⟨_, _, _, lB4, rfl, rfl, (by show 2 ≤ sizeLine; decide), .cons ⟨_, rfl⟩ (.cons ⟨_, rfl⟩ (.nil))⟩⟩
      (fa_cons ⟨qB5, ⟨esB, nB, lB, kB, oB, _, eB5, rfl⟩, fun H => .inr ⟨_, _, _, lB5, rfl, rfl, (by show 2 ≤ sizeLine; decide), .cons ⟨_, rfl⟩ (.cons ⟨_, rfl⟩ (.nil))⟩⟩
      (fa_nil))))))⟩,
    ⟨tMOST_TARGETS, PySem.W.mg_of X G aMOST_TARGETS⟩,
    ⟨tBOXES, PySem.W.mg_of X G aBOXES⟩,
    ⟨pT1, PySem.W.mg_of X G aT1, fun H => .inr ⟨_, _, _, lT1, rfl, rfl, (by show 4 ≤ sizeLine; decide), .cons ⟨_, rfl⟩ (.cons ⟨_, rfl⟩ (.cons ⟨_, rfl⟩ (.cons ⟨_, rfl⟩ (.nil))))⟩⟩,
    PySem.W.mg_none_of X G z_len,
    PySem.W.mg_none_of X G z_list,
    PySem.W.mg_none_of X G z_tuple,
    PySem.W.mg_none_of X G z_int,
    PySem.W.mg_none_of X G z_bool,
    PySem.W.mg_none_of X G z_isinstance,
    PySem.W.mg_none_of X G z_enumerate,
    PySem.W.mg_none_of X G z_range,
    PySem.W.mg_none_of X G z_dict⟩
  refine ⟨PySem.W.fnOf "law" "law" (defArgs sLaw) (defBody sLaw) (defScope sLaw) .none kV27 dc27 pm27 an27 cd27 ct27, fun s v => .of_eq rfl, fun base _ _ => ?_⟩
  have FI := fun_mk (st := sXI) lgI cgI kgI
  have bI := FI.binds (ps := ["self", "at"]) fun _ _ _ _ _ _ us hl => match us, hl with | [_, _], _ => rfl
  have CX : XIni K cNoUnits cRowError gI := ⟨⟨_, _, _, _, _, _, _, _, _, _, _, _, _, _, xlk⟩, agI, igI, ⟨xq⟩, xrt, xsa, xna, xnt, xhd, ⟨xga, xgh, xcl, xgt, xtk, xob, xbx, by rw [xci]; rfl⟩, xsg, xrr, xfi⟩
  have YX : Ys K mg cNoUnits cRowError cNoFree cNoLayout cNoRows cNoText cNoWish gI := ⟨PySem.W.mg_of X G xNoUnits, PySem.W.mg_of X G xRowError, PySem.W.mg_of X G xNoFree, PySem.W.mg_of X G xNoLayout, PySem.W.mg_of X G xNoRows, PySem.W.mg_of X G xNoText, PySem.W.mg_of X G xNoWish, PySem.W.mg_none_of X G z_ValueError, CX, xkc, xexm, xoth, xown, xval⟩
  have mRE := YX.mRowError
  have mNU := YX.mNoUnits
  have GI := ok_xi (P := l.prog) (w := w) (base := base) FI CX mRE
  have Gx_targets_of := ok_targets (P := l.prog) (w := w) (base := base) F1 T
  have Gx_has_far := ok_far (P := l.prog) (w := w) (base := base) F5 T
  have Gx_size_of := ok_size (P := l.prog) (w := w) (base := base) F6 T Gx_has_far F5.kp b5 m5
  have Gx_begins_of := ok_begins (P := l.prog) (w := w) (base := base) F7 T Gx_size_of F6.kp b6 m6
  have Gx__law_stream := ok_stream (P := l.prog) (w := w) (base := base) F17 T
  have Gx_is_whole := ok_whole (P := l.prog) (w := w) (base := base) F3 T
  have Gx_is_number_of := ok_numof (P := l.prog) (w := w) (base := base) F4 T Gx_is_whole F3.kp b3 m3
  have Gx_whole_at := ok_wat (P := l.prog) (w := w) (base := base) F8 T Gx_is_whole F3.kp b3 m3 CX xkc GI bI mNU
  have Gx_fits_head := ok_fits (P := l.prog) (w := w) (base := base) F9 T Gx_has_far F5.kp b5 m5
  have Gx_table_at := ok_tat (P := l.prog) (w := w) (base := base) F10 T Gx_whole_at F8.kp b8 m8 CX xkc GI bI mNU
  have Gx_number_at := ok_nat (P := l.prog) (w := w) (base := base) F11 T Gx_whole_at F8.kp b8 m8 Gx_is_number_of F4.kp b4 m4 CX xkc GI bI mNU
  have Gx_part_at := ok_pat (P := l.prog) (w := w) (base := base) F12 T Gx_number_at F11.kp b11 m11
  have Gx_jump_at := ok_jat (P := l.prog) (w := w) (base := base) F13 T Gx_whole_at F8.kp b8 m8
  have Gx_row_at := ok_rat (P := l.prog) (w := w) (base := base) F14 T Gx_whole_at F8.kp b8 m8 Gx_fits_head F9.kp b9 m9 Gx_table_at F10.kp b10 m10 Gx_has_far F5.kp b5 m5 Gx_jump_at F13.kp b13 m13 Gx_part_at F12.kp b12 m12 CX xkc GI bI mNU
  have Gx_goes_on := ok_goes (P := l.prog) (w := w) (base := base) F0 T
  have Gx_with_targets := ok_witht (P := l.prog) (w := w) (base := base) F2 T
  have Gx_rows_with_distances := ok_rwd (P := l.prog) (w := w) (base := base) F15 T Gx_row_at F14.kp b14 m14 Gx_size_of F6.kp b6 m6
  have Gx_rows_of_units := ok_rou (P := l.prog) (w := w) (base := base) F16 T Gx_rows_with_distances F15.kp b15 m15 Gx_begins_of F7.kp b7 m7 Gx_targets_of F1.kp b1 m1 Gx_goes_on F0.kp b0 m0 Gx_with_targets F2.kp b2 m2 CX xkc GI bI mNU
  have Gx__law_whole := ok_lwhole (P := l.prog) (w := w) (base := base) F18 T
  have Gx__law_table := ok_ltable (P := l.prog) (w := w) (base := base) F21 T Gx__law_whole F18.kp b18 m18
  have Gx__law_first := ok_lfirst (P := l.prog) (w := w) (base := base) F19 T Gx__law_whole F18.kp b18 m18
  have Gx__law_next := ok_lnext (P := l.prog) (w := w) (base := base) F20 T Gx__law_first F19.kp b19 m19 Gx__law_table F21.kp b21 m21 Gx__law_whole F18.kp b18 m18
  have Gx__law_led := ok_led (P := l.prog) (w := w) (base := base) F22 T
  have Gx__law_due := ok_due (P := l.prog) (w := w) (base := base) F23 T Gx__law_next F20.kp b20 m20 Gx__law_led F22.kp b22 m22
  have Gx__law_read := ok_lread (P := l.prog) (w := w) (base := base) F24 T YX Gx_rows_of_units F16.kp b16 m16
  have Gx__law_right := ok_right (P := l.prog) (w := w) (base := base) F26 T Gx__law_read F24.kp b24 m24 Gx__law_due F23.kp b23 m23
  have Gx__law_unit := ok_lunit (P := l.prog) (w := w) (base := base) F25 T Gx__law_stream F17.kp b17 m17
  exact ok_law F27 T Gx__law_unit F25.kp b25 m25 Gx__law_right F26.kp b26 m26
theorem walk {l : PySem.W.OpenLaw} {q : Program} {loose : List Str} {XP : (Str → Option Value) → Heap → Prop} {YP : World → Heap → Prop} {d : DefRec} {K : Params → PySem.W.Frag} (hn : l.most = some 63) (hdf : d.params.defaults = [])
    (hY : ∀ (w : World) (h : Heap), YP w h → (K w.params).In h)
    (F : ∀ (w : World) (mg : Str → Option Value) (fa : Addr) (h : Heap), (K w.params).In h → h.Ns mainGlobals mg → mg d.name = some (.ref fa) →
      ∃ fd : FuncData, (∀ (s : Shared) (u : Value), BindsTo s fd ⟨[u], []⟩ [("_law_script", u)]) ∧ ∀ base : Heap, (K w.params).In base → base.Ns mainGlobals mg → FnOk l.prog w (K w.params) mg base CX0 11 fa fd ["_law_script"] (spLaw (K := K w.params))) :
    PySem.W.WalkO q loose XP YP l.row.toRowW d [] (fun f vs => PySem.call f vs) :=
  L2.walk_of (n := 63) (k := 11) (x := "_law_script") (CX := fun _ => CX0) (sp := fun w => spLaw (K := K w.params)) hn (by decide) hdf ⟨rfl, by decide, by decide⟩ hY F (fun _ _ a ns hl _ hS => ⟨a, ns, rfl, hS, hl, fun _ => rfl⟩) fun _ _ _ _ _ z => z
end My
open PySem PySem.W PyProof.Rows
set_option maxRecDepth 100000 in
set_option maxHeartbeats 0 in
theorem PySem.Challenge.cw_widenrows_k15_units_of_any_kind_holds : PySem.Challenge.rw_widenrows_k15_units_of_any_kind.Holds := by
  w_on; o_law; k_head; (case hw => w_witness2)
  k_fill
  refine My.walk (l := PySem.Challenge.rw_widenrows_k15_units_of_any_kind) rfl rfl (fun w h Y => PySem.W.kIn_of Y) ?F
  case F =>
    intro w mg fa h KX G hmg
    refine' My.all_mk KX G hmg ?a0 ?l0 ?c0 ?k0 ?a1 ?l1 ?c1 ?k1 ?a2 ?l2 ?c2 ?k2 ?a3 ?l3 ?c3 ?k3 ?a4 ?l4 ?c4 ?k4 ?a5 ?l5 ?c5 ?k5 ?a6 ?l6 ?c6 ?k6 ?a7 ?l7 ?c7 ?k7 ?a8 ?l8 ?c8 ?k8 ?a9 ?l9 ?c9 ?k9 ?a10 ?l10 ?c10 ?k10 ?a11 ?l11 ?c11 ?k11 ?a12 ?l12 ?c12 ?k12 ?a13 ?l13 ?c13 ?k13 ?a14 ?l14 ?c14 ?k14 ?a15 ?l15 ?c15 ?k15 ?a16 ?l16 ?c16 ?k16 ?a17 ?l17 ?c17 ?k17 ?a18 ?l18 ?c18 ?k18 ?a19 ?l19 ?c19 ?k19 ?a20 ?l20 ?c20 ?k20 ?a21 ?l21 ?c21 ?k21 ?a22 ?l22 ?c22 ?k22 ?a23 ?l23 ?c23 ?k23 ?a24 ?l24 ?c24 ?k24 ?a25 ?l25 ?c25 ?k25 ?a26 ?l26 ?c26 ?k26 ?a27 ?l27 ?c27 ?k27 ?aT0 ?lT0 ?aT1 ?lT1 ?z_len ?z_list ?z_tuple ?z_int ?z_bool ?z_isinstance ?z_enumerate ?z_range ?z_dict ?z_ValueError ?aP ?lP ?kP ?oP ?eP0 ?lP0 ?eP1 ?lP1 ?eP2 ?lP2 ?eP3 ?lP3 ?eP4 ?lP4 ?eP5 ?lP5 ?eP6 ?lP6 ?eP7 ?lP7 ?eP8 ?lP8 ?eP9 ?lP9 ?eP10 ?lP10 ?eP11 ?lP11 ?eP12 ?lP12 ?eP13 ?lP13 ?eP14 ?lP14 ?eP15 ?lP15 ?eP16 ?lP16 ?eP17 ?lP17 ?eP18 ?lP18 ?eP19 ?lP19 ?aCODE_STEP ?aBOX_STEP ?aSHORT_ADDED ?aH ?lH ?lH0 ?lH1 ?lH2 ?lH3 ?lH4 ?lH5 ?lH6 ?lH7 ?lH8 ?lH9 ?lH10 ?lH11 ?lH12 ?lH13 ?lH14 ?lH15 ?lH16 ?lH17 ?lH18 ?lH19 ?lH20 ?lH21 ?lH22 ?lH23 ?lH24 ?aB ?lB ?kB ?oB ?eB0 ?lB0 ?eB1 ?lB1 ?eB2 ?lB2 ?eB3 ?lB3 ?eB4 ?lB4 ?eB5 ?lB5 ?aMOST_TARGETS ?aBOXES ?xNoUnits ?xRowError ?xNoFree ?xNoLayout ?xNoRows ?xNoText ?xNoWish ?agI ?igI ?lgI ?cgI ?kgI ?xlk ?xq ?xrt ?xsa ?xna ?xnt ?xhd ?xga ?xgh ?xcl ?xgt ?xtk ?xob ?xbx ?xci ?xsg ?xrr ?xfi ?xkc ?xexm ?xown ?xval ?xoth
    (case a0 => k_is)
    (case l0 => k_is)
    (case c0 => k_is)
    (case k0 => k_is)
    (case a1 => k_is)
    (case l1 => k_is)
    (case c1 => k_is)
    (case k1 => k_is)
    (case a2 => k_is)
    (case l2 => k_is)
    (case c2 => k_is)
    (case k2 => k_is)
    (case a3 => k_is)
    (case l3 => k_is)
    (case c3 => k_is)
    (case k3 => k_is)
    (case a4 => k_is)
    (case l4 => k_is)
    (case c4 => k_is)
    (case k4 => k_is)
    (case a5 => k_is)
    (case l5 => k_is)
    (case c5 => k_is)
    (case k5 => k_is)
    (case a6 => k_is)
    (case l6 => k_is)
    (case c6 => k_is)
    (case k6 => k_is)
    (case a7 => k_is)
    (case l7 => k_is)
    (case c7 => k_is)
    (case k7 => k_is)
    (case a8 => k_is)
    (case l8 => k_is)
    (case c8 => k_is)
    (case k8 => k_is)
    (case a9 => k_is)
    (case l9 => k_is)
    (case c9 => k_is)
    (case k9 => k_is)
    (case a10 => k_is)
    (case l10 => k_is)
    (case c10 => k_is)
    (case k10 => k_is)
    (case a11 => k_is)
    (case l11 => k_is)
    (case c11 => k_is)
    (case k11 => k_is)
    (case a12 => k_is)
    (case l12 => k_is)
    (case c12 => k_is)
    (case k12 => k_is)
    (case a13 => k_is)
    (case l13 => k_is)
    (case c13 => k_is)
    (case k13 => k_is)
    (case a14 => k_is)
    (case l14 => k_is)
    (case c14 => k_is)
    (case k14 => k_is)
    (case a15 => k_is)
    (case l15 => k_is)
    (case c15 => k_is)
    (case k15 => k_is)
    (case a16 => k_is)
    (case l16 => k_is)
    (case c16 => k_is)
    (case k16 => k_is)
    (case a17 => k_is)
    (case l17 => k_is)
    (case c17 => k_is)
    (case k17 => k_is)
    (case a18 => k_is)
    (case l18 => k_is)
    (case c18 => k_is)
    (case k18 => k_is)
    (case a19 => k_is)
    (case l19 => k_is)
    (case c19 => k_is)
    (case k19 => k_is)
    (case a20 => k_is)
    (case l20 => k_is)
    (case c20 => k_is)
    (case k20 => k_is)
    (case a21 => k_is)
    (case l21 => k_is)
    (case c21 => k_is)
    (case k21 => k_is)
    (case a22 => k_is)
    (case l22 => k_is)
    (case c22 => k_is)
    (case k22 => k_is)
    (case a23 => k_is)
    (case l23 => k_is)
    (case c23 => k_is)
    (case k23 => k_is)
    (case a24 => k_is)
    (case l24 => k_is)
    (case c24 => k_is)
    (case k24 => k_is)
    (case a25 => k_is)
    (case l25 => k_is)
    (case c25 => k_is)
    (case k25 => k_is)
    (case a26 => k_is)
    (case l26 => k_is)
    (case c26 => k_is)
    (case k26 => k_is)
    (case a27 => k_is)
    (case l27 => k_is)
    (case c27 => k_is)
    (case k27 => k_is)
    (case aT0 => k_is)
    (case lT0 => k_is)
    (case aT1 => k_is)
    (case lT1 => k_is)
    (case z_len => k_is)
    (case z_list => k_is)
    (case z_tuple => k_is)
    (case z_int => k_is)
    (case z_bool => k_is)
    (case z_isinstance => k_is)
    (case z_enumerate => k_is)
    (case z_range => k_is)
    (case z_dict => k_is)
    (case z_ValueError => k_is)
    (case aP => k_is)
    (case lP => k_is)
    (case kP => k_keys)
    (case oP => first | exact rfl | decide | k_is)
    (case eP0 => k_is)
    (case lP0 => k_is)
    (case eP1 => k_is)
    (case lP1 => k_is)
    (case eP2 => k_is)
    (case lP2 => k_is)
    (case eP3 => k_is)
    (case lP3 => k_is)
    (case eP4 => k_is)
    (case lP4 => k_is)
    (case eP5 => k_is)
    (case lP5 => k_is)
    (case eP6 => k_is)
    (case lP6 => k_is)
    (case eP7 => k_is)
    (case lP7 => k_is)
    (case eP8 => k_is)
    (case lP8 => k_is)
    (case eP9 => k_is)
    (case lP9 => k_is)
    (case eP10 => k_is)
    (case lP10 => k_is)
    (case eP11 => k_is)
    (case lP11 => k_is)
    (case eP12 => k_is)
    (case lP12 => k_is)
    (case eP13 => k_is)
    (case lP13 => k_is)
    (case eP14 => k_is)
    (case lP14 => k_is)
    (case eP15 => k_is)
    (case lP15 => k_is)
    (case eP16 => k_is)
    (case lP16 => k_is)
    (case eP17 => k_is)
    (case lP17 => k_is)
    (case eP18 => k_is)
    (case lP18 => k_is)
    (case eP19 => k_is)
    (case lP19 => k_is)
    (case aCODE_STEP => k_is)
    (case aBOX_STEP => k_is)
    (case aSHORT_ADDED => k_is)
    (case aH => k_is)
    (case lH => k_is)
    (case lH0 => k_is)
    (case lH1 => k_is)
    (case lH2 => k_is)
    (case lH3 => k_is)
    (case lH4 => k_is)
    (case lH5 => k_is)
    (case lH6 => k_is)
    (case lH7 => k_is)
    (case lH8 => k_is)
    (case lH9 => k_is)
    (case lH10 => k_is)
    (case lH11 => k_is)
    (case lH12 => k_is)
    (case lH13 => k_is)
    (case lH14 => k_is)
    (case lH15 => k_is)
    (case lH16 => k_is)
    (case lH17 => k_is)
    (case lH18 => k_is)
    (case lH19 => k_is)
    (case lH20 => k_is)
    (case lH21 => k_is)
    (case lH22 => k_is)
    (case lH23 => k_is)
    (case lH24 => k_is)
    (case aB => k_is)
    (case lB => k_is)
    (case kB => k_keys)
    (case oB => first | exact rfl | decide | k_is)
    (case eB0 => k_is)
    (case lB0 => k_is)
    (case eB1 => k_is)
    (case lB1 => k_is)
    (case eB2 => k_is)
    (case lB2 => k_is)
    (case eB3 => k_is)
    (case lB3 => k_is)
    (case eB4 => k_is)
    (case lB4 => k_is)
    (case eB5 => k_is)
    (case lB5 => k_is)
    (case aMOST_TARGETS => k_is)
    (case aBOXES => k_is)
    (case xNoUnits => k_is)
    (case xRowError => k_is)
    (case xNoFree => k_is)
    (case xNoLayout => k_is)
    (case xNoRows => k_is)
    (case xNoText => k_is)
    (case xNoWish => k_is)
    (case agI => k_is)
    (case igI => k_is)
    (case lgI => k_is)
    (case cgI => k_is)
    (case kgI => k_is)
    (case xlk => k_is)
    (case xq => k_exc)
    (case xrt => k_is)
    (case xsa => k_is)
    (case xna => k_is)
    (case xnt => k_is)
    (case xhd => k_is)
    (case xga => k_is)
    (case xgh => k_is)
    (case xcl => k_is)
    (case xgt => k_is)
    (case xtk => k_is)
    (case xob => k_is)
    (case xbx => k_is)
    (case xci => k_is)
    (case xsg => k_is)
    (case xrr => k_is)
    (case xfi => k_is)
    (case xkc => k_is)
    (case xexm => kts_exm)
    (case xown => kit_is)
    (case xval => kit_is)
    (case xoth => kit_is)
#print axioms PySem.Challenge.cw_widenrows_k15_units_of_any_kind_holds

