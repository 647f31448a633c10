import PyProof.Rows.All
import Wide.All
import OpenK.AllK
import Wide.FinOn
import Lean
import PyProof.EqAt
import PyProof.EqKinds
import PyProof.TupleCall
import PyProof.NeKinds
import PyProof.ListRange
import KE.KDictSum
import Wide.Seal
import PyProof.EnumIter
import PyProof.EnumFor
import PyProof.EnumMake
import PyProof.EnumStmt
import PyProof.ConsumeWalk
import KE.KPairComp
import PyProof.DictItemsLoops
import KE.KEqDict
import PyProof.AttrMissSeq
import PyProof.CollectWalk
import OpenK.KTop
import PyProof.TupleOps
import PyProof.ListMulRoad
import PyProof.FactsAll.tuple_2
import PyProof.StrBlock2
import PyProof.Rows.SortWalk
import KE.KFind
import PyProof.StationsW
import PyProof.Rows.OwnQ
import OpenK.KOwn
import KE.KTryMore
import PyProof.NsDelKeeps
import PyProof.ExcArgsOwn
import PyProof.ExcAttrAll.ValueError
import PyProof.InstStoreFacts
import PyProof.ExcBaseAll.ValueError
import PyProof.Rows.FStr
import OpenK.KCls
import PyProof.ZipIter
import PyProof.TupleIter
import PyProof.WalksMore
import KE.KTurns
import PyProof.FactsAll.subtypes_4
import PyProof.Cells
import KE.KRevIter
import PySem.Challenge.RW_widenrows_k34_free_boxes_told
set_option Elab.async false
set_option linter.all false
set_option maxRecDepth 100000
/-! THE HAND LAYER, for ints, bools, texts, own classes, LISTS and tuples (index, slices, in, append, pop ..), calls, loops. Paste it whole ahead of your own text; what your proof does not reach may be deleted. -/
namespace L2
open PySem PySem.Spec PyProof.Rows

/-- a key: an int or a str -/
abbrev Key := Sum Int Str
def keyIs : Key → Value → Bool
  | .inl k, v => Value.isInt k v
  | .inr x, v => Value.isStrOf x v
def keyH (w : World) : Key → Int
  | .inl k => hashInt k
  | .inr x => hashStr w x
theorem keyIs_shape : ∀ {k : Key} {v : Value}, keyIs k v = true → (∃ i t, k = Sum.inl i ∧ v = Value.int i t) ∨ (∃ x t, k = Sum.inr x ∧ v = Value.str x t)
  | .inl i, v, h => by
    obtain ⟨t, e⟩ := Value.isInt_shape (k := i) (v := v) h
    exact .inl ⟨i, t, rfl, e⟩
  | .inr x, v, h => by
    obtain ⟨t, e⟩ := Value.isStrOf_shape (x := x) (v := v) h
    exact .inr ⟨x, t, rfl, e⟩
theorem keyIs_int (i : Int) (t : Tok) : keyIs (.inl i) (.int i t) = true := by simp [keyIs, Value.isInt]
theorem keyIs_str (x : Str) (t : Tok) : keyIs (.inr x) (.str x t) = true := by simp [keyIs, Value.isStrOf]
theorem key_ll (a b : Int) : decide ((Sum.inl a : Key) = Sum.inl b) = (a == b) := by
  by_cases e : a = b
  · subst e; simp
  · have h : ¬ (Sum.inl a : Key) = Sum.inl b := fun q => e (Sum.inl.inj q)
    rw [decide_eq_false h]
    exact (beq_eq_false_iff_ne.mpr e).symm
theorem key_rr (a b : Str) : decide ((Sum.inr a : Key) = Sum.inr b) = decide (a = b) := by
  by_cases e : a = b
  · subst e; simp
  · have h : ¬ (Sum.inr a : Key) = Sum.inr b := fun q => e (Sum.inr.inj q)
    rw [decide_eq_false h, decide_eq_false e]
theorem key_lr (a : Int) (b : Str) : decide ((Sum.inl a : Key) = Sum.inr b) = false := decide_eq_false (fun q => nomatch q)
theorem key_rl (a : Str) (b : Int) : decide ((Sum.inr a : Key) = Sum.inl b) = false := decide_eq_false (fun q => nomatch q)

def mixKind (prog : Program) (w : World) : PySem.KeyKind prog w Key where
  is := keyIs
  hash := keyH w
  inj := fun v a b ha hb => by
    rcases keyIs_shape ha with ⟨i, t, rfl, rfl⟩ | ⟨x, t, rfl, rfl⟩
    · rcases keyIs_shape hb with ⟨j, u, rfl, e⟩ | ⟨y, u, rfl, e⟩
      · injection e with e1 _; rw [e1]
      · exact nomatch e
    · rcases keyIs_shape hb with ⟨j, u, rfl, e⟩ | ⟨y, u, rfl, e⟩
      · exact nomatch e
      · injection e with e1 _; rw [e1]
  byValue := fun k v h => by
    rcases keyIs_shape h with ⟨i, t, rfl, rfl⟩ | ⟨x, t, rfl, rfl⟩ <;> rfl
  pyHash := fun hv h => by
    rcases keyIs_shape hv with ⟨i, t, rfl, rfl⟩ | ⟨x, t, rfl, rfl⟩
    · exact wpAny_pyHash_int h
    · exact wpAny_pyHash_str h
  eqBool := fun hu hv h => by
    rcases keyIs_shape hu with ⟨i, t, rfl, rfl⟩ | ⟨x, t, rfl, rfl⟩
    · rcases keyIs_shape hv with ⟨j, u, rfl, rfl⟩ | ⟨y, u, rfl, rfl⟩
      · rw [key_ll] at h; exact wpAny_eqBool_int h
      · rw [key_lr] at h; exact SeqAt.EqAt.int_str i t y u _ _ _ _ h
    · rcases keyIs_shape hv with ⟨j, u, rfl, rfl⟩ | ⟨y, u, rfl, rfl⟩
      · rw [key_rl] at h; exact SeqAt.EqAt.str_int x t j u _ _ _ _ h
      · rw [key_rr] at h; exact wpAny_eqBool_str h
  «strs» := fun k x t v h => by
    rcases keyIs_shape h with ⟨i, u, rfl, e⟩ | ⟨y, u, rfl, e⟩
    · exact nomatch e
    · injection e with e1 _
      subst e1
      cases v <;> rfl

theorem mixKind_int (prog : Program) (w : World) (i : Int) (t : Tok) : (mixKind prog w).is (.inl i) (.int i t) = true := keyIs_int i t
theorem mixKind_str (prog : Program) (w : World) (x : Str) (t : Tok) : (mixKind prog w).is (.inr x) (.str x t) = true := keyIs_str x t
end L2

namespace L2
open PySem PySem.Spec PyProof.Rows

/-- a value, without the heap -/
inductive V where
  | non | bl (b : Bool) | int (i : Int) | str (x : Str) | byt (b : Array UInt8) | flt (b : UInt64) | ref (a : Addr) | ty (n : String)
  deriving DecidableEq

def RelV : V → Value → Prop
  | .non, u => u = Value.none
  | .bl b, u => u = Value.bool b
  | .int i, u => ∃ t, u = Value.int i t
  | .str x, u => ∃ t, u = Value.str x t
  | .byt b, u => ∃ t, u = Value.bytes b t
  | .flt b, u => ∃ t, u = Value.float b t
  | .ref a, u => u = Value.ref a
  | .ty n, u => u = Value.type n

abbrev Vals : List V → List Value → Prop := Paired RelV
theorem Vals.length {xs : List V} {us : List Value} (r : Vals xs us) : xs.length = us.length := Paired.length r
theorem Vals.get : ∀ {xs : List V} {us : List Value} {i : Nat} {x : V}, Vals xs us → xs[i]? = some x → ∃ u, us[i]? = some u ∧ RelV x u
  | _, _, _, _, .nil, e => by simp at e
  | _, _, 0, _, .cons r _, e => by simp at e; subst e; exact ⟨_, rfl, r⟩
  | _, _, i + 1, x, .cons _ t, e => by
    obtain ⟨u, h1, h2⟩ := Vals.get (i := i) (x := x) t (by simpa using e)
    exact ⟨u, by simpa using h1, h2⟩
theorem Vals.set {x : V} {u : Value} (r : RelV x u) : ∀ {xs : List V} {us : List Value} (i : Nat), Vals xs us → Vals (xs.set i x) (us.set i u)
  | _, _, _, .nil => .nil
  | _, _, 0, .cons _ t => .cons r t
  | _, _, i + 1, .cons q t => .cons q (Vals.set r i t)
theorem Vals.append : ∀ {xs ys : List V} {us ws : List Value}, Vals xs us → Vals ys ws → Vals (xs ++ ys) (us ++ ws)
  | _, _, _, _, .nil, s => s
  | _, _, _, _, .cons r t, s => .cons r (Vals.append t s)
theorem Vals.take : ∀ {xs : List V} {us : List Value} (n : Nat), Vals xs us → Vals (xs.take n) (us.take n)
  | _, _, 0, _ => .nil
  | _, _, _ + 1, .nil => .nil
  | _, _, n + 1, .cons r t => .cons r (Vals.take n t)
theorem Vals.drop : ∀ {xs : List V} {us : List Value} (n : Nat), Vals xs us → Vals (xs.drop n) (us.drop n)
  | _, _, 0, r => r
  | _, _, _ + 1, .nil => .nil
  | _, _, n + 1, .cons _ t => Vals.drop n t

def RelO : Option V → Option Value → Prop
  | some v, some u => RelV v u
  | none, none => True
  | _, _ => False
def KV {κ : Type} : List (κ × V) → List (κ × Value) → Prop := Paired fun (p : κ × V) (q : κ × Value) => p.1 = q.1 ∧ RelV p.2 q.2

/-- a key of a dict (00_mix): an int or a text -/
def kV : Key → V
  | .inl i => .int i
  | .inr x => .str x

/-- what stands at a tracked address -/
inductive HO where
  /-- a list -/
  | lst (xs : List V)
  /-- a tuple (never changes) -/
  | tup (xs : List V)
  /-- a dict whose keys are ints and texts; one whose keys are tuples of ints and texts (the empty one is both) -/
  | dK (kvs : List (Key × V)) | dT (kvs : List (List Key × V))
  /-- a set of ints: its members, its size -/
  | set (S : Int → Bool) (n : Nat)
  /-- an instance of the class at C, its dict at dx, its attributes -/
  | ins (C dx : Addr) (fs : List (Str × V))
  /-- the dict of the instance at x -/
  | own (x : Addr)
  /-- the dict of an exception -/
  | xd (fs : List (Str × V))
  /-- a bound method, f of x -/
  | met (f x : Addr)
  /-- a range object lo, lo + 1, .. below hi -/
  | rng (lo hi : Int)
  /-- a thing that is known to the object (the script; a dict while a loop walks it): read, never written while it is so -/
  | frz (o : Obj) (u : HO)
  /-- a code object's table -/
  | tbl (ps : Array Value)
  /-- any other thing, by what is true of its one object (a def of one's own: SetO a S n := HO.ext fun h => ..) -/
  | ext (φ : Heap → Prop)

abbrev Hp := Addr → Option HO
def upd (H : Hp) (a : Addr) (o : HO) : Hp := fun b => if b = a then some o else H b
theorem upd_same {H : Hp} {a : Addr} {o : HO} : upd H a o a = some o := by unfold upd; rw [if_pos rfl]
theorem upd_ne {H : Hp} {a b : Addr} {o : HO} (h : b ≠ a) : upd H a o b = H b := by unfold upd; rw [if_neg h]
/-- two objects of different content stand apart -/
theorem ne_of {H : Hp} {a b : Addr} {o u : HO} (h : H a = some o) (h' : H b = some u) (d : o ≠ u) : a ≠ b := by
  intro e; subst e; rw [h] at h'; exact d (Option.some.inj h')
theorem ne_of_none {H : Hp} {a b : Addr} {o : HO} (h : H a = some o) (h' : H b = none) : a ≠ b := by
  intro e; subst e; rw [h] at h'; cases h'

section
variable (P : Program) (w : World)
def ObjOk (H : Hp) (h : Heap) (a : Addr) : HO → Prop
  | .lst xs => xs.length ≤ sizeLine ∧ ∃ (its : List Value) (n : Nat), Vals xs its ∧ h.get? a = some { cls := .type "list", data := .seq its.toArray n }
  | .tup xs => xs.length ≤ sizeLine ∧ ∃ its : List Value, Vals xs its ∧ IsTup h a its.toArray
  | .dK kvs => kvs.length ≤ sizeLine ∧ (a == sysModules) = false ∧ ∃ vs, KV kvs vs ∧ h.DictOf (mixKind P w) a vs
  | .dT kvs => kvs.length ≤ sizeLine ∧ (a == sysModules) = false ∧ ∃ xs : List (List Key × Addr × Value),
      Paired (fun (p : List Key × V) (q : List Key × Addr × Value) => p.1 = q.1 ∧ H q.2.1 = some (.tup (p.1.map kV)) ∧ RelV p.2 q.2.2) kvs xs ∧
      ∃ o es ep, h.get? a = some o ∧ o.ExactDict ∧ o.data = .dict es ep ∧ es.toList = xs.map (entryOfKey (tupleKind (mixKind P w))) ∧ (xs.map (·.1)).Nodup
  | .set S n => h.SetOf (intKind P w) a S n
  | .ins C dx fs => H dx = some (.own a) ∧ fs.length ≤ 1000 ∧ dx ≠ a ∧ h.get? a = some (PySem.W.instObj C dx) ∧
      ∃ mA, h.Ns1 dx mA ∧ (∀ f, RelO (fs.lookup f) (mA f)) ∧ PySem.Within mA (fs.map (·.1))
  | .own _ => ∃ o, h.get? a = some o
  | .xd fs => ∃ mA, h.Ns1 a mA ∧ ∀ f, RelO (fs.lookup f) (mA f)
  | .rng lo hi => ∃ t u v, h.get? a = some { cls := .type "range", data := .fields #[.int lo t, .int hi u, .int 1 v] }
  | .frz o u => h.get? a = some o ∧ ObjOk H h a u
  | .tbl ps => h.get? a = some { cls := .none, data := .fields ps }
  | .met f x => h.get? a = some (PySem.W.methodObj (.ref f) (.ref x))
  | .ext φ => φ h ∧ (∃ o, h.get? a = some o) ∧ ∀ h1 h2 : Heap, φ h1 → (∀ o, h1.get? a = some o → h2.get? a = some o) → φ h2
/-- the abstract heap is held -/
def HOk (H : Hp) (h : Heap) : Prop := ∀ a o, H a = some o → ObjOk P w H h a o
end

section
variable {P : Program} {w : World} {H H' : Hp} {h h' : Heap} {a : Addr} {o : HO}
theorem ObjOk.lt (x : ObjOk P w H h a o) : a < h.objs.size := by
  cases o with
  | lst xs => obtain ⟨_, _, _, _, e⟩ := x; exact Heap.lt_size e
  | tup xs => obtain ⟨_, _, _, p⟩ := x; exact p.lt
  | dK kvs => obtain ⟨_, _, _, _, o, _, _, e, _⟩ := x; exact Heap.lt_size e
  | dT kvs => obtain ⟨_, _, _, _, o, _, _, e, _⟩ := x; exact Heap.lt_size e
  | set S n => obtain ⟨o, _, _, _, e, _⟩ := x; exact Heap.lt_size e
  | ins C dx fs => obtain ⟨_, _, _, e, _⟩ := x; exact Heap.lt_size e
  | own y => obtain ⟨_, e⟩ := x; exact Heap.lt_size e
  | xd fs => obtain ⟨_, ⟨_, _, _, e, _⟩, _⟩ := x; exact Heap.lt_size e
  | rng lo hi => obtain ⟨_, _, _, e⟩ := x; exact Heap.lt_size e
  | frz ob u => obtain ⟨e, _⟩ := x; exact Heap.lt_size e
  | tbl ps => exact Heap.lt_size (show h.get? a = some _ from x)
  | met f y => exact Heap.lt_size (show h.get? a = some _ from x)
  | ext φ => obtain ⟨_, ⟨_, e⟩, _⟩ := x; exact Heap.lt_size e
theorem Paired.mapP {α β : Type} {F G : α → β → Prop} : ∀ {l₁ : List α} {l₂ : List β}, Paired F l₁ l₂ → (∀ a b, F a b → G a b) → Paired G l₁ l₂
  | _, _, .nil, _ => .nil
  | _, _, .cons r t, f => .cons (f _ _ r) (Paired.mapP t f)
/-- what an object's description leans on: its own object, its own dict, the tuples -/
theorem ObjOk.stay (x : ObjOk P w H h a o) (k : ∀ b u, (b = a ∨ H b = some (.own a)) → h.get? b = some u → h'.get? b = some u)
    (ho : ∀ b, H b = some (.own a) → H' b = some (.own a)) (ht : ∀ b xs, H b = some (.tup xs) → H' b = some (.tup xs)) : ObjOk P w H' h' a o := by
  induction o with
  | lst xs => obtain ⟨z, its, n, r, e⟩ := x; exact ⟨z, its, n, r, k _ _ (.inl rfl) e⟩
  | tup xs => obtain ⟨z, its, r, ob, e, c⟩ := x; exact ⟨z, its, r, ob, k _ _ (.inl rfl) e, c⟩
  | dK kvs => obtain ⟨z, y, vs, r, ob, es, ep, e, c⟩ := x; exact ⟨z, y, vs, r, ob, es, ep, k _ _ (.inl rfl) e, c⟩
  | dT kvs =>
    obtain ⟨z, y, xs, r, ob, es, ep, e, c⟩ := x
    exact ⟨z, y, xs, Paired.mapP r fun p q z => ⟨z.1, ht _ _ z.2.1, z.2.2⟩, ob, es, ep, k _ _ (.inl rfl) e, c⟩
  | set S n => obtain ⟨ob, es, ep, t, e, c⟩ := x; exact ⟨ob, es, ep, t, k _ _ (.inl rfl) e, c⟩
  | ins C dx fs =>
    obtain ⟨d, z, ne, e, mA, ⟨od, es, ep, e2, c⟩, r⟩ := x
    exact ⟨ho _ d, z, ne, k _ _ (.inl rfl) e, mA, ⟨od, es, ep, k _ _ (.inr d) e2, c⟩, r⟩
  | own y => obtain ⟨ob, e⟩ := x; exact ⟨ob, k _ _ (.inl rfl) e⟩
  | xd fs => obtain ⟨mA, ⟨od, es, ep, e, c⟩, r⟩ := x; exact ⟨mA, ⟨od, es, ep, k _ _ (.inl rfl) e, c⟩, r⟩
  | rng lo hi => obtain ⟨t, u, v, e⟩ := x; exact ⟨t, u, v, k _ _ (.inl rfl) e⟩
  | frz ob u ih => obtain ⟨e, q⟩ := x; exact ⟨k _ _ (.inl rfl) e, ih q⟩
  | tbl ps =>
    have e : h.get? a = some { cls := .none, data := .fields ps } := x
    show h'.get? a = some { cls := .none, data := .fields ps }
    exact k a _ (.inl rfl) e
  | met f y =>
    have e : h.get? a = some (PySem.W.methodObj (.ref f) (.ref y)) := x
    show h'.get? a = some (PySem.W.methodObj (.ref f) (.ref y))
    exact k a _ (.inl rfl) e
  | ext φ => obtain ⟨p, ⟨o, e⟩, st⟩ := x; exact ⟨st _ _ p fun o q => k _ _ (.inl rfl) q, ⟨o, k _ _ (.inl rfl) e⟩, st⟩
theorem HOk.lt (x : HOk P w H h) (e : H a = some o) : a < h.objs.size := (x a o e).lt
theorem HOk.fresh (x : HOk P w H h) (e : h.objs.size ≤ a) : H a = none := by
  cases q : H a with
  | none => rfl
  | some u => exact absurd (Nat.lt_of_lt_of_le (x.lt q) e) (Nat.lt_irrefl _)
/-- every object of the heap is kept -/
theorem HOk.kept (x : HOk P w H h) (k : ∀ b u, h.get? b = some u → h'.get? b = some u) : HOk P w H h' := fun a o e =>
  (x a o e).stay (fun b u _ q => k b u q) (fun _ q => q) fun _ _ q => q
/-- a new object is laid and tracked -/
theorem HOk.laid (x : HOk P w H h) (k : ∀ b u, h.get? b = some u → h'.get? b = some u) (hp : h.objs.size ≤ a) (new : ObjOk P w (upd H a o) h' a o) : HOk P w (upd H a o) h' := fun b u e => by
  have hn := x.fresh hp
  by_cases hb : b = a
  · subst hb; rw [upd_same] at e; cases e; exact new
  · rw [upd_ne hb] at e
    exact (x b u e).stay (fun c v _ q => k c v q) (fun c q => by rw [upd_ne (ne_of_none q hn)]; exact q) fun c xs q => by rw [upd_ne (ne_of_none q hn)]; exact q
end

/-- what may be read as u: it is u, or a known u -/
def Rd (H : Hp) (a : Addr) (u : HO) : Prop := H a = some u ∨ ∃ o, H a = some (.frz o u)
theorem Rd.ok {P : Program} {w : World} {H : Hp} {h : Heap} {a : Addr} {u : HO} (r : Rd H a u) (x : HOk P w H h) : ObjOk P w H h a u := by
  rcases r with r | ⟨o, r⟩
  · exact x a u r
  · obtain ⟨_, q⟩ := x a _ r
    exact q
/-- what may be written -/
def Mut : Option HO → Prop
  | some (.lst _) => True
  | some (.dK _) => True
  | some (.dT _) => True
  | some (.set _ _) => True
  | some (.ins _ _ _) => True
  | some (.ext _) => True
  | _ => False
section
variable {P : Program} {w : World} {H : Hp} {h h' : Heap} {x e : Addr} {o' : HO}
/-- the object at e is changed: x itself, or the dict of the instance x -/
theorem HOk.write (ok : HOk P w H h) (mu : Mut (H x)) (he : e = x ∨ H e = some (.own x)) (k : ∀ b u, b ≠ e → h.get? b = some u → h'.get? b = some u) (heo : ∃ u, h'.get? e = some u)
    (new : ObjOk P w (upd H x o') h' x o') : HOk P w (upd H x o') h' := fun b u q => by
  have nown : ∀ c y, H c = some (.own y) → c ≠ x := fun c y r z => by subst z; rw [r] at mu; exact mu
  have ntup : ∀ c xs, H c = some (.tup xs) → c ≠ x := fun c xs r z => by subst z; rw [r] at mu; exact mu
  by_cases hb : b = x
  · subst hb; rw [upd_same] at q; cases q; exact new
  · rw [upd_ne hb] at q
    by_cases hbe : b = e
    · have q' : H b = some (.own x) := by
        rcases he with z | z
        · exact absurd (hbe.trans z) hb
        · rw [hbe]; exact z
      rw [q] at q'; cases q'
      obtain ⟨v, hv⟩ := heo
      exact ⟨v, by rw [hbe]; exact hv⟩
    · refine (ok b u q).stay (fun c v hc r => k c v ?_ r) (fun c r => by rw [upd_ne (nown c b r)]; exact r) fun c xs r => by rw [upd_ne (ntup c xs r)]; exact r
      rcases hc with rfl | hc
      · exact hbe
      · rintro rfl
        rcases he with z | z
        · exact nown c b hc z
        · rw [hc] at z; cases z; exact hb rfl
end

/-! ### kept unless tracked; of the frames at fs (the callers') the slots may change (an exception that passes writes there); of the records at ex (iterators) nothing is said -/
structure Un (fs ex : List Addr) (H H' : Hp) (h h' : Heap) : Prop where
  keep : ∀ b o, h.get? b = some o → H b = none → b ∉ fs → b ∉ ex → h'.get? b = some o
  slot : ∀ b o, h.get? b = some o → H b = none → b ∈ fs → b ∉ ex → ∃ sl, h'.get? b = some { o with slots := sl }
  free : ∀ b o, h.get? b = some o → H b = none → b ∉ ex → H' b = none
  there : ∀ b o, h.get? b = some o → b ∉ ex → ∃ o', h'.get? b = some o'
  tups : ∀ b xs, H b = some (.tup xs) → H' b = some (.tup xs)
  frzs : ∀ b o u, H b = some (.frz o u) → H' b = some (.frz o u)
  tbls : ∀ b ps, H b = some (.tbl ps) → ∃ more, H' b = some (.tbl (ps ++ more))
section
variable {fs fs' ex ex' : List Addr} {H H1 H2 : Hp} {h h1 h2 h' : Heap} {a x e : Addr} {o : HO}
theorem Un.any (u : Un fs ex H H1 h h1) {b : Addr} {ob : Obj} (q : h.get? b = some ob) (n : H b = none) (hx : b ∉ ex) : ∃ sl, h1.get? b = some { ob with slots := sl } := by
  by_cases hb : b ∈ fs
  · exact u.slot b ob q n hb hx
  · exact ⟨ob.slots, u.keep b ob q n hb hx⟩
theorem Un.kept (k : ∀ b u, h.get? b = some u → h'.get? b = some u) : Un fs ex H H h h' :=
  ⟨fun b ob q _ _ _ => k b ob q, fun b ob q _ _ _ => ⟨ob.slots, k b ob q⟩, fun _ _ _ n _ => n, fun b ob q _ => ⟨ob, k b ob q⟩, fun _ _ q => q, fun _ _ _ q => q, fun _ ps q => ⟨#[], by rw [q]; simp⟩⟩
theorem Un.refl : Un fs ex H H h h := Un.kept fun _ _ q => q
theorem Un.laid (k : ∀ b u, h.get? b = some u → h'.get? b = some u) (hp : h.objs.size ≤ a) (hn : H a = none) : Un fs ex H (upd H a o) h h' where
  keep := fun b u q _ _ _ => k b u q
  slot := fun b u q _ _ _ => ⟨u.slots, k b u q⟩
  free := fun b u q n _ => by rw [upd_ne (Nat.ne_of_lt (Nat.lt_of_lt_of_le (Heap.lt_size q) hp))]; exact n
  there := fun b u q _ => ⟨u, k b u q⟩
  tups := fun b xs q => by rw [upd_ne (ne_of_none q hn)]; exact q
  frzs := fun b u xs q => by rw [upd_ne (ne_of_none q hn)]; exact q
  tbls := fun b ps q => ⟨#[], by rw [upd_ne (ne_of_none q hn), q]; simp⟩
theorem Un.write (mu : Mut (H x)) (he : e = x ∨ H e = some (.own x)) (k : ∀ b u, b ≠ e → h.get? b = some u → h'.get? b = some u) (heo : ∃ u, h'.get? e = some u) : Un fs ex H (upd H x o) h h' := by
  have hx : ∀ b, H b = none → b ≠ x := fun b n z => by subst z; rw [n] at mu; exact mu
  have hb : ∀ b, H b = none → b ≠ e := fun b n z => by
    subst z
    rcases he with r | r
    · exact hx b n r
    · rw [n] at r; cases r
  have hm : ∀ b u, H b = some u → ¬ Mut (some u) → b ≠ x := fun b u q nm z => by subst z; rw [q] at mu; exact nm mu
  refine ⟨fun b u q n _ _ => k b u (hb b n) q, fun b u q n _ _ => ⟨u.slots, k b u (hb b n) q⟩, fun b u q n _ => by rw [upd_ne (hx b n)]; exact n, fun b u q _ => ?_,
    fun b xs q => by rw [upd_ne (hm b _ q fun z => z)]; exact q, fun b u xs q => by rw [upd_ne (hm b _ q fun z => z)]; exact q, fun b ps q => ⟨#[], by rw [upd_ne (hm b _ q fun z => z), q]; simp⟩⟩
  by_cases hbe : b = e
  · subst hbe; exact heo
  · exact ⟨u, k b u hbe q⟩
end

/-! ### the heap without what is tracked -/
def trk (h : Heap) (H : Hp) : List Addr := (List.range h.objs.size).filter fun a => (H a).isSome
def hidT (h : Heap) (H : Hp) : Heap := PySem.W.hideAll h (trk h H)
theorem hidT_size (h : Heap) (H : Hp) : (hidT h H).objs.size = h.objs.size := PySem.W.hideAll_size _ _
theorem hidT_get {h : Heap} {H : Hp} {b : Addr} {o : Obj} (e : h.get? b = some o) (n : H b = none) : (hidT h H).get? b = some o :=
  PySem.W.hideAll_get _ e fun hm => by
    have q : (H b).isSome = true := (List.mem_filter.mp hm).2
    rw [n] at q; simp at q
theorem of_hidT {h : Heap} {H : Hp} {b : Addr} {o : Obj} (e : (hidT h H).get? b = some o) : h.get? b = some o ∧ H b = none := by
  have e' : h.get? b = some o := PySem.W.of_hideAll (trk h H) e
  refine ⟨e', ?_⟩
  cases q : H b with
  | none => rfl
  | some x =>
    have hm : b ∈ trk h H := List.mem_filter.mpr ⟨List.mem_range.mpr (Heap.lt_size e'), by simp [q]⟩
    have z : (hidT h H).get? b = none := PySem.W.hideAll_none (trk h H) hm
    rw [z] at e; cases e

/-! ### OpenK's ledger, filled with every new object but one -/
end L2

namespace L2
open PySem PySem.Spec PyProof.Rows

/-- the module's facts, over the base: the heap at the law's entry without what is tracked there -/
structure Mod (K : PySem.W.Frag) (mg : Str → Option Value) (base : Heap) : Prop where
  kin : K.In base
  glob : base.Ns mainGlobals mg
  blt : ∃ mb, base.Ns builtinsNs mb ∧ ∀ x : Str, x ≠ "__name__" → mb x = bootBuiltins x
  nolimit : base.NoLimit

/-- the context: a def's body (or a comprehension's block) running. base: fixed through the whole law; s₀, H₀: the entry; outer: the frames whose slots others may change (a def's callers); stack: all frames that run;
   ex: iterators that were made ahead of the entry and are walked here (a comprehension's); fn: the names whose cells were made at the entry (a def: all; a comprehension's block: its own); calm: not within an except suite; pn: pins that every state bears; xe: what is wanted of an exception that leaves the code -/
structure Cx where
  prog : Program
  w : World
  K : PySem.W.Frag
  mg : Str → Option Value
  base : Heap
  A : Around
  N : List Str
  s₀ : Shared
  H₀ : Hp
  env : Env
  outer : List Env
  stack : List Env
  ex : List Addr
  fn : Str → Bool
  calm : Bool
  pn : List (Addr × Obj)
  xe : Value → Shared → Prop
/-- the callers' frames -/
def frs (l : List Env) : List Addr := l.filterMap (·.frame)
abbrev Cx.fs (X : Cx) : List Addr := frs X.outer

def Vis (sc : Scope) (x : Str) : Prop := sc.names.lookup x = some .local ∨ sc.names.lookup x = some .cell ∨ sc.names.lookup x = some .free
def Loc (sc : Scope) (x : Str) : Prop := sc.names.lookup x = some .local ∨ sc.names.lookup x = some .cell
def Look (env : Env) (h : Heap) (m : Str → Option Value) (x : Str) (u : Value) : Prop :=
  (env.kindOf x = some .local ∧ m x = some u) ∨ ((env.kindOf x = some .cell ∨ env.kindOf x = some .free) ∧ ∃ c, env.cells.lookup x = some c ∧ h.IsCell c (some u))

structure Cx.Ok (X : Cx) : Prop where
  mod : Mod X.K X.mg X.base
  kind : X.env.scope.kind = .function
  glob : X.env.globals = mainGlobals
  blt : X.env.builtins = builtinsNs
  above : X.s₀.heap.objs.size ≤ X.env.locals
  inj : ∀ x y c, X.env.cells.lookup x = some c → X.env.cells.lookup y = some c → x = y
  has : ∀ x, (X.env.kindOf x = some .cell ∨ X.env.kindOf x = some .free) → ∃ c, X.env.cells.lookup x = some c
  cab : ∀ x c, X.fn x = true → X.env.cells.lookup x = some c → X.s₀.heap.objs.size ≤ c
  hd : X.calm = true → X.A.handled = none
  frames : X.A.frames = some X.stack
  stk : X.stack = X.outer ∨ (X.stack = X.env :: X.outer ∧ X.env.frame = some X.env.locals)
  exf : ∀ b ∈ X.ex, b ≠ X.env.locals ∧ ∀ x c, X.env.cells.lookup x = some c → c ≠ b
  bs : ∀ b o, X.base.get? b = some o → X.s₀.heap.get? b = some o ∧ X.H₀ b = none
  bsz : X.base.objs.size ≤ X.s₀.heap.objs.size
  noex : ∀ b o, X.base.get? b = some o → b ∉ X.ex
  exfs : ∀ b ∈ X.ex, b ∉ X.fs
  funs : X.s₀.heap.FunFrames X.base X.outer
  frf : ∀ b ∈ X.fs, X.H₀ b = none

structure Inv (X : Cx) (pins : List (Addr × Obj)) (σ : List (Option V)) (H : Hp) (s : Shared) : Prop where
  ok : X.Ok
  os : s.os = X.s₀.os
  bare : AllBare s.gens
  base : Un X.fs X.ex X.H₀ H X.s₀.heap s.heap
  loc : ∃ m, s.heap.Ns X.env.locals m ∧ ∀ (i : Nat) (x : Str) (v : V), X.N[i]? = some x → σ[i]? = some (some v) → Vis X.env.scope x → ∃ u, RelV v u ∧ Look X.env s.heap m x u
  cell : ∀ x c, X.env.cells.lookup x = some c → ∃ v, s.heap.IsCell c v
  free : H X.env.locals = none
  freeC : ∀ x c, X.env.cells.lookup x = some c → H c = none
  pin : ∀ p ∈ X.pn ++ pins, s.heap.get? p.1 = some p.2 ∧ H p.1 = none ∧ p.1 ≠ X.env.locals ∧ p.1 ∉ X.fs ∧ ∀ v, p.2.data ≠ .cell v
  hok : HOk X.prog X.w H s.heap
  len : σ.length = X.N.length

section
variable {X : Cx} {pins : List (Addr × Obj)} {σ : List (Option V)} {H H' : Hp} {s : Shared} {h' : Heap}

theorem Cx.Ok.nofr (ok : X.Ok) {b : Addr} {o : Obj} (e : X.base.get? b = some o) : b ∉ X.fs := fun hb => by
  have := (ok.funs.mem hb).1
  rw [e] at this; cases this
theorem Inv.bs (I : Inv X pins σ H s) : ∀ b o, X.base.get? b = some o → s.heap.get? b = some o ∧ H b = none := fun b o e =>
  ⟨I.base.keep b o (I.ok.bs b o e).1 (I.ok.bs b o e).2 (I.ok.nofr e) (I.ok.noex b o e), I.base.free b o (I.ok.bs b o e).1 (I.ok.bs b o e).2 (I.ok.noex b o e)⟩
theorem Inv.bk (I : Inv X pins σ H s) : ∀ b o, X.base.get? b = some o → s.heap.get? b = some o := fun b o e => (I.bs b o e).1
theorem Inv.mod (I : Inv X pins σ H s) : Mod X.K X.mg X.base := I.ok.mod
theorem Inv.kIn (I : Inv X pins σ H s) : X.K.In s.heap := I.ok.mod.kin.keeps I.bk
theorem Inv.lt (I : Inv X pins σ H s) : X.env.locals < s.heap.objs.size := let ⟨_, hn, _⟩ := I.loc; hn.lt
theorem Inv.sz (I : Inv X pins σ H s) : X.s₀.heap.objs.size ≤ s.heap.objs.size := Nat.le_trans I.ok.above (Nat.le_of_lt I.lt)
theorem Inv.nofs (I : Inv X pins σ H s) {a : Addr} (h : s.heap.objs.size ≤ a) : a ∉ X.fs := fun hb => by
  obtain ⟨_, o, ho, _⟩ := I.ok.funs.mem hb
  exact absurd (Nat.lt_of_lt_of_le (Heap.lt_size ho) (Nat.le_trans I.sz h)) (Nat.lt_irrefl _)
theorem Inv.cne (I : Inv X pins σ H s) : ∀ x c, X.env.cells.lookup x = some c → c ≠ X.env.locals := fun x c e z => by
  obtain ⟨v, o, ho, hd⟩ := I.cell x c e
  obtain ⟨m, ⟨o', es, ep, ho', hd', _⟩, _⟩ := I.loc
  rw [z, ho'] at ho; cases ho; rw [hd'] at hd; cases hd
theorem Inv.funs (I : Inv X pins σ H s) : s.heap.FunFrames X.base X.outer := by
  have all : ∀ (l : List Env), (∀ b ∈ frs l, b ∈ X.fs) → X.s₀.heap.FunFrames X.base l → s.heap.FunFrames X.base l := by
    intro l
    induction l with
    | nil => intro _ _; trivial
    | cons env r ih =>
      intro hs hl
      obtain ⟨hk, ⟨L, o, hf, hn, ho, hd⟩, hr⟩ := hl
      have hL : L ∈ X.fs := hs L (by unfold frs; rw [List.filterMap_cons, hf]; exact List.mem_cons_self)
      obtain ⟨sl, e⟩ := I.base.slot L o ho (I.ok.frf L hL) hL fun z => I.ok.exfs L z hL
      exact ⟨hk, ⟨L, _, hf, hn, e, hd⟩, ih (fun b hb => hs b (by unfold frs; rw [List.filterMap_cons, hf]; exact List.mem_cons_of_mem _ hb)) hr⟩
  exact all X.outer (fun _ hb => hb) I.ok.funs

/-- the frames that run, for a call -/
theorem Inv.stack (I : Inv X pins σ H s) : s.heap.FunFrames X.base X.stack := by
  rcases I.ok.stk with e | ⟨e, hf⟩
  · rw [e]; exact I.funs
  · rw [e]
    obtain ⟨m, hn, _⟩ := I.loc
    refine .cons (by rw [I.ok.kind]; decide) hf hn ?_ I.funs
    exact Heap.get?_none_of_le (Nat.le_trans I.ok.bsz I.ok.above)
theorem Inv.stkSub (I : Inv X pins σ H s) : ∀ b ∈ frs X.stack, b ∈ X.env.locals :: X.fs := fun b hb => by
  rcases I.ok.stk with e | ⟨e, hf⟩
  · rw [e] at hb; exact List.mem_cons_of_mem _ hb
  · rw [e] at hb
    unfold frs at hb
    rw [List.filterMap_cons, hf] at hb
    exact hb
theorem Inv.stkFree (I : Inv X pins σ H s) : ∀ b ∈ frs X.stack, H b = none := fun b hb => by
  rcases List.mem_cons.mp (I.stkSub b hb) with e | hb
  · rw [e]; exact I.free
  · obtain ⟨_, o, ho, _⟩ := I.ok.funs.mem hb
    exact I.base.free b o ho (I.ok.frf b hb) fun z => I.ok.exfs b z hb

/-- THE STEP: the untracked objects but the frame and the records at ch are kept (the callers' frames up to slots), the frame's map is kept, the new abstract heap is held -/
theorem Inv.step {g' : Array GenState} {t' : Nat} {d' : Drawn} {ch : List Addr} (I : Inv X pins σ H s)
    (hch : ∀ b ∈ ch, (b ∈ X.ex ∨ X.s₀.heap.objs.size ≤ b) ∧ b ≠ X.env.locals ∧ (∀ x c, X.env.cells.lookup x = some c → c ≠ b) ∧ ∀ p ∈ X.pn ++ pins, p.1 ≠ b)
    (keep : ∀ b o, b ≠ X.env.locals → b ∉ X.fs → b ∉ ch → s.heap.get? b = some o → H b = none → h'.get? b = some o)
    (slot : ∀ b o, b ≠ X.env.locals → b ∈ X.fs → b ∉ ch → s.heap.get? b = some o → H b = none → ∃ sl, h'.get? b = some { o with slots := sl }) (free : ∀ b o, b ∉ ch → s.heap.get? b = some o → H b = none → H' b = none)
    (there : ∀ b o, b ∉ ch → s.heap.get? b = some o → ∃ o', h'.get? b = some o')
    (tups : ∀ b xs, H b = some (.tup xs) → H' b = some (.tup xs)) (frzs : ∀ b o u, H b = some (.frz o u) → H' b = some (.frz o u)) (tbls : ∀ b ps, H b = some (.tbl ps) → ∃ more, H' b = some (.tbl (ps ++ more)))
    (ns : ∀ m, s.heap.Ns X.env.locals m → h'.Ns X.env.locals m) (hok : HOk X.prog X.w H' h') (hg : AllBare g') :
    Inv X pins σ H' { s with heap := h', gens := g', drawn := d', toks := t' } := by
  have neL : ∀ b o, X.s₀.heap.get? b = some o → b ≠ X.env.locals := fun b o e => Nat.ne_of_lt (Nat.lt_of_lt_of_le (Heap.lt_size e) I.ok.above)
  have neC : ∀ b o, X.s₀.heap.get? b = some o → b ∉ X.ex → b ∉ ch := fun b o e hx hb => by
    rcases (hch b hb).1 with z | z
    · exact hx z
    · exact absurd (Nat.lt_of_lt_of_le (Heap.lt_size e) z) (Nat.lt_irrefl _)
  have cellK : ∀ x c, X.env.cells.lookup x = some c → ∀ v, s.heap.IsCell c v → h'.IsCell c v := fun x c e v ⟨o, ho, hd⟩ => by
    have nch : c ∉ ch := fun z => (hch c z).2.2.1 x c e rfl
    by_cases hc : c ∈ X.fs
    · obtain ⟨sl, q⟩ := slot c o (I.cne x c e) hc nch ho (I.freeC x c e)
      exact ⟨_, q, hd⟩
    · exact ⟨o, keep c o (I.cne x c e) hc nch ho (I.freeC x c e), hd⟩
  refine ⟨I.ok, I.os, hg, ⟨fun b o e n hb hx => ?_, fun b o e n hb hx => ?_, fun b o e n hx => ?_, fun b o e hx => ?_, fun b xs e => tups b xs (I.base.tups b xs e), fun b o xs e => frzs b o xs (I.base.frzs b o xs e), fun b ps e => ?_⟩, ?_, fun x c e => ?_, ?_, fun x c e => ?_, fun p hp => ?_, hok, I.len⟩
  · exact keep b o (neL b o e) hb (neC b o e hx) (I.base.keep b o e n hb hx) (I.base.free b o e n hx)
  · obtain ⟨sl, e1⟩ := I.base.slot b o e n hb hx
    obtain ⟨sl', e2⟩ := slot b _ (neL b o e) hb (neC b o e hx) e1 (I.base.free b o e n hx)
    exact ⟨sl', e2⟩
  · obtain ⟨o', e1⟩ := I.base.there b o e hx
    exact free b o' (neC b o e hx) e1 (I.base.free b o e n hx)
  · obtain ⟨o', e1⟩ := I.base.there b o e hx
    exact there b o' (neC b o e hx) e1
  · obtain ⟨m1, e1⟩ := I.base.tbls b ps e
    obtain ⟨m2, e2⟩ := tbls b _ e1
    exact ⟨m1 ++ m2, by rw [e2, Array.append_assoc]⟩
  · obtain ⟨m, hn, hl⟩ := I.loc
    refine ⟨m, ns m hn, fun i x v e1 e2 e3 => ?_⟩
    obtain ⟨u, r, l⟩ := hl i x v e1 e2 e3
    refine ⟨u, r, ?_⟩
    rcases l with l | ⟨k, c, e, z⟩
    · exact .inl l
    · exact .inr ⟨k, c, e, cellK x c e _ z⟩
  · obtain ⟨v, z⟩ := I.cell x c e
    exact ⟨v, cellK x c e v z⟩
  · obtain ⟨m, ⟨o, _, _, ho, _⟩, _⟩ := I.loc
    exact free _ o (fun z => (hch _ z).2.1 rfl) ho I.free
  · obtain ⟨v, o, ho, hd⟩ := I.cell x c e
    exact free c o (fun z => (hch c z).2.2.1 x c e rfl) ho (I.freeC x c e)
  · obtain ⟨e, n, ne, nf, d⟩ := I.pin p hp
    have nch : p.1 ∉ ch := fun z => (hch p.1 z).2.2.2 p hp rfl
    exact ⟨keep p.1 p.2 ne nf nch e n, free p.1 p.2 nch e n, ne, nf, d⟩
/-- .. where the frame's own object is kept too -/
theorem Inv.un {t' : Nat} (I : Inv X pins σ H s) (u : Un X.fs [] H H' s.heap h') (hok : HOk X.prog X.w H' h') : Inv X pins σ H' { s with heap := h', toks := t' } := by
  obtain ⟨m, ⟨o, es, ep, ho, r⟩, _⟩ := id I.loc
  obtain ⟨sl, hL⟩ := u.any ho I.free (by simp)
  exact I.step (g' := s.gens) (d' := s.drawn) (ch := []) (fun _ z => nomatch z) (fun b o _ hb _ e n => u.keep b o e n hb (by simp)) (fun b o _ hb _ e n => u.slot b o e n hb (by simp)) (fun b o _ e n => u.free b o e n (by simp)) (fun b o _ e => u.there b o e (by simp)) u.tups u.frzs u.tbls (fun m' hm => by
    obtain ⟨o', es', ep', ho', r'⟩ := hm
    rw [ho] at ho'; cases ho'
    exact ⟨_, es', ep', hL, r'⟩) hok I.bare
/-- behind a call (or a comprehension's block): the slots of this frame may have changed too, the records at ch may have turned -/
theorem Inv.call {g' : Array GenState} {t' : Nat} {d' : Drawn} {ch : List Addr} (I : Inv X pins σ H s) (u : Un (frs X.stack) ch H H' s.heap h') (hok : HOk X.prog X.w H' h') (hg : AllBare g')
    (hch : ∀ b ∈ ch, (b ∈ X.ex ∨ X.s₀.heap.objs.size ≤ b) ∧ b ≠ X.env.locals ∧ (∀ x c, X.env.cells.lookup x = some c → c ≠ b) ∧ ∀ p ∈ X.pn ++ pins, p.1 ≠ b) :
    Inv X pins σ H' { s with heap := h', gens := g', drawn := d', toks := t' } := by
  obtain ⟨m, ⟨o, es, ep, ho, r⟩, _⟩ := id I.loc
  obtain ⟨sl, hL⟩ := u.any ho I.free fun z => (hch _ z).2.1 rfl
  exact I.step (ch := ch) hch (fun b o hL hb hc e n => u.keep b o e n (fun z => (List.mem_cons.mp (I.stkSub b z)).elim hL hb) hc) (fun b o _ _ hc e n => u.any e n hc) (fun b o hc e n => u.free b o e n hc) (fun b o hc e => u.there b o e hc) u.tups u.frzs u.tbls (fun m' hm => by
    obtain ⟨o', es', ep', ho', r'⟩ := hm
    rw [ho] at ho'; cases ho'
    exact ⟨_, es', ep', hL, r'⟩) hok hg
/-- an untracked record of ours (an iterator) has turned -/
theorem Inv.turned {t' : Nat} {it : Addr} (I : Inv X pins σ H s) (k : ∀ b o, b ≠ it → s.heap.get? b = some o → h'.get? b = some o) (hn : H it = none) (hL : it ≠ X.env.locals)
    (h1 : it ∈ X.ex ∨ X.s₀.heap.objs.size ≤ it) (h2 : ∀ x c, X.env.cells.lookup x = some c → c ≠ it) (h3 : ∀ p ∈ X.pn ++ pins, p.1 ≠ it) : Inv X pins σ H { s with heap := h', toks := t' } := by
  have nit : ∀ b u, H b = some u → b ≠ it := fun b u e z => by rw [z, hn] at e; cases e
  refine I.step (g' := s.gens) (d' := s.drawn) (ch := [it]) (fun b hb => ?_) (fun b o _ _ hc e _ => k b o (fun z => hc (by simp [z])) e) (fun b o _ _ hc e _ => ⟨o.slots, k b o (fun z => hc (by simp [z])) e⟩) (fun _ _ _ _ n => n)
    (fun b o hc e => ⟨o, k b o (fun z => hc (by simp [z])) e⟩) (fun _ _ e => e) (fun _ _ _ e => e) (fun b ps e => ⟨#[], by rw [e]; simp⟩) (fun m hm => ?_) (fun b u e => ?_) I.bare
  · have e : b = it := by simpa using hb
    subst e
    exact ⟨h1, hL, h2, h3⟩
  · obtain ⟨o, es, ep, ho, r⟩ := hm
    exact ⟨o, es, ep, k _ o (Ne.symm hL) ho, r⟩
  · refine (I.hok b u e).stay (fun c v hc q => k c v ?_ q) (fun _ q => q) fun _ _ q => q
    rcases hc with z | z
    · rw [z]; exact nit b u e
    · exact nit c _ z
theorem Inv.tok (I : Inv X pins σ H s) (t : Nat) : Inv X pins σ H { s with toks := t } := I.un (h' := s.heap) (t' := t) Un.refl I.hok
/-- all objects kept -/
theorem Inv.kept {t' : Nat} (I : Inv X pins σ H s) (k : ∀ b u, s.heap.get? b = some u → h'.get? b = some u) : Inv X pins σ H { s with heap := h', toks := t' } := I.un (Un.kept k) (I.hok.kept k)
/-- a new object laid and tracked -/
theorem Inv.laid {a : Addr} {o : HO} {t' : Nat} (I : Inv X pins σ H s) (k : ∀ b u, s.heap.get? b = some u → h'.get? b = some u) (hp : s.heap.objs.size ≤ a) (new : ObjOk X.prog X.w (upd H a o) h' a o) :
    Inv X pins σ (upd H a o) { s with heap := h', toks := t' } := I.un (Un.laid k hp (I.hok.fresh hp)) (I.hok.laid k hp new)
/-- an object written -/
theorem Inv.write {x e : Addr} {o : HO} {t' : Nat} (I : Inv X pins σ H s) (mu : Mut (H x)) (he : e = x ∨ H e = some (.own x)) (k : ∀ b u, b ≠ e → s.heap.get? b = some u → h'.get? b = some u) (heo : ∃ u, h'.get? e = some u)
    (new : ObjOk X.prog X.w (upd H x o) h' x o) : Inv X pins σ (upd H x o) { s with heap := h', toks := t' } := I.un (Un.write mu he k heo) (I.hok.write mu he k heo new)
theorem Inv.pins_of {pins' : List (Addr × Obj)} (I : Inv X pins σ H s) (h : ∀ p ∈ pins', s.heap.get? p.1 = some p.2 ∧ H p.1 = none ∧ p.1 ≠ X.env.locals ∧ p.1 ∉ X.fs ∧ ∀ v, p.2.data ≠ .cell v) : Inv X pins' σ H s :=
  ⟨I.ok, I.os, I.bare, I.base, I.loc, I.cell, I.free, I.freeC, fun p hp => (List.mem_append.mp hp).elim (fun z => I.pin p (List.mem_append_left _ z)) (h p), I.hok, I.len⟩

theorem nodup_ix {N : List Str} (hN : N.Nodup) {i j : Nat} {x : Str} (a : N[i]? = some x) (b : N[j]? = some x) : i = j := by
  obtain ⟨h1, e1⟩ := List.getElem?_eq_some_iff.mp a
  obtain ⟨h2, e2⟩ := List.getElem?_eq_some_iff.mp b
  exact (List.getElem_inj hN).mp (e1.trans e2.symm)

/-- a name is stored; what changed -/
theorem store_ok2 {M : Model} {A : Around} {E : Value → Shared → Prop} {i : Nat} {x : Str} {v : V} {u : Value} {Q : Unit → Shared → Prop} (I : Inv X pins σ H s) (hN : X.N.Nodup) (hi : X.N[i]? = some x) (hx : Loc X.env.scope x) (r : RelV v u)
    (h : ∀ s', Inv X pins (σ.set i (some v)) H s' → (∃ a, Heap.SameBut a s.heap s'.heap ∧ (a = X.env.locals ∨ X.env.cells.lookup x = some a)) → Q () s') (hf : X.fn x = true ∨ X.env.scope.names.lookup x = some .local := by first | exact .inl rfl | exact .inr rfl | assumption) : wpAny M A (storeName X.env x u) Q E s := by
  obtain ⟨m, hn, hl⟩ := id I.loc
  have hcls : (X.env.scope.kind == .class || (X.env.scope.kind == .module && X.env.locals != X.env.globals)) = false := by rw [I.ok.kind]; rfl
  have hiσ : i < σ.length := by rw [I.len]; exact (List.getElem?_eq_some_iff.mp hi).1
  have cne := I.cne
  have tracked : ∀ {a : Addr} {h' : Heap}, (∃ o, s.heap.get? a = some o ∧ H a = none) → Heap.SameBut a s.heap h' → HOk X.prog X.w H h' := fun {a h'} ha hs b ob e => by
    obtain ⟨_, _, hfree⟩ := ha
    refine (I.hok b ob e).stay (fun c w' hc q => (hs.2 c ?_).trans q) (fun _ q => q) fun _ _ q => q
    rintro rfl
    rcases hc with rfl | hc
    · rw [hfree] at e; cases e
    · rw [hfree] at hc; cases hc
  rcases hx with hk | hk
  · refine wpAny_storeName_local hk hn (fun h' hn' hs => ?_) hcls
    obtain ⟨oL, _, _, hoL, _⟩ := id hn
    refine h _ ⟨I.ok, I.os, I.bare, ⟨fun b o e n hb hx => ?_, fun b o e n hb hx => ?_, I.base.free, fun b o e hx => ?_, I.base.tups, I.base.frzs, I.base.tbls⟩, ⟨_, hn', fun j y v' e1 e2 e3 => ?_⟩, fun y c e => ?_, I.free, I.freeC, fun p hp => ?_, tracked ⟨oL, hoL, I.free⟩ hs, by simpa using I.len⟩ ⟨_, hs, .inl rfl⟩
    · exact (hs.2 b (Nat.ne_of_lt (Nat.lt_of_lt_of_le (Heap.lt_size e) I.ok.above))).trans (I.base.keep b o e n hb hx)
    · obtain ⟨sl, e1⟩ := I.base.slot b o e n hb hx
      exact ⟨sl, (hs.2 b (Nat.ne_of_lt (Nat.lt_of_lt_of_le (Heap.lt_size e) I.ok.above))).trans e1⟩
    · obtain ⟨o', e1⟩ := I.base.there b o e hx
      exact ⟨o', (hs.2 b (Nat.ne_of_lt (Nat.lt_of_lt_of_le (Heap.lt_size e) I.ok.above))).trans e1⟩
    · by_cases hj : j = i
      · subst hj
        rw [hi] at e1; cases e1
        rw [List.getElem?_set_self hiσ] at e2
        cases e2
        exact ⟨u, r, .inl ⟨hk, by simp⟩⟩
      · rw [List.getElem?_set_ne (Ne.symm hj)] at e2
        obtain ⟨u', r', q⟩ := hl j y v' e1 e2 e3
        refine ⟨u', r', ?_⟩
        rcases q with ⟨k, e⟩ | ⟨k, c, e, z⟩
        · refine .inl ⟨k, ?_⟩
          have : y ≠ x := fun e => hj (nodup_ix hN e1 (e ▸ hi))
          simp [this, e]
        · exact .inr ⟨k, c, e, z.sameBut hs (cne y c e)⟩
    · obtain ⟨w', z⟩ := I.cell y c e
      exact ⟨w', z.sameBut hs (cne y c e)⟩
    · obtain ⟨e, n, ne, nf, d⟩ := I.pin p hp
      exact ⟨(hs.2 p.1 ne).trans e, n, ne, nf, d⟩
  · have hfn : X.fn x = true := by
      rcases hf with z | z
      · exact z
      · rw [z] at hk; cases hk
    obtain ⟨c, hc⟩ := I.ok.has x (.inl hk)
    obtain ⟨w', z⟩ := I.cell x c hc
    refine wpAny_storeName_cell I.ok.kind hk hc z (fun h' hc' hs => ?_)
    obtain ⟨oc, hoc, hocd⟩ := id z
    refine h { s with heap := h' } ⟨I.ok, I.os, I.bare, ⟨fun b o e n hb hx => ?_, fun b o e n hb hx => ?_, I.base.free, fun b o e hx => ?_, I.base.tups, I.base.frzs, I.base.tbls⟩, ⟨m, hn.sameBut hs (Ne.symm (cne x c hc)), fun j y v' e1 e2 e3 => ?_⟩, fun y c' e => ?_, I.free, I.freeC, fun p hp => ?_, tracked ⟨oc, hoc, I.freeC x c hc⟩ hs, by simpa using I.len⟩ ⟨c, hs, .inr hc⟩
    · exact (hs.2 b (Nat.ne_of_lt (Nat.lt_of_lt_of_le (Heap.lt_size e) (I.ok.cab x c hfn hc)))).trans (I.base.keep b o e n hb hx)
    · obtain ⟨sl, e1⟩ := I.base.slot b o e n hb hx
      exact ⟨sl, (hs.2 b (Nat.ne_of_lt (Nat.lt_of_lt_of_le (Heap.lt_size e) (I.ok.cab x c hfn hc)))).trans e1⟩
    · obtain ⟨o', e1⟩ := I.base.there b o e hx
      exact ⟨o', (hs.2 b (Nat.ne_of_lt (Nat.lt_of_lt_of_le (Heap.lt_size e) (I.ok.cab x c hfn hc)))).trans e1⟩
    · by_cases hj : j = i
      · subst hj
        rw [hi] at e1; cases e1
        rw [List.getElem?_set_self hiσ] at e2
        cases e2
        exact ⟨u, r, .inr ⟨.inl hk, c, hc, hc'⟩⟩
      · rw [List.getElem?_set_ne (Ne.symm hj)] at e2
        obtain ⟨u', r', q⟩ := hl j y v' e1 e2 e3
        refine ⟨u', r', ?_⟩
        rcases q with q | ⟨k, c', e, z'⟩
        · exact .inl q
        · refine .inr ⟨k, c', e, z'.sameBut hs ?_⟩
          rintro rfl
          exact hj (nodup_ix hN e1 (I.ok.inj _ _ _ e hc ▸ hi))
    · by_cases hcc : c' = c
      · subst hcc; exact ⟨_, hc'⟩
      · obtain ⟨w2, z2⟩ := I.cell y c' e
        exact ⟨w2, z2.sameBut hs hcc⟩
    · obtain ⟨e, n, ne, nf, d⟩ := I.pin p hp
      refine ⟨(hs.2 p.1 ?_).trans e, n, ne, nf, d⟩
      intro q
      rw [q, hoc] at e
      have q' : oc = p.2 := Option.some.inj e
      exact d w' (by rw [← q']; exact hocd)
theorem store_ok {M : Model} {A : Around} {E : Value → Shared → Prop} {i : Nat} {x : Str} {v : V} {u : Value} {Q : Unit → Shared → Prop} (I : Inv X pins σ H s) (hN : X.N.Nodup) (hi : X.N[i]? = some x) (hx : Loc X.env.scope x) (r : RelV v u)
    (h : ∀ s', Inv X pins (σ.set i (some v)) H s' → Q () s') (hf : X.fn x = true ∨ X.env.scope.names.lookup x = some .local := by first | exact .inl rfl | exact .inr rfl | assumption) : wpAny M A (storeName X.env x u) Q E s :=
  store_ok2 I hN hi hx r (fun s' I' _ => h s' I') hf
/-- behind a call or a block, the state as it is -/
theorem Inv.call' {s' : Shared} {ch : List Addr} (I : Inv X pins σ H s) (ho : s'.os = s.os) (u : Un (frs X.stack) ch H H' s.heap s'.heap) (hok : HOk X.prog X.w H' s'.heap) (hg : AllBare s'.gens)
    (hch : ∀ b ∈ ch, (b ∈ X.ex ∨ X.s₀.heap.objs.size ≤ b) ∧ b ≠ X.env.locals ∧ (∀ x c, X.env.cells.lookup x = some c → c ≠ b) ∧ ∀ p ∈ X.pn ++ pins, p.1 ≠ b) : Inv X pins σ H' s' := by
  obtain ⟨h', g', d', t', o'⟩ := s'
  have e : o' = s.os := ho
  subst e
  exact I.call (g' := g') (t' := t') (d' := d') u hok hg hch
end

/-! ### the judgements -/
/-- an exception: its class, its own dict's address (where it has one), the abstract heap behind it -/
abbrev XK := Value → Option Addr → Hp → Prop
abbrev St := List (Option V)
abbrev VK := V → Hp → Prop
/-- an expression's reading; a test's; an argument list's -/
abbrev TE := St → Hp → VK → Prop
abbrev TT := St → Hp → (Bool → Hp → Prop) → Prop
abbrev TA := St → Hp → (List V → Hp → Prop) → Prop
/-- what is wanted behind a statement -/
structure Ends where
  nx : St → Hp → Prop
  rt : VK
  bk : St → Hp → Prop := fun _ _ => False
  ct : St → Hp → Prop := fun _ _ => False
abbrev TS := Ends → St → Hp → Prop

def EP (X : Cx) (pins : List (Addr × Obj)) (σ : St) (Q : VK) (u : Value) (s' : Shared) : Prop := ∃ v H', Inv X pins σ H' s' ∧ RelV v u ∧ Q v H'
def TP (X : Cx) (pins : List (Addr × Obj)) (σ : St) (Q : Bool → Hp → Prop) (b : Bool) (s' : Shared) : Prop := ∃ H', Inv X pins σ H' s' ∧ Q b H'
def AP (X : Cx) (pins : List (Addr × Obj)) (σ : St) (Q : List V → Hp → Prop) (us : List Value) (s' : Shared) : Prop := ∃ vs H', Inv X pins σ H' s' ∧ Vals vs us ∧ Q vs H'
def SP (X : Cx) (pins : List (Addr × Obj)) (D : Ends) (f : Flow) (s' : Shared) : Prop :=
  match f with
  | .next => ∃ σ' H', Inv X pins σ' H' s' ∧ D.nx σ' H'
  | .brk => ∃ σ' H', Inv X pins σ' H' s' ∧ D.bk σ' H'
  | .cont => ∃ σ' H', Inv X pins σ' H' s' ∧ D.ct σ' H'
  | .ret u => ∃ v σ' H', Inv X pins σ' H' s' ∧ RelV v u ∧ D.rt v H'

def PE (X : Cx) (e : Expr) (t : TE) : Prop :=
  ∀ (pins : List (Addr × Obj)) (s : Shared) (σ : St) (H : Hp) (Q : VK), Inv X pins σ H s → t σ H Q → wpAny (model X.prog X.w) X.A (eval e X.env) (EP X pins σ Q) X.xe s
def PT (X : Cx) (e : Expr) (t : TT) : Prop :=
  ∀ (pins : List (Addr × Obj)) (s : Shared) (σ : St) (H : Hp) (Q : Bool → Hp → Prop), Inv X pins σ H s → t σ H Q → wpAny (model X.prog X.w) X.A (isTrue e X.env (eval e X.env)) (TP X pins σ Q) X.xe s
/-- a test whatever its 'whole' is (and, or) -/
def PW (X : Cx) (e : Expr) (t : TT) : Prop :=
  ∀ (whole : Sem Value) (pins : List (Addr × Obj)) (s : Shared) (σ : St) (H : Hp) (Q : Bool → Hp → Prop), Inv X pins σ H s → t σ H Q → wpAny (model X.prog X.w) X.A (isTrue e X.env whole) (TP X pins σ Q) X.xe s
theorem PW.pt {X : Cx} {e : Expr} {t : TT} (h : PW X e t) : PT X e t := h _
/-- an argument list (no star), from the left -/
def PA (X : Cx) (es : List Expr) (t : TA) : Prop :=
  ∀ (pos : Pos) (pins : List (Addr × Obj)) (s : Shared) (σ : St) (H : Hp) (Q : List V → Hp → Prop), Inv X pins σ H s → t σ H Q → wpAny (model X.prog X.w) X.A (spliced (backTo pos (starEach es X.env))) (AP X pins σ Q) X.xe s
def PS (X : Cx) (st : Stmt) (t : TS) : Prop :=
  ∀ (pins : List (Addr × Obj)) (s : Shared) (σ : St) (H : Hp) (D : Ends), Inv X pins σ H s → t D σ H → wpAny (model X.prog X.w) X.A (exec st X.env) (SP X pins D) X.xe s
def PSs (X : Cx) (st : List Stmt) (t : TS) : Prop :=
  ∀ (pins : List (Addr × Obj)) (s : Shared) (σ : St) (H : Hp) (D : Ends), Inv X pins σ H s → t D σ H → wpAny (model X.prog X.w) X.A (execs st X.env) (SP X pins D) X.xe s
/-- weaken the end -/
theorem thn {α : Type} {t : Sem α} {Q Q' : α → Shared → Prop} {M : Model} {A : Around} {E : Value → Shared → Prop} {s : Shared} (h : wpAny M A t Q E s) (hQ : ∀ a s, Q a s → Q' a s) : wpAny M A t Q' E s := wpAny_mono h hQ fun _ _ x => x
end L2

namespace L2
open PySem PySem.Spec PyProof.Rows
section
variable {X : Cx}


/-! ### names and constants -/
def tVar (i : Nat) : TE := fun σ H Q => ∃ v, σ[i]? = some (some v) ∧ Q v H
def tC (v : V) : TE := fun _ H Q => Q v H
theorem pe_var {i : Nat} {x : Str} {pos : Pos} (hN : X.N[i]? = some x) (hv : Vis X.env.scope x) (hd : (x == ("__debug__" : Str)) = false := by decide) (hcd : (x == ("__classdict__" : Str)) = false := by decide) : PE X (.Name x pos) (tVar i) := by
  intro pins s σ H Q I h
  obtain ⟨v, e, h⟩ := h
  obtain ⟨m, hn, hl⟩ := I.loc
  obtain ⟨u, r, l⟩ := hl i x v hN e hv
  have fin : EP X pins σ Q u s := ⟨v, H, I, r, h⟩
  rcases l with ⟨hk, hm⟩ | ⟨hk, c, hc, hcell⟩
  · exact wpAny_Name (wpAny_loadName_local I.ok.kind hk hn hm fin) hd
  · rcases hk with hk | hk
    · exact wpAny_Name (wpAny_loadName_cell I.ok.kind hk hc hcell fin) hd
    · exact wpAny_Name (wpAny_loadName_free I.ok.kind hk hc hcell fin hcd) hd
theorem pe_int {i j pos} : PE X (.Constant (.int i) j pos) (tC (.int i)) := fun _ _ _ H _ I h => wpAny_Constant_int ⟨.int i, H, I.tok _, ⟨_, rfl⟩, h⟩
theorem pe_bl {b j pos} : PE X (.Constant (.bool b) j pos) (tC (.bl b)) := fun _ _ _ H _ I h => Constant_bool ⟨.bl b, H, I, rfl, h⟩
theorem pe_non {j pos} : PE X (.Constant .none j pos) (tC .non) := fun _ _ _ H _ I h => Constant_none ⟨.non, H, I, rfl, h⟩
theorem pe_str {x j pos} : PE X (.Constant (.str x) j pos) (tC (.str x)) := fun _ _ _ H _ I h => Calls.Constant_str ⟨.str x, H, I.tok _, ⟨_, rfl⟩, h⟩

/-- a global name of the def -/
def Gl (X : Cx) (x : Str) : Prop := X.env.kindOf x = some .globalImplicit
theorem ld_glob {E : Value → Shared → Prop} {pins : List (Addr × Obj)} {s : Shared} {σ : St} {H : Hp} {x : Str} {u : Value} {pos : Pos} {Q : Value → Shared → Prop} (I : Inv X pins σ H s) (hg : Gl X x) (hm : X.mg x = some u) (h : Q u s)
    (hd : (x == ("__debug__" : Str)) = false := by decide) : wpAny (model X.prog X.w) X.A (eval (.Name x pos) X.env) Q E s :=
  Calls.Name_function_global I.ok.kind hg (Calls.loadGlobal_global (by rw [I.ok.glob]; exact I.mod.glob.keeps I.bk) hm h) hd
theorem ld_blt {E : Value → Shared → Prop} {pins : List (Addr × Obj)} {s : Shared} {σ : St} {H : Hp} {x : Str} {u : Value} {pos : Pos} {Q : Value → Shared → Prop} (I : Inv X pins σ H s) (hg : Gl X x) (hm : X.mg x = none) (hv : bootBuiltins x = some u) (h : Q u s)
    (hn : x ≠ "__name__" := by decide) (hd : (x == ("__debug__" : Str)) = false := by decide) : wpAny (model X.prog X.w) X.A (eval (.Name x pos) X.env) Q E s := by
  obtain ⟨mb, h1, h2⟩ := I.mod.blt
  exact Calls.Name_function_global I.ok.kind hg (Calls.loadGlobal_builtin (by rw [I.ok.glob]; exact I.mod.glob.keeps I.bk) hm (by rw [I.ok.blt]; exact h1.keeps I.bk) ((h2 x hn).trans hv) h) hd
/-- a module's constant, a class, a function, as a value -/
theorem pe_glob {x : Str} {v : V} {u : Value} {pos : Pos} (hg : Gl X x) (hm : X.mg x = some u) (r : RelV v u) (hd : (x == ("__debug__" : Str)) = false := by decide) : PE X (.Name x pos) (tC v) :=
  fun _ _ _ H _ I h => ld_glob I hg hm ⟨v, H, I, r, h⟩ hd
theorem pe_bltn {x : Str} {v : V} {u : Value} {pos : Pos} (hg : Gl X x) (hm : X.mg x = none) (hv : bootBuiltins x = some u) (r : RelV v u) (hn : x ≠ "__name__" := by decide) (hd : (x == ("__debug__" : Str)) = false := by decide) : PE X (.Name x pos) (tC v) :=
  fun _ _ _ H _ I h => ld_blt I hg hm hv ⟨v, H, I, r, h⟩ hn hd

/-! ### arithmetic -/
variable {a b : Expr} {ta tb : TE} {pos : Pos}

/-! ### comparisons -/
def PC (X : Cx) (op : CmpOp) (a b : Expr) (t : TE) : Prop :=
  ∀ (pins : List (Addr × Obj)) (s : Shared) (σ : St) (H : Hp) (Q : VK), Inv X pins σ H s → t σ H Q →
    wpAny (model X.prog X.w) X.A (eval a X.env) (fun v s₁ => wpAny (model X.prog X.w) X.A (eval b X.env) (fun u s₂ => wpAny (model X.prog X.w) X.A (compareOp op v u) (EP X pins σ Q) X.xe s₂) X.xe s₁) X.xe s
/-- a comparison as a value, as a test -/
def tB (t : TE) : TT := fun σ H Q => t σ H fun x H1 => ∃ c, x = .bl c ∧ Q c H1
theorem pt_cmp {op : CmpOp} {t : TE} (h : PC X op a b t) (h1 : behindInMarks op b = false := by first | exact nobehind _ (by decide) (by decide) | rfl) : PT X (.Compare a [op] [b] pos) (tB t) := by
  intro pins s σ H Q I hw
  refine wpAny_isTrue_Compare1 (thn (h pins s σ H _ I hw) fun v s1 h1 => thn h1 fun u s2 h2 => thn h2 fun c s3 ⟨x, H1, I1, r1, q1⟩ => ?_) h1
  obtain ⟨d, rfl, q⟩ := q1
  cases r1
  exact wpAny_truthy_bool ⟨H1, I1, q⟩
/-- an expression whose value is a bool, as a test -/
theorem pt_val {e : Expr} {t : TE} (h : PE X e t) (he : ∀ whole, isTrue e X.env whole = (do let v ← whole; standAt e.pos; holding [v] (truthy v)) := by intro _; rfl) : PT X e (tB t) := by
  intro pins s σ H Q I hw
  refine isTrue_plain (thn (h pins s σ H _ I hw) fun v s1 ⟨x, H1, I1, r1, q1⟩ => ?_) (he _)
  obtain ⟨d, rfl, q⟩ := q1
  cases r1
  exact wpAny_truthy_bool ⟨H1, I1, q⟩

/-! ### and, or, not -/
variable {tA tB' : TT} {rest : List Expr}
def tAnd (t u : TT) : TT := fun σ H Q => t σ H fun c H1 => if c = true then u σ H1 Q else Q false H1
def tOr (t u : TT) : TT := fun σ H Q => t σ H fun c H1 => if c = true then Q true H1 else u σ H1 Q
def tNot (t : TT) : TT := fun σ H Q => t σ H fun c H1 => Q (!c) H1
theorem pw_and1 (ha : PT X a tA) : PW X (.BoolOp .And [a] pos) tA := by
  intro wh pins s σ H Q I h
  refine isTrue_and (thn (ha pins s σ H Q I h) fun c s1 e => ?_)
  cases c with
  | true => exact isTrue_and_nil e
  | false => exact e
theorem pw_or1 (ha : PT X a tA) : PW X (.BoolOp .Or [a] pos) tA := by
  intro wh pins s σ H Q I h
  refine isTrue_or (thn (ha pins s σ H Q I h) fun c s1 e => ?_)
  cases c with
  | false => exact isTrue_or_nil e
  | true => exact e
theorem pw_and (ha : PT X a tA) (hb : PW X (.BoolOp .And (b :: rest) pos) tB') : PW X (.BoolOp .And (a :: b :: rest) pos) (tAnd tA tB') := by
  intro wh pins s σ H Q I h
  refine isTrue_and (thn (ha pins s σ H _ I h) fun c s1 ⟨H1, I1, q1⟩ => ?_)
  cases c with
  | true => exact hb wh pins s1 σ H1 Q I1 q1
  | false => exact ⟨H1, I1, q1⟩
theorem pw_or (ha : PT X a tA) (hb : PW X (.BoolOp .Or (b :: rest) pos) tB') : PW X (.BoolOp .Or (a :: b :: rest) pos) (tOr tA tB') := by
  intro wh pins s σ H Q I h
  refine isTrue_or (thn (ha pins s σ H _ I h) fun c s1 ⟨H1, I1, q1⟩ => ?_)
  cases c with
  | true => exact ⟨H1, I1, q1⟩
  | false => exact hb wh pins s1 σ H1 Q I1 q1
theorem pt_not (ha : PT X a tA) : PT X (.UnaryOp .Not a pos) (tNot tA) := by
  intro pins s σ H Q I h
  exact isTrue_not (ha pins s σ H (fun c H1 => Q (!c) H1) I h)
/-- .. as values (bools) -/
def tAndV (ta tb : TE) : TE := fun σ H Q => ta σ H fun x H1 => ∃ c, x = .bl c ∧ if c = true then tb σ H1 Q else Q (.bl false) H1
def tOrV (ta tb : TE) : TE := fun σ H Q => ta σ H fun x H1 => ∃ c, x = .bl c ∧ if c = true then Q (.bl true) H1 else tb σ H1 Q
def tNotV (ta : TE) : TE := fun σ H Q => ta σ H fun x H1 => ∃ c, x = .bl c ∧ Q (.bl (!c)) H1
theorem pe_one {op} {t : TE} (h : PE X a t) : PE X (.BoolOp op [a] pos) t := fun pins s σ H Q I hw => BoolOp_one (h pins s σ H Q I hw)
theorem pe_and (ha : PE X a ta) (hb : PE X (.BoolOp .And (b :: rest) pos) tb) : PE X (.BoolOp .And (a :: b :: rest) pos) (tAndV ta tb) := by
  intro pins s σ H Q I h
  refine BoolOp_and (thn (ha pins s σ H _ I h) fun v s1 ⟨x, H1, I1, r1, q1⟩ => ?_)
  obtain ⟨c, rfl, q1⟩ := q1
  cases r1
  refine wpAny_truthy_bool ?_
  cases c with
  | true => exact hb pins s1 σ H1 Q I1 q1
  | false => exact ⟨.bl false, H1, I1, rfl, q1⟩
theorem pe_or (ha : PE X a ta) (hb : PE X (.BoolOp .Or (b :: rest) pos) tb) : PE X (.BoolOp .Or (a :: b :: rest) pos) (tOrV ta tb) := by
  intro pins s σ H Q I h
  refine BoolOp_or (thn (ha pins s σ H _ I h) fun v s1 ⟨x, H1, I1, r1, q1⟩ => ?_)
  obtain ⟨c, rfl, q1⟩ := q1
  cases r1
  refine wpAny_truthy_bool ?_
  cases c with
  | false => exact hb pins s1 σ H1 Q I1 q1
  | true => exact ⟨.bl true, H1, I1, rfl, q1⟩
theorem pe_not (ha : PE X a ta) : PE X (.UnaryOp .Not a pos) (tNotV ta) := by
  intro pins s σ H Q I h
  refine UnaryOp_ (thn (ha pins s σ H _ I h) fun v s1 ⟨x, H1, I1, r1, q1⟩ => ?_)
  obtain ⟨c, rfl, q1⟩ := q1
  cases r1
  exact not_of (wpAny_truthy_bool ⟨.bl (!c), H1, I1, rfl, q1⟩)
/-- a if t else b -/
def tIf (t : TT) (ta tb : TE) : TE := fun σ H Q => t σ H fun c H1 => if c = true then ta σ H1 Q else tb σ H1 Q
theorem pe_ifExp {c : Expr} (hc : PT X c tA) (ha : PE X a ta) (hb : PE X b tb) : PE X (.IfExp c a b pos) (tIf tA ta tb) := by
  intro pins s σ H Q I h
  refine wpAny_IfExp (thn (hc pins s σ H _ I h) fun d s1 ⟨H1, I1, q1⟩ => ?_)
  cases d with
  | true => exact ha pins s1 σ H1 Q I1 q1
  | false => exact hb pins s1 σ H1 Q I1 q1
end
end L2

namespace L2
open PySem PySem.Spec PyProof.Rows

/-! ### a list, a tuple that is read: tracked, frozen, or an object of the module -/
def SqL (K : PySem.W.Frag) (H : Hp) (a : Addr) (xs : List V) : Prop :=
  Rd H a (.lst xs) ∨
    ∃ (o : Obj) (its : Array Value) (n : Nat), K.lookup a = some o ∧ o.cls = .type "list" ∧ o.dict = none ∧ o.data = .seq its n ∧ its.size ≤ sizeLine ∧ Vals xs its.toList
def SqT (K : PySem.W.Frag) (H : Hp) (a : Addr) (xs : List V) : Prop :=
  Rd H a (.tup xs) ∨
    ∃ (o : Obj) (its : Array Value) (n : Nat), K.lookup a = some o ∧ o.cls = .type "tuple" ∧ o.data = .seq its n ∧ its.size ≤ sizeLine ∧ Vals xs its.toList
def absV : Value → Option V
  | .none => some .non
  | .bool b => some (.bl b)
  | .int i _ => some (.int i)
  | .str x _ => some (.str x)
  | .bytes b _ => some (.byt b)
  | .float b _ => some (.flt b)
  | .ref a => some (.ref a)
  | .type n => some (.ty n)
  | _ => none
theorem RelV.abs {x : V} {u : Value} (r : RelV x u) : absV u = some x := by
  cases x with
  | non => cases r; rfl
  | bl _ => cases r; rfl
  | int _ => obtain ⟨t, rfl⟩ := r; rfl
  | str _ => obtain ⟨t, rfl⟩ := r; rfl
  | byt _ => obtain ⟨t, rfl⟩ := r; rfl
  | flt _ => obtain ⟨t, rfl⟩ := r; rfl
  | ref _ => cases r; rfl
  | ty _ => cases r; rfl
theorem RelV.inj {x y : V} {u : Value} (r : RelV x u) (q : RelV y u) : x = y := Option.some.inj (r.abs.symm.trans q.abs)
theorem Vals.inj : ∀ {xs ys : List V} {us : List Value}, Vals xs us → Vals ys us → xs = ys
  | _, _, _, .nil, .nil => rfl
  | _, _, _, .cons r t, .cons r' t' => by rw [r.inj r', Vals.inj t t']
section
variable {X : Cx} {pins : List (Addr × Obj)} {σ : St} {H : Hp} {s : Shared} {a : Addr} {xs ys : List V}
theorem SqL.of {K : PySem.W.Frag} (h : H a = some (.lst xs)) : SqL K H a xs := .inl (.inl h)
theorem SqT.of {K : PySem.W.Frag} (h : H a = some (.tup xs)) : SqT K H a xs := .inl (.inl h)
theorem Inv.list (I : Inv X pins σ H s) (h : SqL X.K H a xs) : ∃ its : List Value, Vals xs its ∧ PlainL s.heap a its.toArray ∧ xs.length ≤ sizeLine := by
  rcases h with h | ⟨o, its, n, hk, hc, hd, hs, hz, r⟩
  · obtain ⟨z, its, n, r, e⟩ := h.ok I.hok
    exact ⟨its, r, ⟨_, n, e, rfl, rfl, rfl⟩, z⟩
  · refine ⟨its.toList, r, ⟨o, n, I.kIn a o hk, hc, hd, by simpa using hs⟩, ?_⟩
    have e := r.length
    simp only [Array.length_toList] at e
    omega
theorem Inv.tuple (I : Inv X pins σ H s) (h : SqT X.K H a xs) : ∃ its : List Value, Vals xs its ∧ IsTup s.heap a its.toArray ∧ xs.length ≤ sizeLine := by
  rcases h with h | ⟨o, its, n, hk, hc, hs, hz, r⟩
  · obtain ⟨z, its, r, p⟩ := h.ok I.hok
    exact ⟨its, r, p, z⟩
  · refine ⟨its.toList, r, ⟨o, I.kIn a o hk, hc, n, by simpa using hs⟩, ?_⟩
    have e := r.length
    simp only [Array.length_toList] at e
    omega
theorem Inv.list_inj (I : Inv X pins σ H s) (h : SqL X.K H a xs) (h' : SqL X.K H a ys) : xs = ys := by
  obtain ⟨its, r, ⟨o, n, e, _, _, d⟩, _⟩ := I.list h
  obtain ⟨its', r', ⟨o', n', e', _, _, d'⟩, _⟩ := I.list h'
  rw [e] at e'; cases e'
  rw [d] at d'
  injection d' with d1 _
  have : its = its' := by simpa using congrArg Array.toList d1
  subst this
  exact r.inj r'
theorem Inv.tuple_inj (I : Inv X pins σ H s) (h : SqT X.K H a xs) (h' : SqT X.K H a ys) : xs = ys := by
  obtain ⟨its, r, ⟨o, e, _, n, d⟩, _⟩ := I.tuple h
  obtain ⟨its', r', ⟨o', e', _, n', d'⟩, _⟩ := I.tuple h'
  rw [e] at e'; cases e'
  rw [d] at d'
  injection d' with d1 _
  have : its = its' := by simpa using congrArg Array.toList d1
  subst this
  exact r.inj r'
end

/-! ### another wish about exceptions -/
abbrev Cx.wish (X : Cx) (E : Value → Shared → Prop) : Cx := { X with xe := E }
/-- no exception leaves -/
abbrev Cx.nox (X : Cx) : Cx := X.wish fun _ _ => False
theorem Cx.Ok.wish {X : Cx} (ok : X.Ok) (E : Value → Shared → Prop) : (X.wish E).Ok :=
  ⟨ok.mod, ok.kind, ok.glob, ok.blt, ok.above, ok.inj, ok.has, ok.cab, ok.hd, ok.frames, ok.stk, ok.exf, ok.bs, ok.bsz, ok.noex, ok.exfs, ok.funs, ok.frf⟩
theorem Cx.Ok.unwish {X : Cx} {E : Value → Shared → Prop} (ok : (X.wish E).Ok) : X.Ok :=
  ⟨ok.mod, ok.kind, ok.glob, ok.blt, ok.above, ok.inj, ok.has, ok.cab, ok.hd, ok.frames, ok.stk, ok.exf, ok.bs, ok.bsz, ok.noex, ok.exfs, ok.funs, ok.frf⟩
section
variable {X : Cx} {pins : List (Addr × Obj)} {σ : St} {H : Hp} {s : Shared} {E : Value → Shared → Prop}
theorem Inv.wish (I : Inv X pins σ H s) (E : Value → Shared → Prop) : Inv (X.wish E) pins σ H s := ⟨I.ok.wish E, I.os, I.bare, I.base, I.loc, I.cell, I.free, I.freeC, I.pin, I.hok, I.len⟩
theorem Inv.unwish (I : Inv (X.wish E) pins σ H s) : Inv X pins σ H s := ⟨I.ok.unwish, I.os, I.bare, I.base, I.loc, I.cell, I.free, I.freeC, I.pin, I.hok, I.len⟩
theorem SP.unwish {D : Ends} {f : Flow} {s' : Shared} (h : SP (X.wish E) pins D f s') : SP X pins D f s' := by
  cases f with
  | next => obtain ⟨σ', H', I, q⟩ := h; exact ⟨σ', H', I.unwish, q⟩
  | brk => obtain ⟨σ', H', I, q⟩ := h; exact ⟨σ', H', I.unwish, q⟩
  | cont => obtain ⟨σ', H', I, q⟩ := h; exact ⟨σ', H', I.unwish, q⟩
  | ret u => obtain ⟨v, σ', H', I, r, q⟩ := h; exact ⟨v, σ', H', I.unwish, r, q⟩
theorem PSs.nox {st : List Stmt} {t : TS} (h : PSs X.nox st t) : PSs X st t := fun pins s σ H D I hw =>
  wpAny_mono (h pins s σ H D (I.wish _) hw) (fun _ _ q => q.unwish) fun _ _ z => False.elim z
end

/-! ### blocks and small statements -/
section
variable {X : Cx} {st : Stmt} {rest : List Stmt} {t u : TS} {e : Expr} {te : TE} {pos : Pos}
def tNext : TS := fun D σ H => D.nx σ H
def tSeq (t u : TS) : TS := fun D σ H => t { D with nx := u D } σ H
theorem pss_nil : PSs X [] tNext := fun _ _ σ H _ I h => wpAny_execs_nil ⟨σ, H, I, h⟩
theorem pss_cons (h1 : PS X st t) (h2 : PSs X rest u) : PSs X (st :: rest) (tSeq t u) := by
  intro pins s σ H D I h
  refine wpAny_execs_cons (thn (h1 pins s σ H { D with nx := u D } I h) fun f s1 q => ?_)
  cases f with
  | next =>
    obtain ⟨σ', H', I', q⟩ := q
    exact h2 pins s1 σ' H' D I' q
  | ret v => exact q
  | brk => exact q
  | cont => exact q
theorem pss_one (h1 : PS X st t) : PSs X [st] t := by
  intro pins s σ H D I h
  refine wpAny_execs_cons (thn (h1 pins s σ H D I h) fun f s1 q => ?_)
  cases f with
  | next => exact wpAny_execs_nil q
  | ret v => exact q
  | brk => exact q
  | cont => exact q
/-- in a def's body nothing is shown -/
theorem Inv.quiet {pins : List (Addr × Obj)} {σ : St} {H : Hp} {s : Shared} (I : Inv X pins σ H s) : interactive X.env = false := by simp [interactive, I.ok.kind]
/-- an expression whose value is dropped -/
def tDrop (te : TE) : TS := fun D σ H => te σ H fun _ H1 => D.nx σ H1
theorem ps_expr (he : PE X e te) (hs : swapsWith e none pos.line X.env = pure false := by rfl) : PS X (.Expr e pos) (tDrop te) := by
  intro pins s σ H D I h
  exact wpAny_Expr_any (thn (he pins s σ H _ I h) fun v s1 ⟨x, H1, I1, r1, q1⟩ => ⟨σ, H1, I1, q1⟩) I.quiet hs
def tRet (te : TE) : TS := fun D σ H => te σ H D.rt
theorem ps_ret (he : PE X e te) : PS X (.Return (some e) pos) (tRet te) := by
  intro pins s σ H D I h
  exact wpAny_Return_some (thn (he pins s σ H _ I h) fun v s1 ⟨x, H1, I1, r1, q1⟩ => ⟨x, σ, H1, I1, r1, q1⟩)
def tIfS (c : TT) (t u : TS) : TS := fun D σ H => c σ H fun b H1 => if b = true then t D σ H1 else u D σ H1
theorem ps_if {c : Expr} {a b : List Stmt} {tc : TT} (hc : PT X c tc) (ha : PSs X a t) (hb : PSs X b u) : PS X (.If c a b pos) (tIfS tc t u) := by
  intro pins s σ H D I h
  refine wpAny_If (thn (hc pins s σ H _ I h) fun d s1 ⟨H1, I1, q1⟩ => ?_)
  cases d with
  | true => exact ha pins s1 σ H1 D I1 q1
  | false => exact hb pins s1 σ H1 D I1 q1
end

/-! ### targets -/
abbrev TG := V → St → Hp → (St → Hp → Prop) → Prop
abbrev TGs := List V → St → Hp → (St → Hp → Prop) → Prop
def PG (X : Cx) (target : Expr) (t : TG) : Prop :=
  ∀ (pins : List (Addr × Obj)) (s : Shared) (σ : St) (H : Hp) (v : V) (u : Value) (Q : St → Hp → Prop), Inv X pins σ H s → RelV v u → t v σ H Q →
    wpAny (model X.prog X.w) X.A (assign target X.env u) (fun _ s' => ∃ σ' H', Inv X pins σ' H' s' ∧ Q σ' H') X.xe s
/-- several targets, one after another -/
def PGs (X : Cx) (ts : List Expr) (t : TGs) : Prop :=
  ∀ (pins : List (Addr × Obj)) (s : Shared) (σ : St) (H : Hp) (vs : List V) (us : List Value) (Q : St → Hp → Prop), Inv X pins σ H s → Vals vs us → t vs σ H Q →
    wpAny (model X.prog X.w) X.A (assignInOrder ((assignEach ts X.env).map (·.2)) us) (fun _ s' => ∃ σ' H', Inv X pins σ' H' s' ∧ Q σ' H') X.xe s
/-- o[i] = v, by values -/
abbrev TSet := V → V → V → Hp → (Hp → Prop) → Prop
def PSet (X : Cx) (t : TSet) : Prop :=
  ∀ (pins : List (Addr × Obj)) (s : Shared) (σ : St) (H : Hp) (o i v : V) (ov iv u : Value) (Q : Hp → Prop), Inv X pins σ H s → RelV o ov → RelV i iv → RelV v u → t o i v H Q →
    wpAny (model X.prog X.w) X.A (setItem ov iv u) (fun _ s' => ∃ H', Inv X pins σ H' s' ∧ Q H') X.xe s
section
variable {X : Cx} {pos : Pos}
def gName (i : Nat) : TG := fun v σ H Q => Q (σ.set i (some v)) H
theorem pg_name {i : Nat} {x : Str} (hN : X.N.Nodup) (hi : X.N[i]? = some x) (hx : Loc X.env.scope x) (hf : X.fn x = true ∨ X.env.scope.names.lookup x = some .local := by first | exact .inl rfl | exact .inr rfl | assumption) : PG X (.Name x pos) (gName i) := by
  intro pins s σ H v u Q I r h
  exact wpAny_assign_Name (store_ok I hN hi hx r (fun s' I' => ⟨_, H, I', h⟩) hf)
def gNil : TGs := fun vs σ H Q => vs = [] ∧ Q σ H
def gCons (t : TG) (u : TGs) : TGs := fun vs σ H Q => ∃ v r, vs = v :: r ∧ t v σ H fun σ' H' => u r σ' H' Q
theorem pgs_nil : PGs X [] gNil := by
  intro pins s σ H vs us Q I r h
  obtain ⟨e, h⟩ := h
  subst e
  cases r
  exact assignInOrder_nil ⟨σ, H, I, h⟩
theorem pgs_cons {e : Expr} {es : List Expr} {t : TG} {u : TGs} (h1 : PG X e t) (h2 : PGs X es u)
    (hs : (assignEach (e :: es) X.env).map (·.2) = assign e X.env :: (assignEach es X.env).map (·.2) := by rfl) : PGs X (e :: es) (gCons t u) := by
  intro pins s σ H vs us Q I r h
  obtain ⟨v, vr, e1, h⟩ := h
  subst e1
  cases r with
  | cons r rr =>
    rw [hs]
    refine assignInOrder_cons (thn (h1 pins s σ H _ _ _ I r h) fun _ s1 ⟨σ1, H1, I1, q1⟩ => ?_)
    exact h2 pins s1 σ1 H1 _ _ Q I1 rr q1
/-- (a, b, ..) = a tuple of that length -/
def gTup (K : PySem.W.Frag) (n : Nat) (t : TGs) : TG := fun v σ H Q => ∃ a xs, v = .ref a ∧ SqT K H a xs ∧ xs.length = n ∧ t xs σ H Q
theorem pg_tup {es : List Expr} {k : Nat} {t : TGs} {n : Nat} (hc : X.calm = true) (h : PGs X es t)
    (hn : (assignEach es X.env).length = n := by rfl) (hst : (assignEach es X.env).findIdx? (·.1) = none := by rfl) : PG X (.Tuple es k pos) (gTup X.K n t) := by
  intro pins s σ H v u Q I r hw
  obtain ⟨a, xs, e1, hq, hl, hw⟩ := hw
  subst e1
  cases r
  obtain ⟨its, rv, ht, hz⟩ := I.tuple hq
  refine assign_Tuple_tuple (I.ok.hd hc) ht (by simp [hn, ← hl, rv.length]) hst fun h' hx => ?_
  have I1 : Inv X pins σ H { s with heap := h' } := I.kept (t' := s.toks) fun b o e => hx b o (Nat.ne_of_lt (Heap.lt_size e)) e
  exact h pins _ σ H xs _ Q I1 (by simpa using rv) hw
/-- o[i] = .. -/
def gSub (to ti : TE) (t : TSet) : TG := fun v σ H Q => to σ H fun o H1 => ti σ H1 fun i H2 => t o i v H2 fun H3 => Q σ H3
theorem pg_sub {o i : Expr} {to ti : TE} {t : TSet} (ho : PE X o to) (hi : PE X i ti) (hs : PSet X t)
    (ha : ∀ v, assign (.Subscript o i pos) X.env v = (do
      let ov ← holding [v] (eval o X.env)
      let iv ← holding [v, ov] (eval i X.env)
      standAt pos
      holding [v, ov, iv] (setItem ov iv v)
      release [v, ov, iv] []) := by intro _; rfl) : PG X (.Subscript o i pos) (gSub to ti t) := by
  intro pins s σ H v u Q I r h
  rw [ha]
  refine wpAny_bind (wpAny_holding (thn (ho pins s σ H _ I h) fun ov s1 ⟨x, H1, I1, r1, q1⟩ => ?_))
  refine wpAny_bind (wpAny_holding (thn (hi pins s1 σ H1 _ I1 q1) fun iv s2 ⟨y, H2, I2, r2, q2⟩ => ?_))
  refine wpAny_bind (wpAny_standAt (wpAny_bind (wpAny_holding (thn (hs pins s2 σ H2 x y v ov iv u _ I2 r1 r2 r q2) fun _ s3 ⟨H3, I3, q3⟩ => ?_))))
  exact wpAny_release ⟨σ, H3, I3, q3⟩
/-- target = value -/
def tAsg (te : TE) (g : TG) : TS := fun D σ H => te σ H fun x H1 => g x σ H1 D.nx
theorem ps_asg {tg e : Expr} {te : TE} {g : TG} (he : PE X e te) (hg : PG X tg g) (hs : swapsWithSole [tg] e pos.line X.env = pure false := by rfl) (hw : swappedStores [tg] e X.env = pure none := by rfl)
    (h1 : (assignEach [tg] X.env).map (·.2) = [assign tg X.env] := by rfl) : PS X (.Assign [tg] e pos) (tAsg te g) := by
  intro pins s σ H D I h
  refine wpAny_Assign_stores (thn (he pins s σ H _ I h) fun v s1 ⟨x, H1, I1, r1, q1⟩ => ?_) hs hw
  rw [h1]
  exact thn (hg pins s1 σ H1 x v _ I1 r1 q1) fun _ s2 q => q
/-- name = value -/
theorem ps_set {i : Nat} {x : Str} {e : Expr} {te : TE} {pos' : Pos} (hN : X.N.Nodup) (hi : X.N[i]? = some x) (hx : Loc X.env.scope x) (he : PE X e te) (hs : swapsWith e (some (.Name x pos')) pos.line X.env = pure false := by rfl) (hf : X.fn x = true ∨ X.env.scope.names.lookup x = some .local := by first | exact .inl rfl | exact .inr rfl | assumption) :
    PS X (.Assign [.Name x pos'] e pos) (tAsg te (gName i)) := by
  intro pins s σ H D I h
  refine wpAny_Assign_Name (thn (he pins s σ H _ I h) fun v s1 ⟨y, H1, I1, r1, q1⟩ => ?_) hs
  exact store_ok I1 hN hi hx r1 (fun s2 I2 => ⟨_, H1, I2, q1⟩) hf
end

/-! ### while -/
section
variable {X : Cx} {pos : Pos}
/-- the invariant W with its measure -/
def tWhile (c : TT) (tb : TS) : TS := fun D σ H => ∃ W : Nat → St → Hp → Prop, (∃ m, W m σ H) ∧ ∀ m σ H, W m σ H →
  c σ H fun b H1 => if b = true then ∃ N : St → Hp → Prop, (∀ σ' H', N σ' H' → ∃ m', m' < m ∧ W m' σ' H') ∧ tb { D with nx := N, ct := N, bk := D.nx } σ H1 else D.nx σ H1
theorem ps_while {c : Expr} {body : List Stmt} {tc : TT} {tb : TS} (hp : PassesOwn (model X.prog X.w) X.A X.env X.xe) (hc : PT X c tc) (hb : PSs X body tb) : PS X (.While c body [] pos) (tWhile tc tb) := by
  intro pins s σ H D I h
  obtain ⟨W, ⟨m0, w0⟩, turn⟩ := h
  refine wpAny_While (codeAny_whileLoop (fun n s' => ∃ σ' H', Inv X pins σ' H' s' ∧ W n σ' H') ?_ m0 ⟨σ, H, I, w0⟩)
  rintro n s1 ⟨σ1, H1, I1, w1⟩
  refine wpAny_passesOwn hp (thn (hc pins s1 σ1 H1 _ I1 (turn n σ1 H1 w1)) fun b s2 ⟨H2, I2, q2⟩ => ?_)
  cases b with
  | true =>
    obtain ⟨N, hN, q2⟩ := q2
    rw [if_pos rfl]
    refine wpAny_passesOwn hp (thn (hb pins s2 σ1 H2 _ I2 q2) fun f s3 q3 => ?_)
    cases f with
    | next =>
      obtain ⟨σ3, H3, I3, n3⟩ := q3
      obtain ⟨m', hm, w3⟩ := hN σ3 H3 n3
      exact ⟨m', hm, σ3, H3, I3, w3⟩
    | cont =>
      obtain ⟨σ3, H3, I3, n3⟩ := q3
      obtain ⟨m', hm, w3⟩ := hN σ3 H3 n3
      exact ⟨m', hm, σ3, H3, I3, w3⟩
    | brk => exact q3
    | ret v => exact q3
  | false =>
    rw [if_neg Bool.false_ne_true]
    exact wpAny_execs_nil ⟨σ1, H2, I2, q2⟩
end

/-! ### what a loop or a comprehension walks -/
/-- at turn i: it yields x (the heap may grow), or it stops -/
structure It where
  go : Nat → Hp → Prop
  yld : Nat → Hp → V → Hp → Prop
  stop : Nat → Hp → Prop
/-- the iterator's own objects may turn: they are not the frame's, not pinned, younger than the entry (or a comprehension's own) -/
def FpOk (X : Cx) (pins : List (Addr × Obj)) (H : Hp) (b : Addr) : Prop :=
  H b = none ∧ b ≠ X.env.locals ∧ b ∉ X.fs ∧ (b ∈ X.ex ∨ X.s₀.heap.objs.size ≤ b) ∧ (∀ x c, X.env.cells.lookup x = some c → c ≠ b) ∧ ∀ p ∈ X.pn ++ pins, p.1 ≠ b
theorem Inv.fpOk {X : Cx} {pins : List (Addr × Obj)} {σ : St} {H H' : Hp} {s : Shared} {b : Addr} (I : Inv X pins σ H s) (hb : s.heap.objs.size ≤ b) (hn : H' b = none) : FpOk X pins H' b := by
  refine ⟨hn, Nat.ne_of_gt (Nat.lt_of_lt_of_le I.lt hb), I.nofs hb, .inr (Nat.le_trans I.sz hb), fun x c e z => ?_, fun p hp z => ?_⟩
  · obtain ⟨v, q⟩ := I.cell x c e
    exact absurd (Nat.lt_of_lt_of_le q.lt (by rw [z]; exact hb)) (Nat.lt_irrefl _)
  · exact absurd (Nat.lt_of_lt_of_le (Heap.lt_size (I.pin p hp).1) (by rw [z]; exact hb)) (Nat.lt_irrefl _)
structure Turn (P : Program) (w : World) (K : PySem.W.Frag) (tg : Expr) (J : It) (fp : List Addr) (it : Addr) (tn : Nat → Heap → Prop) : Prop where
  mem : it ∈ fp
  obj : ∀ i h, tn i h → ∀ b ∈ fp, ∃ o, h.get? b = some o ∧ ∀ v, o.data ≠ .cell v
  keep : ∀ i h h', tn i h → (∀ b ∈ fp, ∀ o, h.get? b = some o → h'.get? b = some o) → tn i h'
  item : ∀ (X : Cx), X.prog = P → X.w = w → X.K = K → X.calm = true → ∀ (i : Nat) (pins : List (Addr × Obj)) (s : Shared) (σ : St) (H : Hp) (E : Value → Shared → Prop), Inv X pins σ H s → (∀ b ∈ fp, FpOk X pins H b) → tn i s.heap → J.go i H →
    wpAny (model P w) X.A (pyNext (.ref it)) (fun r s1 => ∃ u, r = some u ∧
      wpAny (model P w) X.A (letOwnedTupleGo tg (.ref it) u) (fun _ s2 => ∃ x H', Inv X pins σ H' s2 ∧ RelV x u ∧ J.yld i H x H' ∧ tn (i + 1) s2.heap ∧ ∀ b ∈ fp, H' b = none) E s1) E s
  done : ∀ (X : Cx), X.prog = P → X.w = w → X.K = K → X.calm = true → ∀ (i : Nat) (pins : List (Addr × Obj)) (s : Shared) (σ : St) (H : Hp) (E : Value → Shared → Prop), Inv X pins σ H s → (∀ b ∈ fp, FpOk X pins H b) → tn i s.heap → J.stop i H →
    wpAny (model P w) X.A (pyNext (.ref it)) (fun r s1 => r = none ∧ Inv X pins σ H s1) E s
  self : ∀ (A : Around) (i : Nat) (s : Shared) (Q : Value → Shared → Prop) (E : Value → Shared → Prop), tn i s.heap → Q (.ref it) s → wpAny (model P w) A (pyIter (.ref it)) Q E s
abbrev TI := St → Hp → (It → Hp → Prop) → Prop
/-- an iterator has come -/
def PIE (X : Cx) (pins : List (Addr × Obj)) (σ : St) (tg : Expr) (R : It → Hp → Prop) (itv : Value) (s2 : Shared) : Prop :=
  ∃ (it : Addr) (fp : List Addr) (tn : Nat → Heap → Prop) (J : It) (H' : Hp), itv = .ref it ∧ Inv X pins σ H' s2 ∧ Turn X.prog X.w X.K tg J fp it tn ∧ tn 0 s2.heap ∧ (∀ b ∈ fp, FpOk X pins H' b) ∧ R J H'
def PI (X : Cx) (tg iter : Expr) (wi : TI) : Prop :=
  ∀ (pins : List (Addr × Obj)) (s : Shared) (σ : St) (H : Hp) (R : It → Hp → Prop), Inv X pins σ H s → wi σ H R →
    wpAny (model X.prog X.w) X.A (eval iter X.env) (fun v s1 => wpAny (model X.prog X.w) X.A (pyIter v) (PIE X pins σ tg R) X.xe s1) X.xe s

/-- the step ahead of the store is nothing for an iterator that keeps no tuple -/
theorem go_of {M : Model} {A : Around} {E : Value → Shared → Prop} {s : Shared} {tg : Expr} {it : Addr} {u : Value} {o : Obj} {n : String} {vs : Array Value} {Q : Unit → Shared → Prop} (ho : s.heap.get? it = some o) (hc : o.cls = .type n) (hd : o.data = .fields vs)
    (hn : ["enumerate", "zip", "dict_itemiterator", "dict_reverseitemiterator", "odict_iterator", "itertools.zip_longest", "itertools.pairwise"].contains n = false) (hQ : Q () s) : wpAny M A (letOwnedTupleGo tg (.ref it) u) Q E s := by
  unfold letOwnedTupleGo
  cases tg <;> first
    | exact wpAny_pure hQ
    | (cases u <;> first
        | exact wpAny_pure hQ
        | (refine wpAny_bind (wpAny_load ho ?_)
           rw [hc, hd]
           show wpAny M A (if (["enumerate", "zip", "dict_itemiterator", "dict_reverseitemiterator", "odict_iterator", "itertools.zip_longest", "itertools.pairwise"].contains n && vs[0]? == some (rawInt _)) = true then _ else _) Q E s
           rw [if_neg (by intro h; rw [hn, Bool.false_and] at h; cases h)]
           exact wpAny_pure hQ))

/-- the list at a, as it stands at each turn (a loop may append to it) -/
def Itl (K : PySem.W.Frag) (a : Addr) : It :=
  ⟨fun i H => ∃ xs x, SqL K H a xs ∧ xs[i]? = some x, fun i H x H' => H' = H ∧ ∀ xs, SqL K H a xs → xs[i]? = some x, fun i H => ∃ xs, SqL K H a xs ∧ xs.length ≤ i⟩
def Itt (K : PySem.W.Frag) (a : Addr) : It :=
  ⟨fun i H => ∃ xs x, SqT K H a xs ∧ xs[i]? = some x, fun i H x H' => H' = H ∧ ∀ xs, SqT K H a xs → xs[i]? = some x, fun i H => ∃ xs, SqT K H a xs ∧ xs.length ≤ i⟩
/-- lo, lo + 1, .. (n of them) -/
def Itr (lo : Int) (n : Nat) : It := ⟨fun i _ => i < n, fun i H x H' => H' = H ∧ x = .int (lo + i), fun i _ => n ≤ i⟩
theorem turn_list {P : Program} {w : World} {K : PySem.W.Frag} {tg : Expr} (a it : Addr) : Turn P w K tg (Itl K a) [it] it (fun i h => h.IsListIter it a i) where
  mem := by simp
  obj := fun i h st b hb => by
    have e : b = it := by simpa using hb
    subst e
    obtain ⟨o, e, c, d⟩ := st
    exact ⟨o, e, fun v z => by rw [d] at z; cases z⟩
  keep := fun i h h' st k => st.at fun o e => k it (by simp) o e
  item := by
    intro X hP hw hK hc i pins s σ H E I hf st hg
    subst hP hw hK
    obtain ⟨xs, x, hq, hx⟩ := hg
    obtain ⟨its, rv, p, hz⟩ := I.list hq
    obtain ⟨u, hu, ru⟩ := rv.get hx
    obtain ⟨f0, f1, f2, f3, f4, f5⟩ := hf it (by simp)
    refine wpAny_pyNext_list_item st p.isList (x := u) (by simpa using hu) fun h' st' sb => ?_
    have I1 : Inv X pins σ H { s with heap := h' } := I.turned (t' := s.toks) (fun b o hb e => (sb.2 b hb).trans e) f0 f1 f3 f4 f5
    obtain ⟨o, e, c, d⟩ := id st'
    exact ⟨u, rfl, go_of (s := { s with heap := h' }) e c d (by decide) ⟨x, H, I1, ru, ⟨rfl, fun ys hy => by rw [I.list_inj hy hq]; exact hx⟩, st', fun b hb => (hf b hb).1⟩⟩
  done := by
    intro X hP hw hK hc i pins s σ H E I hf st hg
    subst hP hw hK
    obtain ⟨xs, hq, hx⟩ := hg
    obtain ⟨its, rv, p, hz⟩ := I.list hq
    obtain ⟨f0, f1, f2, f3, f4, f5⟩ := hf it (by simp)
    have hl := rv.length
    exact wpAny_pyNext_list_end (I.ok.hd hc) st p.isList (by simp; omega) fun h' eb => ⟨rfl, I.turned (t' := s.toks) (fun b o hb e => eb b o hb e) f0 f1 f3 f4 f5⟩
  self := fun _ _ _ _ _ st h => wpAny_pyIter_listiter st h
theorem turn_tuple {P : Program} {w : World} {K : PySem.W.Frag} {tg : Expr} (a it : Addr) : Turn P w K tg (Itt K a) [it] it (fun i h => h.IsTupleIter it a i) where
  mem := by simp
  obj := fun i h st b hb => by
    have e : b = it := by simpa using hb
    subst e
    obtain ⟨o, e, c, d⟩ := st
    exact ⟨o, e, fun v z => by rw [d] at z; cases z⟩
  keep := fun i h h' st k => st.at fun o e => k it (by simp) o e
  item := by
    intro X hP hw hK hc i pins s σ H E I hf st hg
    subst hP hw hK
    obtain ⟨xs, x, hq, hx⟩ := hg
    obtain ⟨its, rv, p, hz⟩ := I.tuple hq
    obtain ⟨u, hu, ru⟩ := rv.get hx
    obtain ⟨f0, f1, f2, f3, f4, f5⟩ := hf it (by simp)
    refine wpAny_pyNext_tuple_item st (show s.heap.IsTuple a its.toArray from p) (x := u) (by simpa using hu) fun h' st' sb => ?_
    have I1 : Inv X pins σ H { s with heap := h' } := I.turned (t' := s.toks) (fun b o hb e => (sb.2 b hb).trans e) f0 f1 f3 f4 f5
    obtain ⟨o, e, c, d⟩ := id st'
    exact ⟨u, rfl, go_of (s := { s with heap := h' }) e c d (by decide) ⟨x, H, I1, ru, ⟨rfl, fun ys hy => by rw [I.tuple_inj hy hq]; exact hx⟩, st', fun b hb => (hf b hb).1⟩⟩
  done := by
    intro X hP hw hK hc i pins s σ H E I hf st hg
    subst hP hw hK
    obtain ⟨xs, hq, hx⟩ := hg
    obtain ⟨its, rv, p, hz⟩ := I.tuple hq
    obtain ⟨f0, f1, f2, f3, f4, f5⟩ := hf it (by simp)
    have hl := rv.length
    exact wpAny_pyNext_tuple_end (I.ok.hd hc) st (show s.heap.IsTuple a its.toArray from p) (by simp; omega) fun h' eb => ⟨rfl, I.turned (t' := s.toks) (fun b o hb e => eb b o hb e) f0 f1 f3 f4 f5⟩
  self := fun _ _ _ _ _ st h => wpAny_pyIter_tupleiter st h
theorem turn_range {P : Program} {w : World} {K : PySem.W.Frag} {tg : Expr} (it : Addr) (lo : Int) (n : Nat) : Turn P w K tg (Itr lo n) [it] it (fun i h => IsRangeIter h it (lo + (i : Nat) * 1) ((n : Int) - (i : Nat)) 1) where
  mem := by simp
  obj := fun i h st b hb => by
    have e : b = it := by simpa using hb
    subst e
    exact ⟨_, st, fun v z => by
      have z' : Data.fields _ = Data.cell v := z
      cases z'⟩
  keep := fun i h h' st k => k it (by simp) _ st
  item := by
    intro X hP hw hK hc i pins s σ H E I hf st hg
    subst hP hw hK
    obtain ⟨f0, f1, f2, f3, f4, f5⟩ := hf it (by simp)
    have W := Walks.range (prog := X.prog) (w := X.w) (I.ok.hd hc) it lo 1 n
    refine W.item i s _ _ hg st fun v h' tk hv st' kk => ?_
    obtain ⟨t, rfl⟩ := hv
    have I1 : Inv X pins σ H { s with heap := h', toks := tk } := I.turned (fun b o hb e => kk b o (by simpa using hb) e) f0 f1 f3 f4 f5
    refine ⟨_, rfl, go_of (s := { s with heap := h', toks := tk }) (n := "range_iterator") st' rfl rfl (by decide) ⟨.int (lo + i), H, I1, ⟨t, ?_⟩, ⟨rfl, rfl⟩, st', fun b hb => (hf b hb).1⟩⟩
    rw [Int.mul_one]
  done := by
    intro X hP hw hK hc i pins s σ H E I hf st hg
    subst hP hw hK
    obtain ⟨f0, f1, f2, f3, f4, f5⟩ := hf it (by simp)
    exact wpAny_pyNext_range_end (I.ok.hd hc) st (by have : n ≤ i := hg; omega) fun h' eb => ⟨rfl, I.turned (t' := s.toks) (fun b o hb e => eb b o hb e) f0 f1 f3 f4 f5⟩
  self := fun _ _ _ _ _ st h => wpAny_pyIter_rangeiter st h
end L2

namespace L2
open PySem PySem.Spec PyProof.Rows
section
variable {X : Cx} {tg : Expr}
def iList (K : PySem.W.Frag) (tl : TE) : TI := fun σ H R => tl σ H fun x H1 => ∃ a, x = .ref a ∧ (∃ xs, SqL K H1 a xs) ∧ R (Itl K a) H1
def iTup (K : PySem.W.Frag) (tl : TE) : TI := fun σ H R => tl σ H fun x H1 => ∃ a, x = .ref a ∧ (∃ xs, SqT K H1 a xs) ∧ R (Itt K a) H1
theorem pi_list {l : Expr} {tl : TE} (hl : PE X l tl) : PI X tg l (iList X.K tl) := by
  intro pins s σ H R I h
  refine thn (hl pins s σ H _ I h) fun v s1 ⟨x, H1, I1, r1, q1⟩ => ?_
  obtain ⟨a, e, ⟨xs, hq⟩, q⟩ := q1
  subst e
  cases r1
  obtain ⟨its, rv, p, hz⟩ := I1.list hq
  refine wpAny_pyIter_list p.isList ?_
  refine ⟨s1.heap.objs.size, [s1.heap.objs.size], _, _, H1, rfl, I1.kept (t' := s1.toks) fun b o e => Heap.get?_push_of_some _ e, turn_list a _, ⟨_, Heap.get?_push_size _ rfl, rfl, rfl⟩, fun b hb => ?_, q⟩
  have e : b = s1.heap.objs.size := by simpa using hb
  subst e
  exact I1.fpOk (Nat.le_refl _) (I1.hok.fresh (Nat.le_refl _))
theorem pi_tup {l : Expr} {tl : TE} (hl : PE X l tl) : PI X tg l (iTup X.K tl) := by
  intro pins s σ H R I h
  refine thn (hl pins s σ H _ I h) fun v s1 ⟨x, H1, I1, r1, q1⟩ => ?_
  obtain ⟨a, e, ⟨xs, hq⟩, q⟩ := q1
  subst e
  cases r1
  obtain ⟨its, rv, p, hz⟩ := I1.tuple hq
  refine wpAny_pyIter_tuple (show s1.heap.IsTuple a its.toArray from p) ?_
  refine ⟨s1.heap.objs.size, [s1.heap.objs.size], _, _, H1, rfl, I1.kept (t' := s1.toks) fun b o e => Heap.get?_push_of_some _ e, turn_tuple a _, ⟨_, Heap.get?_push_size _ rfl, rfl, rfl⟩, fun b hb => ?_, q⟩
  have e : b = s1.heap.objs.size := by simpa using hb
  subst e
  exact I1.fpOk (Nat.le_refl _) (I1.hok.fresh (Nat.le_refl _))
/-- a range object just made, walked -/
theorem range_it {pins : List (Addr × Obj)} {σ : St} {H : Hp} {s : Shared} {R : It → Hp → Prop} {E : Value → Shared → Prop} {lo hi : Int} {t u v : Tok} {tk : Nat} (I : Inv X pins σ H s) (h1 : -(2 ^ 62) ≤ lo) (h2 : lo < 2 ^ 62) (h3 : -(2 ^ 62) ≤ hi) (h4 : hi < 2 ^ 62)
    (q : R (Itr lo (hi - lo).toNat) H) : wpAny (model X.prog X.w) X.A (pyIter (.ref s.heap.objs.size)) (PIE X pins σ tg R) E { s with heap := s.heap.push { cls := .type "range", data := .fields #[.int lo t, .int hi u, .int 1 v] }, toks := tk } := by
  refine wpAny_pyIter_range (IsRange.new ..) (small_one h1 h2 h3 h4) ?_
  have I1 : Inv X pins σ H { s with heap := s.heap.push { cls := .type "range", data := .fields #[.int lo t, .int hi u, .int 1 v] }, toks := tk } := I.kept fun b o e => Heap.get?_push_of_some _ e
  refine ⟨(s.heap.push { cls := .type "range", data := .fields #[.int lo t, .int hi u, .int 1 v] }).objs.size, [(s.heap.push { cls := .type "range", data := .fields #[.int lo t, .int hi u, .int 1 v] }).objs.size], _, _, H, rfl,
    I1.kept (t' := tk) fun b o e => Heap.get?_push_of_some _ e, turn_range _ lo (hi - lo).toNat, ?_, fun b hb => ?_, q⟩
  · have e1 : lo + ((0 : Nat) : Int) * 1 = lo := by simp
    have e2 : (((hi - lo).toNat : Nat) : Int) - ((0 : Nat) : Int) = Builtin.Range.rangeSize lo hi 1 := by rw [rangeSize_one]; split <;> omega
    show IsRangeIter _ _ (lo + ((0 : Nat) : Int) * 1) ((((hi - lo).toNat : Nat) : Int) - ((0 : Nat) : Int)) 1
    rw [e1, e2]
    exact Heap.get?_push_size _ rfl
  · have e : b = (s.heap.push { cls := .type "range", data := .fields #[.int lo t, .int hi u, .int 1 v] }).objs.size := by simpa using hb
    subst e
    exact I1.fpOk (Nat.le_refl _) (I1.hok.fresh (Nat.le_refl _))
def iRng1 (ta : TA) : TI := fun σ H R => ta σ H fun vs H1 => ∃ j : Int, vs = [.int j] ∧ -(2 ^ 62) ≤ j ∧ j < 2 ^ 62 ∧ R (Itr 0 j.toNat) H1
theorem pi_range1 {a : Expr} {ta : TA} {p pos : Pos} (hg : Gl X "range") (hm : X.mg "range" = none) (ha : PA X [a] ta) (hs : starEach [a] X.env = [(false, eval a X.env)] := by rfl) : PI X tg (.Call (.Name "range" p) [a] [] pos) (iRng1 ta) := by
  intro pins s σ H R I h
  refine Call_ (ld_blt I hg hm boot_range (PyProof.Rows.callWith_type1 (thn (ha pos pins s σ H _ I h) fun us s1 ⟨vs, H1, I1, r1, q1⟩ => ?_) hs rfl))
  obtain ⟨j, e, q1, q2, q⟩ := q1
  subst e
  cases r1 with
  | cons r rr =>
    cases rr
    obtain ⟨t, rfl⟩ := r
    exact call_range_1 (range_it I1 (by omega) (by omega) q1 q2 (by simpa using q))

/-! ### for -/
/-- W: the invariant by the turn and a measure; N: what the body is to reach -/
def tFor (wi : TI) (g : TG) (tb : TS) : TS := fun D σ H => wi σ H fun J H1 => ∃ W : Nat → Nat → St → Hp → Prop, (∃ m, W 0 m σ H1) ∧ ∀ i m σ H, W i m σ H →
  (J.stop i H ∧ D.nx σ H) ∨ (J.go i H ∧ ∃ N : St → Hp → Prop, (∀ σ' H', N σ' H' → ∃ m', m' < m ∧ W (i + 1) m' σ' H') ∧ ∀ x H', J.yld i H x H' → g x σ H' fun σ2 H2 => tb { D with nx := N, ct := N, bk := D.nx } σ2 H2)
/-- the records at fp as they stand -/
def pinsAt (fp : List Addr) (h : Heap) : List (Addr × Obj) := fp.filterMap fun b => (h.get? b).map fun o => (b, o)
theorem mem_pinsAt {fp : List Addr} {h : Heap} {b : Addr} {o : Obj} (hb : b ∈ fp) (e : h.get? b = some o) : (b, o) ∈ pinsAt fp h := List.mem_filterMap.mpr ⟨b, hb, by rw [e]; rfl⟩
theorem of_pinsAt {fp : List Addr} {h : Heap} {p : Addr × Obj} (hp : p ∈ pinsAt fp h) : p.1 ∈ fp ∧ h.get? p.1 = some p.2 := by
  obtain ⟨b, hb, e⟩ := List.mem_filterMap.mp hp
  cases q : h.get? b with
  | none => rw [q] at e; cases e
  | some o =>
    rw [q] at e
    have e' : (b, o) = p := Option.some.inj e
    subst e'
    exact ⟨hb, q⟩
theorem Inv.pinned {pins : List (Addr × Obj)} {σ : St} {H : Hp} {s : Shared} {fp : List Addr} (I : Inv X pins σ H s) (hf : ∀ b ∈ fp, FpOk X pins H b) (ho : ∀ b ∈ fp, ∃ o, s.heap.get? b = some o ∧ ∀ v, o.data ≠ .cell v) : Inv X (pins ++ pinsAt fp s.heap) σ H s :=
  I.pins_of fun p hp => (List.mem_append.mp hp).elim (fun z => I.pin p (List.mem_append_right _ z)) fun z => by
    obtain ⟨hb, e⟩ := of_pinsAt z
    obtain ⟨f0, f1, f2, _⟩ := hf p.1 hb
    obtain ⟨o, e', d⟩ := ho p.1 hb
    rw [e] at e'; cases e'
    exact ⟨e, f0, f1, f2, d⟩
theorem Inv.unpinned {pins pl : List (Addr × Obj)} {σ : St} {H : Hp} {s : Shared} (I : Inv X (pins ++ pl) σ H s) : Inv X pins σ H s := I.pins_of fun p hp => I.pin p (List.mem_append_right _ (List.mem_append_left _ hp))
theorem ps_for {iter : Expr} {body : List Stmt} {wi : TI} {g : TG} {tb : TS} {pos : Pos} (hp : PassesOwn (model X.prog X.w) X.A X.env X.xe) (hc : X.calm = true) (hi : PI X tg iter wi) (hg : PG X tg g) (hb : PSs X body tb)
    (hs : ∀ x, foldedSetIterable iter X.env x = pure x := by intro _; rfl) : PS X (.For tg iter body [] pos) (tFor wi g tb) := by
  intro pins s σ H D I h
  refine wpAny_For (thn (hi pins s σ H _ I h) fun v s1 h1 => thn h1 fun itv s2 h2 => ?_) hs
  obtain ⟨it, fp, tn, J, H2, e, I2, T, st2, f2, W, ⟨m0, w0⟩, turn⟩ := h2
  subst e
  -- what stays true of the iterator's objects through the loop
  have stat : ∀ {H' : Hp}, (∀ b ∈ fp, H' b = none) → ∀ b ∈ fp, FpOk X pins H' b := fun hn b hb => ⟨hn b hb, (f2 b hb).2⟩
  refine codeAny_forLoop_any (fun n s' => ∃ i σ' H', Inv X pins σ' H' s' ∧ tn i s'.heap ∧ (∀ b ∈ fp, H' b = none) ∧ W i n σ' H') ?_ m0 ⟨0, σ, H2, I2, st2, fun b hb => (f2 b hb).1, w0⟩
  rintro n s3 ⟨i, σ3, H3, I3, st3, fr3, w3⟩
  rcases turn i n σ3 H3 w3 with ⟨stop, qn⟩ | ⟨go, N, hN, step⟩
  · refine wpAny_passesOwn hp (thn (T.done X rfl rfl rfl hc i pins s3 σ3 H3 X.xe I3 (stat fr3) st3 stop) fun r s4 ⟨hr, I4⟩ => ?_)
    subst hr
    exact wpAny_execs_nil ⟨σ3, H3, I4, qn⟩
  · refine wpAny_passesOwn hp (thn (T.item X rfl rfl rfl hc i pins s3 σ3 H3 X.xe I3 (stat fr3) st3 go) fun r s4 ⟨u, hr, h4⟩ => ?_)
    subst hr
    refine wpAny_passesOwn hp (thn h4 fun _ s5 ⟨x, H5, I5, r5, y5, st5, fr5⟩ => ?_)
    have I5' := I5.pinned (stat fr5) (T.obj _ _ st5)
    refine wpAny_passesOwn hp (thn (hg _ s5 σ3 H5 x u _ I5' r5 (step x H5 y5)) fun _ s6 ⟨σ6, H6, I6, q6⟩ => ?_)
    refine wpAny_passesOwn hp (thn (hb _ s6 σ6 H6 _ I6 q6) fun f s7 q7 => ?_)
    have again : ∀ {σ7 : St} {H7 : Hp}, Inv X (pins ++ pinsAt fp s5.heap) σ7 H7 s7 → N σ7 H7 → ∃ m, m < n ∧ ∃ i σ' H', Inv X pins σ' H' s7 ∧ tn i s7.heap ∧ (∀ b ∈ fp, H' b = none) ∧ W i m σ' H' := fun {σ7 H7} I7 n7 => by
      obtain ⟨m', hm, w7⟩ := hN σ7 H7 n7
      refine ⟨m', hm, i + 1, σ7, H7, I7.unpinned, T.keep _ _ _ st5 fun b hb o e => (I7.pin (b, o) (List.mem_append_right _ (List.mem_append_right _ (mem_pinsAt hb e)))).1, fun b hb => ?_, w7⟩
      obtain ⟨o, e, d⟩ := T.obj _ _ st5 b hb
      exact (I7.pin (b, o) (List.mem_append_right _ (List.mem_append_right _ (mem_pinsAt hb e)))).2.1
    cases f with
    | next => obtain ⟨σ7, H7, I7, n7⟩ := q7; exact again I7 n7
    | cont => obtain ⟨σ7, H7, I7, n7⟩ := q7; exact again I7 n7
    | brk => obtain ⟨σ7, H7, I7, q7⟩ := q7; exact ⟨σ7, H7, I7.unpinned, q7⟩
    | ret v => obtain ⟨x7, σ7, H7, I7, r7, q7⟩ := q7; exact ⟨x7, σ7, H7, I7.unpinned, r7, q7⟩
end

/-! ### the forms one uses -/
/-- over a list that the body leaves as it is -/
theorem for_list {K : PySem.W.Frag} {a : Addr} {xs : List V} {g : TG} {tb : TS} {D : Ends} {σ : St} {H : Hp} (Pv : Nat → St → Hp → Prop) (h0 : Pv 0 σ H) (hl : ∀ i σ H, i ≤ xs.length → Pv i σ H → SqL K H a xs)
    (hs : ∀ i x σ H, xs[i]? = some x → Pv i σ H → g x σ H fun σ2 H2 => tb { D with nx := Pv (i + 1), ct := Pv (i + 1), bk := D.nx } σ2 H2) (hd : ∀ σ H, Pv xs.length σ H → D.nx σ H) :
    ∃ W : Nat → Nat → St → Hp → Prop, (∃ m, W 0 m σ H) ∧ ∀ i m σ H, W i m σ H →
      ((Itl K a).stop i H ∧ D.nx σ H) ∨ ((Itl K a).go i H ∧ ∃ N : St → Hp → Prop, (∀ σ' H', N σ' H' → ∃ m', m' < m ∧ W (i + 1) m' σ' H') ∧ ∀ x H', (Itl K a).yld i H x H' → g x σ H' fun σ2 H2 => tb { D with nx := N, ct := N, bk := D.nx } σ2 H2) := by
  refine ⟨fun i m σ H => m = xs.length - i ∧ i ≤ xs.length ∧ Pv i σ H, ⟨xs.length, by simp, Nat.zero_le _, h0⟩, ?_⟩
  rintro i m σ H ⟨rfl, hi, p⟩
  have q := hl i σ H hi p
  by_cases hlt : i < xs.length
  · refine .inr ⟨⟨xs, xs[i], q, by simp [hlt]⟩, Pv (i + 1), fun σ' H' p' => ⟨xs.length - (i + 1), by omega, rfl, hlt, p'⟩, fun x H' y => ?_⟩
    obtain ⟨e, y⟩ := y
    subst e
    exact hs i x σ _ (y xs q) p
  · have e : i = xs.length := by omega
    subst e
    exact .inl ⟨⟨xs, q, Nat.le_refl _⟩, hd σ H p⟩
theorem for_range {lo : Int} {n : Nat} {g : TG} {tb : TS} {D : Ends} {σ : St} {H : Hp} (Pv : Nat → St → Hp → Prop) (h0 : Pv 0 σ H)
    (hs : ∀ i σ H, i < n → Pv i σ H → g (.int (lo + i)) σ H fun σ2 H2 => tb { D with nx := Pv (i + 1), ct := Pv (i + 1), bk := D.nx } σ2 H2) (hd : ∀ σ H, Pv n σ H → D.nx σ H) :
    ∃ W : Nat → Nat → St → Hp → Prop, (∃ m, W 0 m σ H) ∧ ∀ i m σ H, W i m σ H →
      ((Itr lo n).stop i H ∧ D.nx σ H) ∨ ((Itr lo n).go i H ∧ ∃ N : St → Hp → Prop, (∀ σ' H', N σ' H' → ∃ m', m' < m ∧ W (i + 1) m' σ' H') ∧ ∀ x H', (Itr lo n).yld i H x H' → g x σ H' fun σ2 H2 => tb { D with nx := N, ct := N, bk := D.nx } σ2 H2) := by
  refine ⟨fun i m σ H => m = n - i ∧ i ≤ n ∧ Pv i σ H, ⟨n, by simp, Nat.zero_le _, h0⟩, ?_⟩
  rintro i m σ H ⟨rfl, hi, p⟩
  by_cases hlt : i < n
  · refine .inr ⟨hlt, Pv (i + 1), fun σ' H' p' => ⟨n - (i + 1), by omega, rfl, hlt, p'⟩, fun x H' y => ?_⟩
    obtain ⟨e, y⟩ := y
    subst e y
    exact hs i σ _ hlt p
  · have e : i = n := by omega
    subst e
    exact .inl ⟨Nat.le_refl _, hd σ H p⟩
end L2

namespace L2
open PySem PySem.Spec PyProof.Rows

abbrev R2 := V → V → Hp → VK → Prop
/-- a two-place operation on values: f is binaryOp op, inplaceOp op or compareOp op -/
def OpR (X : Cx) (f : Value → Value → Sem Value) (r : R2) : Prop :=
  ∀ (pins : List (Addr × Obj)) (s : Shared) (σ : St) (H : Hp) (x y : V) (v u : Value) (Q : VK), Inv X pins σ H s → RelV x v → RelV y u → r x y H Q →
    wpAny (model X.prog X.w) X.A (f v u) (EP X pins σ Q) X.xe s
/-- a one-place operation -/
def UnR (X : Cx) (f : Value → Sem Value) (r : V → Hp → VK → Prop) : Prop :=
  ∀ (pins : List (Addr × Obj)) (s : Shared) (σ : St) (H : Hp) (x : V) (v : Value) (Q : VK), Inv X pins σ H s → RelV x v → r x H Q →
    wpAny (model X.prog X.w) X.A (f v) (EP X pins σ Q) X.xe s
/-- a call of a value that is known (a builtin, a type) with values -/
def CallR (X : Cx) (f : Value) (r : List V → Hp → VK → Prop) : Prop :=
  ∀ (pins : List (Addr × Obj)) (s : Shared) (σ : St) (H : Hp) (xs : List V) (us : List Value) (Q : VK), Inv X pins σ H s → Vals xs us → r xs H Q →
    wpAny (model X.prog X.w) X.A (call f us) (EP X pins σ Q) X.xe s

def tOp (r : R2) (ta tb : TE) : TE := fun σ H Q => ta σ H fun x H1 => tb σ H1 fun y H2 => r x y H2 Q
def tUn (r : V → Hp → VK → Prop) (ta : TE) : TE := fun σ H Q => ta σ H fun x H1 => r x H1 Q
/-- ints in, under C, and a value out -/
def rI (C : Int → Int → Prop) (g : Int → Int → V) : R2 := fun x y H Q => ∃ i j, x = .int i ∧ y = .int j ∧ C i j ∧ Q (g i j) H
def rI0 (g : Int → Int → V) : R2 := fun x y H Q => ∃ i j, x = .int i ∧ y = .int j ∧ Q (g i j) H
def rU (g : Int → V) : V → Hp → VK → Prop := fun x H Q => ∃ i, x = .int i ∧ Q (g i) H

section
variable {X : Cx} {a b c : Expr} {ta tb tc : TE} {pos : Pos}

theorem binT (ha : PE X a ta) (hb : PE X b tb) {pins : List (Addr × Obj)} {s : Shared} {σ : St} {H : Hp} {R : V → V → Hp → Prop} (I : Inv X pins σ H s)
    (h : ta σ H fun x H1 => tb σ H1 fun y H2 => R x y H2) {Q : Value → Shared → Prop} {f : Value → Value → Sem Value}
    (hf : ∀ v u s2 x y H2, Inv X pins σ H2 s2 → RelV x v → RelV y u → R x y H2 → wpAny (model X.prog X.w) X.A (f v u) Q X.xe s2) :
    wpAny (model X.prog X.w) X.A (eval a X.env) (fun v s₁ => wpAny (model X.prog X.w) X.A (eval b X.env) (fun u s₂ => wpAny (model X.prog X.w) X.A (f v u) Q X.xe s₂) X.xe s₁) X.xe s := by
  refine thn (ha pins s σ H _ I h) fun v s1 ⟨x, H1, I1, r1, q1⟩ => ?_
  refine thn (hb pins s1 σ H1 _ I1 q1) fun u s2 ⟨y, H2, I2, r2, q2⟩ => ?_
  exact hf v u s2 x y H2 I2 r1 r2 q2

theorem pe_op {op : Operator} {r : R2} (ho : OpR X (binaryOp op) r) (ha : PE X a ta) (hb : PE X b tb) : PE X (.BinOp a op b pos) (tOp r ta tb) := by
  intro pins s σ H Q I h
  exact wpAny_BinOp (binT ha hb I h fun v u s2 x y H2 I2 rx ry q => ho pins s2 σ H2 x y v u Q I2 rx ry q)
theorem pe_un {op : UnaryOp} {r : V → Hp → VK → Prop} (ho : UnR X (unaryOp op) r) (ha : PE X a ta) : PE X (.UnaryOp op a pos) (tUn r ta) := by
  intro pins s σ H Q I h
  exact UnaryOp_ (thn (ha pins s σ H _ I h) fun v s1 ⟨x, H1, I1, r1, q1⟩ => ho pins s1 σ H1 x v Q I1 r1 q1)

/-! ### ints -/
theorem opI {f : Value → Value → Sem Value} {C : Int → Int → Prop} {g : Int → Int → Int}
    (rule : ∀ (i j : Int) (t u : Tok) (s : Shared) (Q : Value → Shared → Prop) (E : Value → Shared → Prop), C i j → Q (.int (g i j) s.toks) { s with toks := s.toks + 1 } → wpAny (model X.prog X.w) X.A (f (.int i t) (.int j u)) Q E s) :
    OpR X f (rI C fun i j => .int (g i j)) := by
  intro pins s σ H x y v u Q I rx ry h
  obtain ⟨i, j, rfl, rfl, hc, q⟩ := h
  obtain ⟨t, rfl⟩ := rx
  obtain ⟨t', rfl⟩ := ry
  exact rule i j t t' s _ _ hc ⟨.int (g i j), H, I.tok _, ⟨_, rfl⟩, q⟩
theorem opI0 {f : Value → Value → Sem Value} {g : Int → Int → Int}
    (rule : ∀ (i j : Int) (t u : Tok) (s : Shared) (Q : Value → Shared → Prop) (E : Value → Shared → Prop), Q (.int (g i j) s.toks) { s with toks := s.toks + 1 } → wpAny (model X.prog X.w) X.A (f (.int i t) (.int j u)) Q E s) :
    OpR X f (rI0 fun i j => .int (g i j)) := by
  intro pins s σ H x y v u Q I rx ry h
  obtain ⟨i, j, rfl, rfl, q⟩ := h
  obtain ⟨t, rfl⟩ := rx
  obtain ⟨t', rfl⟩ := ry
  exact rule i j t t' s _ _ ⟨.int (g i j), H, I.tok _, ⟨_, rfl⟩, q⟩
theorem opB0 {f : Value → Value → Sem Value} {g : Int → Int → Bool}
    (rule : ∀ (i j : Int) (t u : Tok) (s : Shared) (Q : Value → Shared → Prop) (E : Value → Shared → Prop), Q (.bool (g i j)) s → wpAny (model X.prog X.w) X.A (f (.int i t) (.int j u)) Q E s) :
    OpR X f (rI0 fun i j => .bl (g i j)) := by
  intro pins s σ H x y v u Q I rx ry h
  obtain ⟨i, j, rfl, rfl, q⟩ := h
  obtain ⟨t, rfl⟩ := rx
  obtain ⟨t', rfl⟩ := ry
  exact rule i j t t' s _ _ ⟨.bl (g i j), H, I, rfl, q⟩

def CPow (i j : Int) : Prop := 0 ≤ j ∧ j ≤ 1000000 ∧ i.natAbs < 2 ^ 64
def CMul (i j : Int) : Prop := (-(2 ^ 64) < i ∧ i < 2 ^ 64) ∨ (-(2 ^ 64) < j ∧ j < 2 ^ 64)
theorem CMul.ok {i j : Int} (h : CMul i j) : IntMulOk i j := by
  rcases h with ⟨h1, h2⟩ | ⟨h1, h2⟩
  · exact .of_left (intBits_le_64 h1 h2)
  · exact .of_right (intBits_le_64 h1 h2)

theorem op_add : OpR X (binaryOp .Add) (rI0 fun i j => .int (i + j)) := opI0 fun _ _ _ _ _ _ _ q => add_int q
theorem op_sub : OpR X (binaryOp .Sub) (rI0 fun i j => .int (i - j)) := opI0 fun _ _ _ _ _ _ _ q => sub_int q
theorem op_mul : OpR X (binaryOp .Mult) (rI CMul fun i j => .int (i * j)) := opI fun _ _ _ _ _ _ _ hc q => mul_int q hc.ok
/-- % by a positive divisor of any size -/
theorem op_mod : OpR X (binaryOp .Mod) (rI (fun _ j => 0 < j) fun i j => .int (i % j)) := opI fun i j _ _ _ _ _ hc q => by
  have h1 : (0 : Int) < j := hc
  exact mod_int' (by omega) (by rw [Int.fmod_eq_emod_of_nonneg i (by omega)]; exact q)
theorem op_pow : OpR X (binaryOp .Pow) (rI CPow fun i j => .int (i ^ j.toNat)) := opI fun _ _ _ _ _ _ _ hc q => pow_int_small hc.1 hc.2.1 hc.2.2 q


theorem unI {f : Value → Sem Value} {g : Int → Int}
    (rule : ∀ (i : Int) (t : Tok) (s : Shared) (Q : Value → Shared → Prop) (E : Value → Shared → Prop), Q (.int (g i) s.toks) { s with toks := s.toks + 1 } → wpAny (model X.prog X.w) X.A (f (.int i t)) Q E s) :
    UnR X f (rU fun i => .int (g i)) := by
  intro pins s σ H x v Q I rx h
  obtain ⟨i, rfl, q⟩ := h
  obtain ⟨t, rfl⟩ := rx
  exact rule i t s _ _ ⟨.int (g i), H, I.tok _, ⟨_, rfl⟩, q⟩
theorem un_neg : UnR X (unaryOp .USub) (rU fun i => .int (-i)) := unI fun _ _ _ _ _ q => neg_int q

/-! ### bools among ints: n += (a < b) -/
end

/-! ### comparisons -/
/-- the scalars that == tells apart as data does -/
def scal : V → V → Bool
  | .non, .non => true | .non, .int _ => true | .int _, .non => true | .non, .bl _ => true | .bl _, .non => true | .non, .str _ => true | .str _, .non => true
  | .int _, .int _ => true | .bl _, .bl _ => true | .str _, .str _ => true | .byt _, .byt _ => true
  | .int _, .str _ => true | .str _, .int _ => true | .bl _, .str _ => true | .str _, .bl _ => true
  | _, _ => false
def rEq : R2 := fun x y H Q => scal x y = true ∧ Q (.bl (decide (x = y))) H
def rNe : R2 := fun x y H Q => scal x y = true ∧ Q (.bl (!decide (x = y))) H

theorem dec_int {i j : Int} : decide (V.int i = V.int j) = (i == j) := by
  rw [Bool.eq_iff_iff]
  simp
theorem dec_bl {i j : Bool} : decide (V.bl i = V.bl j) = (i == j) := by
  rw [Bool.eq_iff_iff]
  simp
theorem dec_str {i j : Str} : decide (V.str i = V.str j) = (i == j) := by
  rw [Bool.eq_iff_iff]
  simp
theorem dec_byt {i j : Array UInt8} : decide (V.byt i = V.byt j) = (i.toList == j.toList) := by
  rw [Bool.eq_iff_iff]
  cases i
  cases j
  simp

section
variable {X : Cx} {a b c : Expr} {ta tb tc : TE} {pos : Pos}
theorem fin_bl {pins : List (Addr × Obj)} {σ : St} {H : Hp} {s : Shared} {Q : VK} {k k' : Bool} (I : Inv X pins σ H s) (q : Q (.bl k) H) (e : k = k') : EP X pins σ Q (.bool k') s := by
  subst e
  exact ⟨.bl k, H, I, rfl, q⟩
theorem op_eq : OpR X (compareOp .Eq) rEq := by
  intro pins s σ H x y v u Q I rx ry h
  obtain ⟨hs, q⟩ := h
  cases x with
  | non =>
    cases rx
    cases y with
    | non => cases ry; exact PySem.EqNone.eq_none_none (fin_bl I q (by simp))
    | bl j => cases ry; exact PySem.EqNone.eq_none_bool (fin_bl I q (by simp))
    | int j => obtain ⟨t', rfl⟩ := ry; exact PySem.EqNone.eq_none_int (fin_bl I q (by simp))
    | str j => obtain ⟨t', rfl⟩ := ry; exact PySem.EqNone.eq_none_str (fin_bl I q (by simp))
    | _ => exact absurd (show false = true from hs) Bool.false_ne_true
  | bl i =>
    cases rx
    cases y with
    | non => cases ry; exact PySem.EqNone.eq_bool_none (fin_bl I q (by simp))
    | bl j => cases ry; exact eq_bool (fin_bl I q dec_bl)
    | str j => obtain ⟨t', rfl⟩ := ry; exact PySem.EqMixed.eq_bool_str (fin_bl I q (by simp))
    | _ => exact absurd (show false = true from hs) Bool.false_ne_true
  | int i =>
    obtain ⟨t, rfl⟩ := rx
    cases y with
    | non => cases ry; exact PySem.EqNone.eq_int_none (fin_bl I q (by simp))
    | int j => obtain ⟨t', rfl⟩ := ry; exact eq_int (fin_bl I q dec_int)
    | str j => obtain ⟨t', rfl⟩ := ry; exact PySem.EqMixed.eq_int_str (fin_bl I q (by simp))
    | _ => exact absurd (show false = true from hs) Bool.false_ne_true
  | str i =>
    obtain ⟨t, rfl⟩ := rx
    cases y with
    | non => cases ry; exact PySem.EqNone.eq_str_none (fin_bl I q (by simp))
    | bl j => cases ry; exact PySem.EqMixed.eq_str_bool (fin_bl I q (by simp))
    | int j => obtain ⟨t', rfl⟩ := ry; exact PySem.EqMixed.eq_str_int (fin_bl I q (by simp))
    | str j => obtain ⟨t', rfl⟩ := ry; exact eq_str (fin_bl I q dec_str)
    | _ => exact absurd (show false = true from hs) Bool.false_ne_true
  | byt i =>
    obtain ⟨t, rfl⟩ := rx
    cases y with
    | byt j => obtain ⟨t', rfl⟩ := ry; exact PySem.W.eq_bytes (fin_bl I q dec_byt)
    | _ => exact absurd (show false = true from hs) Bool.false_ne_true
  | _ => cases y <;> exact absurd (show false = true from hs) Bool.false_ne_true
theorem op_ne : OpR X (compareOp .NotEq) rNe := by
  intro pins s σ H x y v u Q I rx ry h
  obtain ⟨hs, q⟩ := h
  cases x with
  | non =>
    cases rx
    cases y with
    | non => cases ry; exact PySem.EqNone.ne_none_none (fin_bl I q (by simp))
    | bl j => cases ry; exact PySem.EqNone.ne_none_bool (fin_bl I q (by simp))
    | int j => obtain ⟨t', rfl⟩ := ry; exact PySem.EqNone.ne_none_int (fin_bl I q (by simp))
    | str j => obtain ⟨t', rfl⟩ := ry; exact PySem.EqNone.ne_none_str (fin_bl I q (by simp))
    | _ => exact absurd (show false = true from hs) Bool.false_ne_true
  | bl i =>
    cases rx
    cases y with
    | non => cases ry; exact PySem.EqNone.ne_bool_none (fin_bl I q (by simp))
    | bl j => cases ry; exact ne_bool (fin_bl I q (congrArg not dec_bl))
    | str j => obtain ⟨t', rfl⟩ := ry; exact PySem.EqMixed.ne_bool_str (fin_bl I q (by simp))
    | _ => exact absurd (show false = true from hs) Bool.false_ne_true
  | int i =>
    obtain ⟨t, rfl⟩ := rx
    cases y with
    | non => cases ry; exact PySem.EqNone.ne_int_none (fin_bl I q (by simp))
    | int j => obtain ⟨t', rfl⟩ := ry; exact ne_int (fin_bl I q (congrArg not dec_int))
    | str j => obtain ⟨t', rfl⟩ := ry; exact PySem.EqMixed.ne_int_str (fin_bl I q (by simp))
    | _ => exact absurd (show false = true from hs) Bool.false_ne_true
  | str i =>
    obtain ⟨t, rfl⟩ := rx
    cases y with
    | non => cases ry; exact PySem.EqNone.ne_str_none (fin_bl I q (by simp))
    | bl j => cases ry; exact PySem.EqMixed.ne_str_bool (fin_bl I q (by simp))
    | int j => obtain ⟨t', rfl⟩ := ry; exact PySem.EqMixed.ne_str_int (fin_bl I q (by simp))
    | str j => obtain ⟨t', rfl⟩ := ry; exact ne_str (fin_bl I q (congrArg not dec_str))
    | _ => exact absurd (show false = true from hs) Bool.false_ne_true
  | byt i =>
    obtain ⟨t, rfl⟩ := rx
    cases y with
    | byt j => obtain ⟨t', rfl⟩ := ry; exact PySem.W.ne_bytes (fin_bl I q (congrArg not dec_byt))
    | _ => exact absurd (show false = true from hs) Bool.false_ne_true
  | _ => cases y <;> exact absurd (show false = true from hs) Bool.false_ne_true

theorem op_lt : OpR X (compareOp .Lt) (rI0 fun i j => .bl (decide (i < j))) := opB0 fun _ _ _ _ _ _ _ q => lt_int q
theorem op_le : OpR X (compareOp .LtE) (rI0 fun i j => .bl (decide (i ≤ j))) := opB0 fun _ _ _ _ _ _ _ q => le_int q
theorem op_gt : OpR X (compareOp .Gt) (rI0 fun i j => .bl (decide (j < i))) := opB0 fun _ _ _ _ _ _ _ q => gt_int q
theorem op_ge : OpR X (compareOp .GtE) (rI0 fun i j => .bl (decide (j ≤ i))) := opB0 fun _ _ _ _ _ _ _ q => ge_int q

theorem op_notN : OpR X (compareOp .IsNot) (fun x y H Q => y = .non ∧ Q (.bl (!decide (x = .non))) H) := by
  intro pins s σ H x y v u Q I rx ry h
  obtain ⟨rfl, q⟩ := h
  cases ry
  refine isnot_none_gen (fin_bl I q ?_)
  cases x <;> first
    | (cases rx; rfl)
    | (obtain ⟨t, rfl⟩ := rx; rfl)



theorem nomark (b : Expr) {op : CmpOp} (h : op ≠ .In := by decide) (h2 : op ≠ .NotIn := by decide) : behindInMarks op b = false := by
  have e1 : (op == CmpOp.In) = false := by cases op <;> first | rfl | exact absurd rfl h
  have e2 : (op == CmpOp.NotIn) = false := by cases op <;> first | rfl | exact absurd rfl h2
  cases b <;> simp [behindInMarks, e1, e2]
/-- a comparison as a value; hm: nomark b, or (for in, not in) by with_unfolding_all rfl -/
theorem pe_cmpR {op : CmpOp} {r : R2} (ho : OpR X (compareOp op) r) (ha : PE X a ta) (hb : PE X b tb) (hm : behindInMarks op b = false) : PE X (.Compare a [op] [b] pos) (tOp r ta tb) := by
  intro pins s σ H Q I h
  exact wpAny_Compare1 (binT ha hb I h fun v u s2 x y H2 I2 rx ry q => ho pins s2 σ H2 x y v u Q I2 rx ry q) hm
/-- a reading of a value as a test -/
def tTest (t : TE) : TT := fun σ H Q => t σ H fun x H' => ∃ k, x = .bl k ∧ Q k H'
theorem pt_cmpR {op : CmpOp} {r : R2} (ho : OpR X (compareOp op) r) (ha : PE X a ta) (hb : PE X b tb) (hm : behindInMarks op b = false) : PT X (.Compare a [op] [b] pos) (tTest (tOp r ta tb)) := by
  intro pins s σ H Q I h
  refine wpAny_isTrue_Compare1 (thn (ha pins s σ H _ I h) fun v s1 ⟨x, H1, I1, r1, q1⟩ => thn (hb pins s1 σ H1 _ I1 q1) fun u s2 ⟨y, H2, I2, r2, q2⟩ =>
    thn (ho pins s2 σ H2 x y v u _ I2 r1 r2 q2) fun c s3 ⟨z, H3, I3, r3, k, e, q3⟩ => ?_) hm
  subst e
  cases r3
  exact wpAny_truthy_bool ⟨H3, I3, q3⟩
/-- a op1 b op2 c -/
def tChain (r r' : R2) (ta tb tc : TE) : TE := fun σ H Q => ta σ H fun x H1 => tb σ H1 fun y H2 => r x y H2 fun z H3 => ∃ k, z = .bl k ∧
  (if k = true then tc σ H3 fun w' H4 => r' y w' H4 Q else Q (.bl false) H3)
theorem pe_chain {op op' : CmpOp} {r r' : R2} (ho : OpR X (compareOp op) r) (ho' : OpR X (compareOp op') r') (ha : PE X a ta) (hb : PE X b tb) (hc : PE X c tc)
    (hm : lastMarks [op, op'] [b, c] = false := by with_unfolding_all rfl) : PE X (.Compare a [op, op'] [b, c] pos) (tChain r r' ta tb tc) := by
  intro pins s σ H Q I h
  refine Compare_chain (thn (ha pins s σ H _ I h) fun v s1 ⟨x, H1, I1, r1, q1⟩ => chain_link (thn (hb pins s1 σ H1 _ I1 q1) fun u s2 ⟨y, H2, I2, r2, q2⟩ =>
    thn (ho pins s2 σ H2 x y v u _ I2 r1 r2 q2) fun d s3 ⟨z, H3, I3, r3, k, e, q3⟩ => ?_)) hm
  subst e
  cases r3
  refine wpAny_truthy_bool ?_
  cases k with
  | false => exact ite_ff ⟨.bl false, H3, I3, rfl, q3⟩
  | true => exact ite_tt (chain_last (thn (hc pins s3 σ H3 _ I3 q3) fun w' s4 ⟨z', H4, I4, r4, q4⟩ => ho' pins s4 σ H4 y z' u w' Q I4 r2 r4 q4))

/-! ### truth -/
theorem line63 : (sizeLine : Nat) < 2 ^ 63 := by rw [sizeLine_eq]; decide

/-! ### strs and bytes -/


/-! ### scalar builtins, by CallR -/
theorem vals1 {x : V} {us : List Value} (r : Vals [x] us) : ∃ u, us = [u] ∧ RelV x u := by
  cases r with
  | cons r1 r2 => cases r2; exact ⟨_, rfl, r1⟩
theorem vals2 {x y : V} {us : List Value} (r : Vals [x, y] us) : ∃ u w', us = [u, w'] ∧ RelV x u ∧ RelV y w' := by
  cases r with
  | cons r1 r2 =>
    cases r2 with
    | cons r3 r4 => cases r4; exact ⟨_, _, rfl, r1, r3⟩
theorem call_max2 (hc : X.calm = true) : CallR X (.builtin "max") (fun xs H Q => ∃ i j, xs = [.int i, .int j] ∧ Q (.int (if j > i then j else i)) H) := by
  intro pins s σ H xs us Q I r h
  obtain ⟨i, j, rfl, q⟩ := h
  obtain ⟨u, w', rfl, ⟨t, rfl⟩, ⟨t', rfl⟩⟩ := vals2 r
  refine max_two_ints (I.ok.hd hc) fun h' tk k => ⟨_, H, I.kept k, ?_, q⟩
  by_cases hj : j > i
  · rw [if_pos hj, if_pos hj]; exact ⟨_, rfl⟩
  · rw [if_neg hj, if_neg hj]; exact ⟨_, rfl⟩
theorem call_int1 : CallR X (.type "int") (fun xs H Q => (∃ i, xs = [.int i] ∧ Q (.int i) H) ∨ ∃ k, xs = [.bl k] ∧ Q (.int (if k then 1 else 0)) H) := by
  intro pins s σ H xs us Q I r h
  rcases h with ⟨i, rfl, q⟩ | ⟨k, rfl, q⟩
  · obtain ⟨u, rfl, t, rfl⟩ := vals1 r
    exact call_int_int ⟨.int i, H, I, ⟨_, rfl⟩, q⟩
  · obtain ⟨u, rfl, r1⟩ := vals1 r
    cases r1
    exact call_int_bool ⟨.int (if k then 1 else 0), H, I.tok _, ⟨_, rfl⟩, q⟩
end
end L2

namespace L2
open PySem PySem.Spec PyProof.Rows

/-! ### an instance, its attributes a map -/
structure ObjM (h : Heap) (x dx C : Addr) (mA : Str → Option Value) : Prop where
  obj : h.get? x = some (PySem.W.instObj C dx)
  ns : h.Ns1 dx mA
  ne : dx ≠ x

theorem lookIn_ns {h : Heap} {dx : Addr} {mA : Str → Option Value} (n : h.Ns1 dx mA) : ∃ od, h.get? dx = some od ∧ ∀ name, PySem.W.lookIn name od = some (mA name) := by
  obtain ⟨o, es, ep, ho, hd, hk, _, hm⟩ := n
  refine ⟨o, ho, fun name => ?_⟩
  have e := hm name
  unfold nsFind findBy at e
  rw [← Array.find?_toList] at e
  unfold PySem.W.lookIn
  rw [hd]
  dsimp only
  split
  · rename_i y q
    rw [q] at e
    exact congrArg some e
  · rename_i q
    rw [q] at e
    have a : es.toList.any (·.refKey) = false := by
      rw [List.any_eq_false]
      intro y hy
      obtain ⟨z, t, hkey⟩ := hk y (Array.mem_toList_iff.mp hy)
      simp [DictEntry.refKey, hkey]
    have a' : ¬ es.toList.any (·.refKey) = true := by rw [a]; exact Bool.false_ne_true
    rw [if_neg a']
    exact congrArg some e

theorem ObjM.look {h : Heap} {x dx C : Addr} {mA : Str → Option Value} (I : ObjM h x dx C mA) : ∃ od, PySem.W.InstAt h x (PySem.W.instObj C dx) C (some od) ∧ ∀ name, PySem.W.lookIn name od = some (mA name) :=
  let ⟨od, ho, hl⟩ := lookIn_ns I.ns
  ⟨od, ⟨I.obj, rfl, rfl, ho⟩, hl⟩

section
variable {prog : Program} {w : World} {A : Around} {E : Value → Shared → Prop} {s : Shared} {K : PySem.W.Frag} {x dx C f : Addr} {mA : Str → Option Value} {name : Str} {v : Value}





end

/-! ### the attributes as a list of pairs -/

theorem RelO.some_of {v : V} {o : Option Value} (r : RelO (some v) o) : ∃ u, o = some u ∧ RelV v u := by
  cases o with
  | none => exact (show False from r).elim
  | some u => exact ⟨u, rfl, r⟩

section
variable {P : Program} {w : World} {H H' : Hp} {h h' : Heap} {a C dx : Addr} {fs fs' : List (Str × V)}
theorem ins_get (hok : HOk P w H h) (e : H a = some (.ins C dx fs)) : ∃ mA, ObjM h a dx C mA ∧ (∀ f, RelO (fs.lookup f) (mA f)) ∧ PySem.Within mA (fs.map (·.1)) ∧ fs.length ≤ 1000 ∧ H dx = some (.own a) := by
  obtain ⟨d, z, ne, ob, mA, n, r, q⟩ := (show ObjOk P w H h a (.ins C dx fs) from hok a _ e)
  exact ⟨mA, ⟨ob, n, ne⟩, r, q, z, d⟩
end

/-! ### what of the text a class must have -/
structure Cls (K : PySem.W.Frag) (C : Addr) : Prop where
  pg : PySem.W.plainGet K C Str.empty = true
  hd : PySem.W.hasDictIn K C = true
  po : PySem.W.plainOver K C = true
  sa : PySem.W.findIn K (.ref C) "__setattr__" = some (some (.builtin "object.__setattr__"))
theorem Cls.get {K : PySem.W.Frag} {C : Addr} (c : Cls K C) (f : Str) : PySem.W.plainGet K C f = true := c.pg

section
variable {X : Cx} {pins : List (Addr × Obj)} {σ : St} {H : Hp} {s : Shared} {a C dx : Addr} {fs : List (Str × V)} {f : Str} {v : V} {A : Around} {E : Value → Shared → Prop}






end

/-! ### readings and rules -/

section
variable {X : Cx} {o e value : Expr} {f : Str} {pos pos' tpos : Pos} {ta tv : TE}

end

/-! ### isinstance -/
section
variable {X : Cx} {pins : List (Addr × Obj)} {σ : St} {H : Hp} {s : Shared} {A : Around} {E : Value → Shared → Prop} {Q : Value → Shared → Prop} {c : Value} {b : Bool}
/-- the type of a value, as the fragment's deciders take it; for an instance its class -/
inductive TyOf (K : PySem.W.Frag) (H : Hp) : V → Value → Prop where
  | non : TyOf K H .non (.type "NoneType")
  | bl (x : Bool) : TyOf K H (.bl x) (.type "bool")
  | int (i : Int) : TyOf K H (.int i) (.type "int")
  | str (x : Str) : TyOf K H (.str x) (.type "str")
  | flt (x : UInt64) : TyOf K H (.flt x) (.type "float")
  | lst {a : Addr} {xs : List V} (e : H a = some (.lst xs)) : TyOf K H (.ref a) (.type "list")
  | frz {a : Addr} {o : Obj} {xs : List V} (e : H a = some (.frz o (.lst xs))) : TyOf K H (.ref a) (.type "list")
  | tup {a : Addr} {xs : List V} (e : H a = some (.tup xs)) : TyOf K H (.ref a) (.type "tuple")
  | dK {a : Addr} {kvs : List (Key × V)} (e : H a = some (.dK kvs)) : TyOf K H (.ref a) (.type "dict")
  | dT {a : Addr} {kvs : List (List Key × V)} (e : H a = some (.dT kvs)) : TyOf K H (.ref a) (.type "dict")
  | ins {a C dx : Addr} {fs : List (Str × V)} (e : H a = some (.ins C dx fs)) (cl : Cls K C) (ha : PySem.W.findIn K (.ref C) "__class__" = some (some (.builtin "object.__class__")))
      (hn : PySem.W.specialIn K (.builtin "object.__class__") "__get__" = some (some (.builtin "getset_descriptor.__get__"))) (htk : PySem.W.takesIn K (.builtin "object.__class__") = some true)
      (hm : PySem.W.mroIn K C (.type "object") = some true) : TyOf K H (.ref a) (.ref C)
/-- isinstance(x, c) for one class c, a built-in or an own one: kitOne's answer -/
theorem isinst_ok {x : V} {u t : Value} (I : Inv X pins σ H s) (rx : RelV x u) (ty : TyOf X.K H x t) (e : PySem.W.kitOne X.K t c = some b) (h : ∀ tk, Q (.bool b) { s with toks := tk }) :
    wpAny (model X.prog X.w) A (call (.builtin "isinstance") [u, c]) Q E s := by
  cases ty with
  | non => cases (show u = Value.none from rx); exact PySem.W.kia_one PySem.W.kitx_none I.kIn True.intro e (fun z => nomatch z) h
  | bl y => cases (show u = Value.bool y from rx); exact PySem.W.kia_one PySem.W.kitx_bool I.kIn True.intro e (fun z => nomatch z) h
  | int i => obtain ⟨t, q⟩ := (show ∃ t, u = Value.int i t from rx); cases q; exact PySem.W.kia_one PySem.W.kitx_int I.kIn True.intro e (fun z => nomatch z) h
  | str y => obtain ⟨t, q⟩ := (show ∃ t, u = Value.str y t from rx); cases q; exact PySem.W.kia_one PySem.W.kitx_str I.kIn True.intro e (fun z => nomatch z) h
  | flt y => obtain ⟨t, q⟩ := (show ∃ t, u = Value.float y t from rx); cases q; exact PySem.W.kia_one PySem.W.kitx_float I.kIn True.intro e (fun z => nomatch z) h
  | @lst a xs ea =>
    cases (show u = Value.ref a from rx)
    obtain ⟨_, _, n, _, h1⟩ := (show ObjOk X.prog X.w H s.heap a (.lst xs) from I.hok a _ ea)
    exact PySem.W.kia_one PySem.W.kitx_list I.kIn ⟨_, h1, rfl⟩ e (fun z => nomatch z) h
  | @frz a ob xs ea =>
    cases (show u = Value.ref a from rx)
    obtain ⟨_, _, _, n, _, h1⟩ := (show ObjOk X.prog X.w H s.heap a (.frz ob (.lst xs)) from I.hok a _ ea)
    exact PySem.W.kia_one PySem.W.kitx_list I.kIn ⟨_, h1, rfl⟩ e (fun z => nomatch z) h
  | @tup a xs ea =>
    cases (show u = Value.ref a from rx)
    obtain ⟨_, _, _, p⟩ := (show ObjOk X.prog X.w H s.heap a (.tup xs) from I.hok a _ ea)
    obtain ⟨o, h1, h2, _⟩ := p
    exact PySem.W.kia_one PySem.W.kitx_tuple I.kIn ⟨o, h1, h2⟩ e (fun z => nomatch z) h
  | @dK a kvs ea =>
    cases (show u = Value.ref a from rx)
    obtain ⟨_, _, vs, _, p⟩ := (show ObjOk X.prog X.w H s.heap a (.dK kvs) from I.hok a _ ea)
    obtain ⟨o, es, ep, h1, h2, _⟩ := p
    exact PySem.W.kia_one PySem.W.kitx_dict I.kIn ⟨o, h1, h2.1⟩ e (fun z => nomatch z) h
  | @dT a kvs ea =>
    cases (show u = Value.ref a from rx)
    obtain ⟨_, _, xs, _, o, es, ep, h1, h2, _⟩ := (show ObjOk X.prog X.w H s.heap a (.dT kvs) from I.hok a _ ea)
    exact PySem.W.kia_one PySem.W.kitx_dict I.kIn ⟨o, h1, h2.1⟩ e (fun z => nomatch z) h
  | @ins a C dx fs ea cl ha hn htk hm =>
    cases (show u = Value.ref a from rx)
    obtain ⟨mA, O, _⟩ := ins_get I.hok ea
    obtain ⟨od, J, _⟩ := O.look
    exact PySem.W.kia_one (PySem.W.kitx_own (cl.get _) cl.hd ha hn htk hm) I.kIn J e (fun z => nomatch z) h
end
end L2

namespace L2
open PySem PySem.Spec PyProof.Rows

/-! ### room -/
structure Room (k : Nat) (A : Around) : Prop where
  hd : A.handled = none
  dp : A.depth + 3 * k + 5 < recursionLimit
  un : A.units + 16 * k + 200 < cLine
theorem Room.mono {j k : Nat} {A : Around} (r : Room k A) (h : j ≤ k) : Room j A := ⟨r.hd, by have := r.dp; omega, by have := r.un; omega⟩
theorem Room.deeper {k : Nat} {A : Around} (r : Room (k + 1) A) (env : Env) : Room k (A.deeper env) :=
  ⟨r.hd, by have := r.dp; show A.depth + 1 + 3 * k + 5 < _; omega, by have := r.un; show A.units + 3 + 16 * k + 200 < _; omega⟩
theorem make_depth {A : Around} {C : Addr} {us : List Value} {kw : List (Str × Value)} : (A.under (.builtin "type.__call__" ⟨.ref C :: us, kw⟩)).depth = A.depth + 1 := by
  first | rfl | simp [Around.under, Code.weight, Code.isCreation, Code.isGuard, Code.isCaller, Code.frames, Code.isFrame, guardIds]
theorem make_units {A : Around} {C : Addr} {us : List Value} {kw : List (Str × Value)} : (A.under (.builtin "type.__call__" ⟨.ref C :: us, kw⟩)).units = A.units + 1 := by
  first | rfl | simp [Around.under, Code.cUnits, Code.frames, Code.isFrame]
theorem Room.make {k : Nat} {A : Around} (r : Room (k + 1) A) (C : Addr) (us : List Value) (kw : List (Str × Value)) : Room k (A.under (.builtin "type.__call__" ⟨.ref C :: us, kw⟩)) :=
  ⟨r.hd, by have := r.dp; rw [make_depth]; omega, by have := r.un; rw [make_units]; omega⟩
theorem Room.depth {k : Nat} {A : Around} (r : Room k A) : A.depth < recursionLimit := by have := r.dp; omega
theorem Room.units {k : Nat} {A : Around} (r : Room k A) : A.units + 64 < cLine := by have := r.un; omega

/-! ### argument lists and displays -/
def tNil : TA := fun _ H Q => Q [] H
def tCons (ta : TE) (tr : TA) : TA := fun σ H Q => ta σ H fun x H1 => tr σ H1 fun xs H2 => Q (x :: xs) H2
section
variable {X : Cx} {e : Expr} {es : List Expr} {te : TE} {t : TA} {pos : Pos}
theorem pa_nil : PA X [] tNil := fun _ _ _ _ H Q I h => Calls.spliced_nil ⟨[], H, I, .nil, h⟩
theorem pa_cons (ha : PE X e te) (hr : PA X es t) (hs : starEach (e :: es) X.env = (false, eval e X.env) :: starEach es X.env := by rfl) : PA X (e :: es) (tCons te t) := by
  intro pos pins s σ H Q I h
  rw [hs]
  show wpAny _ _ (spliced ((false, eval e X.env) :: backTo pos (starEach es X.env))) _ _ s
  refine Calls.spliced_cons (thn (ha pins s σ H _ I h) fun u s1 ⟨x, H1, I1, r1, q1⟩ => ?_)
  exact thn (hr pos pins s1 σ H1 _ I1 q1) fun us s2 ⟨xs, H2, I2, r2, q2⟩ => ⟨x :: xs, H2, I2, .cons r1 r2, q2⟩

/-- a tuple, a list of written items -/
def tTup (t : TA) : TE := fun σ H Q => t σ H fun xs H1 => xs.length ≤ sizeLine ∧ ∀ p, H1 p = none → Q (.ref p) (upd H1 p (.tup xs))
def tLst (t : TA) : TE := fun σ H Q => t σ H fun xs H1 => xs.length ≤ sizeLine ∧ ∀ p, H1 p = none → Q (.ref p) (upd H1 p (.lst xs))
theorem pe_tup {x1} (h : PA X es t) : PE X (.Tuple es x1 pos) (tTup t) := by
  intro pins s σ H Q I hq
  refine wpAny_Tuple_spliced (thn (h pos pins s σ H _ I hq) fun us s1 ⟨xs, H1, I1, r, z, q⟩ => ⟨by rw [← r.length]; exact z, ?_⟩)
  have hf : H1 s1.heap.objs.size = none := I1.hok.fresh (Nat.le_refl _)
  refine ⟨.ref s1.heap.objs.size, upd H1 s1.heap.objs.size (.tup xs), I1.laid (t' := s1.toks) (fun b u e => Heap.get?_push_of_some _ e) (Nat.le_refl _) ?_, rfl, q _ hf⟩
  exact ⟨z, us, r, ⟨_, Heap.get?_push_size _ rfl, rfl, _, rfl⟩⟩
theorem pe_lst (h : PA X es t) : PE X (.List es pos) (tLst t) := by
  intro pins s σ H Q I hq
  refine wpAny_List_spliced (thn (h pos pins s σ H _ I hq) fun us s1 ⟨xs, H1, I1, r, z, q⟩ => ⟨by rw [← r.length]; exact z, ?_⟩)
  have hf : H1 s1.heap.objs.size = none := I1.hok.fresh (Nat.le_refl _)
  refine ⟨.ref s1.heap.objs.size, upd H1 s1.heap.objs.size (.lst xs), I1.laid (t' := s1.toks) (fun b u e => Heap.get?_push_of_some _ e) (Nat.le_refl _) ?_, rfl, q _ hf⟩
  exact ⟨z, us, 0, r, Heap.get?_push_size _ rfl⟩
end

/-! ### what a def promises -/
/-- a def's promise: the bound arguments in the parameters' order, the heap, the wanted end, the wanted exception -/
abbrev Sp := List V → Hp → VK → XK → Prop
/-- how an exception lies behind a call (file 08 gives it): the callers' frames, abstract heap and state ahead of the call, the wish, the exception, the state -/
abbrev CXT := List Env → Hp → Shared → XK → Value → Shared → Prop

/-- the state at a call -/
structure Env0 (P : Program) (w : World) (K : PySem.W.Frag) (mg : Str → Option Value) (base : Heap) (A : Around) (outer : List Env) (s : Shared) (H : Hp) : Prop where
  frames : A.frames = some outer
  mod : Mod K mg base
  bs : ∀ b o, base.get? b = some o → s.heap.get? b = some o ∧ H b = none
  bsz : base.objs.size ≤ s.heap.objs.size
  funs : s.heap.FunFrames base outer
  frf : ∀ b ∈ frs outer, H b = none
  hok : HOk P w H s.heap
  bare : AllBare s.gens
/-- a call's end -/
def CE (outer : List Env) (P : Program) (w : World) (H : Hp) (s : Shared) (Q : VK) (u : Value) (s' : Shared) : Prop :=
  ∃ v H', s'.os = s.os ∧ AllBare s'.gens ∧ Un (frs outer) [] H H' s.heap s'.heap ∧ HOk P w H' s'.heap ∧ RelV v u ∧ Q v H'
def CR (CX : CXT) (outer : List Env) (P : Program) (w : World) (H : Hp) (s : Shared) (Q : VK) (E : XK) (r : Result) (s' : Shared) : Prop :=
  match r with
  | .ok (.ret u) => CE outer P w H s Q u s'
  | .ok _ => False
  | .error e => CX outer H s E e s'
structure FnOk (P : Program) (w : World) (K : PySem.W.Frag) (mg : Str → Option Value) (base : Heap) (CX : CXT) (k : Nat) (f : Addr) (fd : FuncData) (ps : List Str) (sp : Sp) : Prop where
  len : ∀ vs H Q E, sp vs H Q E → vs.length = ps.length
  run : ∀ (A : Around) (outer : List Env) (s : Shared) (H : Hp) (args : Args) (us : List Value) (vs : List V) (Q : VK) (E : XK), Room k A → Env0 P w K mg base A outer s H → BindsTo s fd args (ps.zip us) → Vals vs us → sp vs H Q E →
    codeAny (model P w) A (.call (.ref f) args) (CR CX outer P w H s Q E) s

theorem Env0.make {P : Program} {w : World} {K : PySem.W.Frag} {mg : Str → Option Value} {base : Heap} {A : Around} {outer : List Env} {s : Shared} {H : Hp} (e : Env0 P w K mg base A outer s H) (C : Addr) (us : List Value) (kw : List (Str × Value)) :
    Env0 P w K mg base (A.under (.builtin "type.__call__" ⟨.ref C :: us, kw⟩)) outer s H := ⟨by first | exact e.frames | (simpa [Around.under, Code.envs, Code.isFrame, pushEnvs] using e.frames), e.mod, e.bs, e.bsz, e.funs, e.frf, e.hok, e.bare⟩

section
variable {X : Cx} {pins : List (Addr × Obj)} {σ : St} {H : Hp} {s s' : Shared}
/-- from a body: what a callee wants -/
theorem Inv.env0 (I : Inv X pins σ H s) : Env0 X.prog X.w X.K X.mg X.base X.A X.stack s H :=
  ⟨I.ok.frames, I.ok.mod, I.bs, Nat.le_trans I.ok.bsz I.sz, I.stack, I.stkFree, I.hok, I.bare⟩
/-- behind a call -/
theorem Inv.after {Q : VK} {u : Value} (I : Inv X pins σ H s) (h : CE X.stack X.prog X.w H s Q u s') : EP X pins σ Q u s' := by
  obtain ⟨v, H', os, bare, un, hok, r, q⟩ := h
  obtain ⟨hh, g, d, t, os'⟩ := s'
  obtain rfl : os' = s.os := os
  exact ⟨v, H', I.call (h' := hh) (g' := g) (d' := d) (t' := t) (ch := []) un hok bare (fun b z => absurd z (by simp)), r, q⟩
end

/-! ### calls -/
/-- f(..): the written arguments, then the defaults dvs; E: what is wanted of an exception -/
def tCall (sp : Sp) (dvs : List V) (E : XK) (t : TA) : TE := fun σ H Q => t σ H fun vs H1 => sp (vs ++ dvs) H1 Q E

/-- how the parameters are bound: us the positional arguments, kw the keywords' values by name, ds the defaults that fill up -/
def Binds (K : PySem.W.Frag) (fd : FuncData) (ps : List Str) (ds : List Value) : Prop :=
  ∀ (s : Shared) (us : List Value), K.In s.heap → (us ++ ds).length = ps.length → BindsTo s fd ⟨us, []⟩ (ps.zip (us ++ ds))
/-- every parameter is given -/
theorem Binds.all {K : PySem.W.Frag} {fd : FuncData} {ps : List Str} (h : ∀ us : List Value, us.length = ps.length → bindArgs fd ⟨us, []⟩ = pure (ps.zip us)) : Binds K fd ps [] := fun s us _ hl => by
  rw [List.append_nil] at hl ⊢
  exact .of_eq (h us hl)

/-- an exception of a callee reaches what this body wants of exceptions -/
def Passes (CX : CXT) (X : Cx) (E : XK) : Prop := ∀ (pins : List (Addr × Obj)) (σ : St) (H : Hp) (s : Shared) (e : Value) (s' : Shared), Inv X pins σ H s → CX X.stack H s E e s' → X.xe e s'

section
variable {X : Cx} {CX : CXT} {k : Nat} {f C : Addr} {fd : FuncData} {ps : List Str} {sp : Sp} {dvs : List V} {ds : List Value} {E : XK} {x m : Str} {p pos apos : Pos} {e o : Expr} {es : List Expr} {ta : TE} {t : TA}

/-- the callee runs -/
theorem run_fn {pins : List (Addr × Obj)} {σ : St} {H : Hp} {s : Shared} {Q : VK} {us : List Value} {vs : List V} (F : FnOk X.prog X.w X.K X.mg X.base CX k f fd ps sp) (hr : Room k X.A) (hb : Binds X.K fd ps ds) (hd : Vals dvs ds) (hx : Passes CX X E)
    (I : Inv X pins σ H s) (r : Vals vs us) (h : sp (vs ++ dvs) H Q E) : wpAny (model X.prog X.w) X.A (call (.ref f) us) (EP X pins σ Q) X.xe s := by
  have r2 : Vals (vs ++ dvs) (us ++ ds) := r.append hd
  have hl : (us ++ ds).length = ps.length := by rw [← r2.length]; exact F.len _ _ _ _ h
  refine wpAny_call (codeAny_mono (F.run X.A X.stack s H ⟨us, []⟩ (us ++ ds) (vs ++ dvs) Q E hr I.env0 (hb s us I.kIn hl) r2 h) fun r s' hq => ?_)
  cases r with
  | error e => exact hx pins σ H s e s' I hq
  | ok fl =>
    cases fl with
    | ret u => exact I.after hq
    | next => exact False.elim hq
    | brk => exact False.elim hq
    | cont => exact False.elim hq

theorem pe_call (F : FnOk X.prog X.w X.K X.mg X.base CX k f fd ps sp) (hr : Room k X.A) (hg : Gl X x) (hm : X.mg x = some (.ref f)) (hk : PySem.W.keepIn X.K (.ref f) = true) (hb : Binds X.K fd ps ds) (hd : Vals dvs ds) (hx : Passes CX X E)
    (ha : PA X (e :: es) t) (hdb : (x == ("__debug__" : Str)) = false := by decide) (he : starEach (e :: es) X.env = (false, eval e X.env) :: starEach es X.env := by rfl) (hpl : (backTo pos (starEach es X.env)).any (·.1) = false := by rfl) :
    PE X (.Call (.Name x p) (e :: es) [] pos) (tCall sp dvs E t) := by
  intro pins s σ H Q I h
  refine wpAny_Call_Name_kw (ld_glob I hg hm ?_ hdb)
  refine PySem.W.callWith_K (h₀ := X.base) I.ok.mod.kin hk (thn (ha pos pins s σ H _ I h) fun us s1 ⟨vs, H1, I1, r, q⟩ => ⟨I1.kIn, ?_⟩) he hpl
  exact run_fn F hr hb hd hx I1 r q



end

/-! ### keywords -/
section
variable {X : Cx} {CX : CXT} {k : Nat} {f C : Addr} {fd : FuncData} {ps ks : List Str} {sp : Sp} {E : XK} {x m : Str} {p pos apos kpos : Pos} {e o : Expr} {es : List Expr} {kws : List Keyword} {te ta : TE} {t tk : TA} {nm : Option Str}

variable {g : List Value → List Value → List Value} {gV : List V → List V → List V}
end

/-! ### a def's body keeps its promise -/
/-- names: the parameters first -/
structure FnScope (N P : List Str) (sc : Scope) : Prop where
  kind : sc.kind = .function
  co : sc.isCoroutine = false
  gen : sc.isGenerator = false
  nd : N.Nodup
  pre : N.take P.length = P
  par : ∀ x ∈ P, sc.names.lookup x = some .local ∨ sc.names.lookup x = some .cell
  nofree : ∀ y ∈ sc.names, y.2 ≠ .free

theorem bindL_out {kindOf : Str → Option NameKind} {x : Str} : ∀ {binds : List (Str × Value)} {m : Str → Option Value}, (∀ v, (x, v) ∉ binds) → bindL kindOf binds m x = m x
  | [], _, _ => rfl
  | (n, v) :: r, m, h => by
    unfold bindL
    rw [bindL_out fun w hw => h w (List.mem_cons_of_mem _ hw)]
    split
    · have : x ≠ n := by rintro rfl; exact h v List.mem_cons_self
      simp [this]
    · rfl
theorem bindC_out {kindOf : Str → Option NameKind} {x : Str} : ∀ {binds : List (Str × Value)} {m : Str → Option Value}, (∀ v, (x, v) ∉ binds) → bindC kindOf binds m x = m x
  | [], _, _ => rfl
  | (n, v) :: r, m, h => by
    unfold bindC
    rw [bindC_out fun w hw => h w (List.mem_cons_of_mem _ hw)]
    split
    · rfl
    · have : x ≠ n := by rintro rfl; exact h v List.mem_cons_self
      simp [this]
theorem bindL_get {kindOf : Str → Option NameKind} {x : Str} {v : Value} : ∀ {P : List Str} {vs : List Value} {i : Nat} {m : Str → Option Value}, P.Nodup → P[i]? = some x → vs[i]? = some v → kindOf x = some .local →
    bindL kindOf (P.zip vs) m x = some v
  | [], _, _, _, _, h, _, _ => by simp at h
  | _ :: _, [], _, _, _, _, h, _ => by simp at h
  | p :: P, w :: vs, 0, m, nd, h1, h2, hk => by
    simp at h1 h2; subst h1; subst h2
    show bindL kindOf ((p, w) :: P.zip vs) m p = _
    unfold bindL
    rw [bindL_out fun v hv => (List.nodup_cons.mp nd).1 (List.of_mem_zip hv).1, if_pos hk]
    simp
  | p :: P, w :: vs, i + 1, m, nd, h1, h2, hk => by
    show bindL kindOf ((p, w) :: P.zip vs) m x = _
    unfold bindL
    exact bindL_get (i := i) (List.nodup_cons.mp nd).2 (by simpa using h1) (by simpa using h2) hk
theorem bindC_get {kindOf : Str → Option NameKind} {x : Str} {v : Value} : ∀ {P : List Str} {vs : List Value} {i : Nat} {m : Str → Option Value}, P.Nodup → P[i]? = some x → vs[i]? = some v → kindOf x ≠ some .local →
    bindC kindOf (P.zip vs) m x = some v
  | [], _, _, _, _, h, _, _ => by simp at h
  | _ :: _, [], _, _, _, _, h, _ => by simp at h
  | p :: P, w :: vs, 0, m, nd, h1, h2, hk => by
    simp at h1 h2; subst h1; subst h2
    show bindC kindOf ((p, w) :: P.zip vs) m p = _
    unfold bindC
    rw [bindC_out fun v hv => (List.nodup_cons.mp nd).1 (List.of_mem_zip hv).1, if_neg hk]
    simp
  | p :: P, w :: vs, i + 1, m, nd, h1, h2, hk => by
    show bindC kindOf ((p, w) :: P.zip vs) m x = _
    unfold bindC
    exact bindC_get (i := i) (List.nodup_cons.mp nd).2 (by simpa using h1) (by simpa using h2) hk

/-- the names' values at the entry -/
def start (N : List Str) (vs : List V) : St := vs.map some ++ List.replicate (N.length - vs.length) none

/-- the context of a def's body, at its entry; an exception leaves the frame, then lies as CX says -/
def cxOf (CX : CXT) (P : Program) (w : World) (K : PySem.W.Frag) (mg : Str → Option Value) (base : Heap) (N : List Str) (qual : Str) (scope : Scope) (f : Addr) (cd : Value) (A : Around) (outer : List Env) (s : Shared) (H : Hp) (E : XK) : Cx where
  prog := P
  w := w
  K := K
  mg := mg
  base := base
  A := A.deeper (envOfC qual scope s.heap.objs.size f cd)
  N := N
  s₀ := s
  H₀ := H
  env := envOfC qual scope s.heap.objs.size f cd
  outer := outer
  stack := envOfC qual scope s.heap.objs.size f cd :: outer
  ex := []
  calm := true
  fn := fun _ => true
  pn := []
  xe := fun e s' => wpAny (model P w) (A.deeper (envOfC qual scope s.heap.objs.size f cd)) (leaving (envOfC qual scope s.heap.objs.size f cd) e) (fun _ s'' => CX outer H s E e s'') (fun e' s'' => CX outer H s E e' s'') s'

theorem cell_has {sc : Scope} {n : Nat} {x : Str} (h : sc.names.lookup x = some .cell) : ∃ c, (cellsFrom n sc.names []).lookup x = some c := by
  have q := PySem.W.cellsFrom_some sc.names n [] (.inl h)
  exact Option.isSome_iff_exists.mp q

theorem inv_start {CX : CXT} {P : Program} {w : World} {K : PySem.W.Frag} {mg : Str → Option Value} {base : Heap} {N ps : List Str} {qual : Str} {scope : Scope} {f : Addr} {cd : Value} {A : Around} {outer : List Env} {s s1 : Shared} {H : Hp} {E : XK} {us : List Value} {vs : List V}
    (S : FnScope N ps scope) (hd : A.handled = none) (e0 : Env0 P w K mg base A outer s H) (hl : vs.length = ps.length) (r : Vals vs us)
    (x : InCallC s s.heap.objs.size (bindL (envOfC qual scope s.heap.objs.size f cd).kindOf (ps.zip us) fun _ => none) (cellsFrom (s.heap.objs.size + 1) scope.names []) (bindC (envOfC qual scope s.heap.objs.size f cd).kindOf (ps.zip us) fun _ => none) s1) :
    Inv (cxOf CX P w K mg base N qual scope f cd A outer s H E) [] (start N vs) H s1 := by
  have hpl : ps.length ≤ N.length := by have := congrArg List.length S.pre; rw [List.length_take] at this; omega
  obtain ⟨h1, tk, rfl, hk⟩ := x.done
  have noA : ∀ b : Addr, b ∉ (cxOf CX P w K mg base N qual scope f cd A outer s H E).ex := fun b z => absurd (show b ∈ ([] : List Addr) from z) (by simp)
  refine ⟨⟨e0.mod, S.kind, rfl, rfl, Nat.le_refl _, fun y z c h1 h2 => ?_, fun y hy => ?_, fun y c _ h => ?_, fun _ => hd, Around.frames_deeper e0.frames, .inr ⟨rfl, rfl⟩, fun b z => absurd z (noA b), e0.bs, e0.bsz, fun b _ _ => noA b, fun b z => absurd z (noA b), e0.funs, e0.frf⟩,
    rfl, e0.bare, Un.kept hk, ⟨_, x.toInCall.ns, fun i y v h1 h2 h3 => ?_⟩, fun y c h => ⟨_, x.cell y c h⟩, e0.hok.fresh (Nat.le_refl _), fun y c h => ?_, fun p hp => absurd (show p ∈ ([] : List (Addr × Obj)) from hp) (by simp), e0.hok.kept hk, ?_⟩
  · exact name_of_addr x.apart (PySem.mem_of_lookup h1) (PySem.mem_of_lookup h2)
  · have hy : scope.names.lookup y = some .cell ∨ scope.names.lookup y = some .free := hy
    rcases hy with hy | hy
    · exact cell_has hy
    · exact absurd rfl (S.nofree _ (PySem.mem_of_lookup hy))
  · exact Nat.le_of_lt (x.above y c (PySem.mem_of_lookup h))
  · have hi : i < vs.length := by
      unfold start at h2
      by_cases hi : i < vs.length
      · exact hi
      · rw [List.getElem?_append_right (by simpa using hi)] at h2
        rw [List.getElem?_replicate] at h2
        split at h2 <;> cases h2
    have ha : vs[i]? = some v := by
      unfold start at h2
      rw [List.getElem?_append_left (by simpa using hi), List.getElem?_map] at h2
      cases e : vs[i]? with
      | none => rw [e] at h2; cases h2
      | some a => rw [e] at h2; cases h2; rfl
    obtain ⟨u, hu, rv⟩ := r.get ha
    have hp : ps[i]? = some y := by
      rw [← S.pre, List.getElem?_take_of_lt (by omega)]; exact h1
    have ndP : ps.Nodup := by rw [← S.pre]; exact S.nd.sublist (List.take_sublist _ _)
    refine ⟨u, rv, ?_⟩
    rcases S.par y (List.mem_of_getElem? hp) with k | k
    · exact .inl ⟨k, bindL_get ndP hp hu k⟩
    · obtain ⟨c, e⟩ := cell_has (n := s.heap.objs.size + 1) k
      refine .inr ⟨.inl k, c, e, ?_⟩
      have q := x.cell y c e
      rw [bindC_get ndP hp hu (by show scope.names.lookup y ≠ _; rw [k]; decide)] at q
      exact q
  · exact e0.hok.fresh (Nat.le_of_lt (x.above y c (PySem.mem_of_lookup h)))
  · unfold start
    show _ = N.length
    rw [List.length_append, List.length_map, List.length_replicate]
    omega

/-- THE RULE: a def (or a method) of the text, by its body. The body's reading t is chosen for each entry; it is run at the parameters' values -/
theorem fn_of {CX : CXT} {P : Program} {w : World} {K : PySem.W.Frag} {mg : Str → Option Value} {base : Heap} {k : Nat} {f : Addr} {name qual : Str} {params : Arguments} {body : List Stmt} {scope : Scope} {dV kV doc pm cdv ct oc : Value} {an od : Option Addr}
    {osl : Array (Option Value)} {N ps : List Str} {sp : Sp} (lk : K.lookup f = some ⟨oc, od, .func (PySem.W.fnOf name qual params body scope dV kV doc pm an cdv ct), osl⟩) (hcd : PySem.W.codeIn K cdv qual = true) (S : FnScope N ps scope)
    (len : ∀ vs H Q E, sp vs H Q E → vs.length = ps.length)
    (hbody : ∀ (A : Around) (outer : List Env) (s : Shared) (H : Hp) (vs : List V) (Q : VK) (E : XK), Room k (A.deeper (envOfC qual scope s.heap.objs.size f cdv)) → sp vs H Q E →
      ∃ t, PSs (cxOf CX P w K mg base N qual scope f cdv A outer s H E) body t ∧ t { nx := fun _ H' => Q .non H', rt := Q } (start N vs) H) :
    FnOk P w K mg base CX (k + 1) f (PySem.W.fnOf name qual params body scope dV kV doc pm an cdv ct) ps sp := by
  refine ⟨len, fun A outer s H args us vs Q E hr e0 hb r hsp => ?_⟩
  have hl := len _ _ _ _ hsp
  have KX : K.In s.heap := e0.mod.kin.keeps fun b o e => (e0.bs b o e).1
  have lim : s.heap.NoLimit := e0.mod.nolimit.keeps fun b o e => (e0.bs b o e).1
  have hkind : ∀ y ∈ ps.zip us, scope.names.lookup y.1 = some .local ∨ (scope.names.lookup y.1 = some .cell ∧ ((cellsFrom (s.heap.objs.size + 1) scope.names []).lookup y.1).isSome = true) := fun ⟨n, v⟩ hy => by
    rcases S.par n (List.of_mem_zip hy).1 with q | q
    · exact .inl q
    · exact .inr ⟨q, PySem.W.cellsFrom_some _ _ _ (.inl q)⟩
  refine codeAny_call_function hr.depth (KX _ _ lk) rfl S.co S.gen rfl (PySem.W.codeRec_of KX hcd) (hb _ _ _ _ ?_)
  refine wpAny_newFunctionEnv_cells S.kind hkind fun env he s1 x => ?_
  subst he
  refine ⟨lim.keeps x.toInCall.keep, codeAny_func ?_⟩
  obtain ⟨t, ht, hq⟩ := hbody A outer s H vs Q E (hr.deeper _) hsp
  have I : Inv (cxOf CX P w K mg base N qual scope f cdv A outer s H E) [] (start N vs) H s1 := inv_start S hr.hd e0 hl r x
  refine wpAny_mono (ht [] s1 (start N vs) H _ I hq) (fun fl s' hs => ?_) fun e s' hs => hs
  have fin : ∀ {σ' : St} {H' : Hp} {v : V} {u : Value}, Inv (cxOf CX P w K mg base N qual scope f cdv A outer s H E) [] σ' H' s' → RelV v u → Q v H' → CE outer P w H s Q u s' :=
    fun {σ' H' v u} J rv q => ⟨v, H', J.os, J.bare, J.base, J.hok, rv, q⟩
  cases fl with
  | ret u =>
    obtain ⟨v, σ', H', J, rv, q⟩ := hs
    exact fin J rv q
  | next =>
    obtain ⟨σ', H', J, q⟩ := hs
    exact fin (v := V.non) (u := Value.none) J rfl q
  | brk =>
    obtain ⟨_, _, _, q⟩ := hs
    exact False.elim q
  | cont =>
    obtain ⟨_, _, _, q⟩ := hs
    exact False.elim q
end L2

namespace L2
open PySem PySem.Spec PyProof.Rows
section
variable {X : Cx} {x : Str} {p pos : Pos} {e : Expr} {es : List Expr} {t : TA} {id T : String} {r : List V → Hp → VK → Prop}

def tCB (r : List V → Hp → VK → Prop) (t : TA) : TE := fun σ H Q => t σ H fun vs H1 => r vs H1 Q
/-- f(e, ..), f a built-in function -/
theorem pe_callB (hc : CallR X (.builtin id) r) (hg : Gl X x) (hm : X.mg x = none) (hv : bootBuiltins x = some (.builtin id)) (ha : PA X (e :: es) t) (hn : x ≠ "__name__" := by decide) (hdb : (x == ("__debug__" : Str)) = false := by decide)
    (he : starEach (e :: es) X.env = (false, eval e X.env) :: starEach es X.env := by rfl) (hpl : (backTo pos (starEach es X.env)).any (·.1) = false := by rfl) : PE X (.Call (.Name x p) (e :: es) [] pos) (tCB r t) := by
  intro pins s σ H Q I h
  refine wpAny_Call_Name_kw (ld_blt I hg hm hv ?_ hn hdb)
  exact PyProof.Rows.callWith_builtin1 (thn (ha pos pins s σ H _ I h) fun us s1 ⟨vs, H1, I1, r1, q1⟩ => hc pins s1 σ H1 vs us Q I1 r1 q1) he hpl
/-- T(e, ..), T a built-in type -/
theorem pe_callTy (hc : CallR X (.type T) r) (hg : Gl X x) (hm : X.mg x = none) (hv : bootBuiltins x = some (.type T)) (ha : PA X (e :: es) t) (hn : x ≠ "__name__" := by decide) (hdb : (x == ("__debug__" : Str)) = false := by decide)
    (he : starEach (e :: es) X.env = (false, eval e X.env) :: starEach es X.env := by rfl) (hpl : (backTo pos (starEach es X.env)).any (·.1) = false := by rfl) : PE X (.Call (.Name x p) (e :: es) [] pos) (tCB r t) := by
  intro pins s σ H Q I h
  refine wpAny_Call_Name_kw (ld_blt I hg hm hv ?_ hn hdb)
  exact PyProof.Rows.callWith_type1 (thn (ha pos pins s σ H _ I h) fun us s1 ⟨vs, H1, I1, r1, q1⟩ => hc pins s1 σ H1 vs us Q I1 r1 q1) he hpl
end
end L2

namespace HT
open PySem PyProof.Rows



section
open PySem.SeqAt
open PySem.AutoSeq1 (wpAny_loadPart')
open PySem.MeetsSeq PySem.MeetsSeq2 PySem.MeetsSeq3

end

section
variable {prog : Program} {w : World} {A : Around} {E : Value → Shared → Prop} {s : Shared}



/-! ### t[a:b], not the whole -/
/-- a slice's bound as a place among n (d where it is left out) -/
def sIx (n d : Nat) : Option Int → Nat
  | none => d
  | some v => if v < 0 then (v + (n : Int)).toNat else min v.toNat n
theorem sIx_nat (n d k : Nat) : sIx n d (some (k : Int)) = min k n := by
  show (if (k : Int) < 0 then ((k : Int) + (n : Int)).toNat else min (k : Int).toNat n) = min k n
  rw [if_neg (by omega), Int.toNat_natCast]

end
end HT

namespace L2
open PySem PySem.Spec PyProof.Rows

/-! ### the parts of a slice -/
abbrev TO := St → Hp → (Option Int → Hp → Prop) → Prop
/-- a slice's part (left out, or an int) -/
def PO (X : Cx) (e : Option Expr) (t : TO) : Prop :=
  ∀ (pins : List (Addr × Obj)) (s : Shared) (σ : St) (H : Hp) (Q : Option Int → Hp → Prop), Inv X pins σ H s → t σ H Q →
    wpAny (model X.prog X.w) X.A (evalPart e X.env) (fun u s' => ∃ o H', Inv X pins σ H' s' ∧ IsPart u o ∧ Q o H') X.xe s
def tNoPart : TO := fun _ H Q => Q none H
def tPart (t : TE) : TO := fun σ H Q => t σ H fun x H1 => ∃ i, x = .int i ∧ Q (some i) H1

theorem intsAre_of {ns : List Int} : ∀ {us : List Value}, Vals (ns.map V.int) us → IntsAre us ns := by
  induction ns with
  | nil => intro us r; rw [List.map_nil] at r; cases r; exact .nil
  | cons n ns ih =>
    intro us r
    rw [List.map_cons] at r
    cases r with
    | cons r1 r2 =>
      obtain ⟨t, e⟩ := r1
      subst e
      exact .cons n t (ih r2)

section
variable {X : Cx} {e : Expr} {te : TE} {lo hi : Option Expr} {tl th : TO} {pos p2 : Pos}

theorem po_none : PO X none tNoPart := by
  intro pins s σ H Q I h
  rw [evalPart_none]
  exact wpAny_pure ⟨none, H, I, .none, h⟩
theorem po_some (h : PE X e te) : PO X (some e) (tPart te) := by
  intro pins s σ H Q I hw
  rw [evalPart_some]
  refine thn (h pins s σ H _ I hw) fun u s1 ⟨x, H1, I1, r1, q1⟩ => ?_
  obtain ⟨i, rfl, q⟩ := q1
  obtain ⟨t, rfl⟩ := r1
  exact ⟨some i, H1, I1, .int i t, q⟩

/-- what a slice of a value is, by values: the slice object stands at sl -/
def SlR (X : Cx) (r : V → Option Int → Option Int → Hp → VK → Prop) : Prop :=
  ∀ (pins : List (Addr × Obj)) (s : Shared) (σ : St) (H : Hp) (x : V) (v vl vu : Value) (lo hi : Option Int) (sl : Addr) (Q : VK), Inv X pins σ H s → RelV x v → s.heap.IsSliceOf sl vl vu .none → IsPart vl lo → IsPart vu hi → r x lo hi H Q →
    ∃ T id, typeLookup (.type T) "__getitem__" = pure (some (.builtin id)) ∧ s.TypeIs v T ∧ wpAny (model X.prog X.w) X.A (getItem v (.ref sl)) (EP X pins σ Q) X.xe s
def tSl (r : V → Option Int → Option Int → Hp → VK → Prop) (te : TE) (tl th : TO) : TE := fun σ H Q => te σ H fun x H1 => tl σ H1 fun l H2 => th σ H2 fun u H3 => r x l u H3 Q
/-- a[lo:hi], any a -/
theorem pe_slice {r : V → Option Int → Option Int → Hp → VK → Prop} (hr : SlR X r) (he : PE X e te) (hl : PO X lo tl) (hu : PO X hi th) : PE X (.Subscript e (.Slice lo hi none p2) pos) (tSl r te tl th) := by
  intro pins s σ H Q I h
  refine Subscript_ (thn (he pins s σ H _ I h) fun v s1 ⟨x, H1, I1, r1, q1⟩ => ?_)
  refine wpAny_Slice (thn (hl pins s1 σ H1 _ I1 q1) fun vl s2 ⟨l, H2, I2, pl, q2⟩ => thn (hu pins s2 σ H2 _ I2 q2) fun vu s3 ⟨u, H3, I3, pu, q3⟩ => ?_)
  rw [evalPart_none]
  refine wpAny_pure ?_
  have I4 : Inv X pins σ H3 { s3 with heap := s3.heap.push { cls := .type "slice", data := .fields #[vl, vu, .none] } } := I3.kept (t' := s3.toks) fun b ob q => Heap.get?_push_of_some _ q
  obtain ⟨T, id, hT, ht, hg⟩ := hr pins { s3 with heap := s3.heap.push { cls := .type "slice", data := .fields #[vl, vu, .none] } } σ H3 x v vl vu l u s3.heap.objs.size Q I4 r1 (Heap.IsSliceOf.new ..) pl pu q3
  show wpAny (model X.prog X.w) X.A (subscriptTail e (.Slice lo hi none p2) v (.ref s3.heap.objs.size)) (EP X pins σ Q) X.xe { s3 with heap := s3.heap.push { cls := .type "slice", data := .fields #[vl, vu, .none] } }
  exact tail_any (ops := [.ref s3.heap.objs.size, v]) ht hT hg (by with_unfolding_all rfl)

/-- the items of xs[lo:hi] -/
def cutV (xs : List V) (lo hi : Option Int) : List V := (xs.drop (HT.sIx xs.length 0 lo)).take (HT.sIx xs.length xs.length hi - HT.sIx xs.length 0 lo)
theorem cutV_length (xs : List V) (lo hi : Option Int) : (cutV xs lo hi).length ≤ xs.length := by
  unfold cutV
  rw [List.length_take, List.length_drop]
  omega

/-! ### t < u, t + u -/
end
end L2

namespace L2
open PySem PySem.Spec PyProof.Rows

/-! ### places -/
/-- the place that an index of any sign means -/
def ixN (n : Nat) (i : Int) : Option Nat := if 0 ≤ i then (if i < n then some i.toNat else none) else if -(n : Int) ≤ i then some (i + n).toNat else none
def atI {α : Type} (xs : List α) (i : Int) : Option α := (ixN xs.length i).bind fun j => xs[j]?
theorem ixN_seq {n : Nat} {i : Int} {j : Nat} (h : ixN n i = some j) : seqIndex? i n = some j ∧ j < n ∧ -(n : Int) ≤ i ∧ i < n := by
  unfold ixN at h
  by_cases h0 : 0 ≤ i
  · rw [if_pos h0] at h
    by_cases h1 : i < n
    · rw [if_pos h1] at h
      have e : i.toNat = j := Option.some.inj h
      exact ⟨by rw [seqIndex_of h0 h1, e], by omega, by omega, h1⟩
    · rw [if_neg h1] at h; cases h
  · rw [if_neg h0] at h
    by_cases h1 : -(n : Int) ≤ i
    · rw [if_pos h1] at h
      have e : (i + n).toNat = j := Option.some.inj h
      exact ⟨by rw [seqIndex_neg (by omega) h1, e], by omega, h1, by omega⟩
    · rw [if_neg h1] at h; cases h
theorem atI_get {α : Type} {xs : List α} {i : Int} {v : α} (h : atI xs i = some v) : ∃ j, seqIndex? i xs.length = some j ∧ xs[j]? = some v ∧ j < xs.length ∧ -(xs.length : Int) ≤ i ∧ i < xs.length := by
  unfold atI at h
  cases e : ixN xs.length i with
  | none => rw [e] at h; cases h
  | some j =>
    rw [e] at h
    obtain ⟨h1, h2, h3, h4⟩ := ixN_seq e
    exact ⟨j, h1, h, h2, h3, h4⟩
theorem atI_nat {α : Type} {xs : List α} {j : Nat} {v : α} (h : xs[j]? = some v) : atI xs (j : Int) = some v := by
  have hj : j < xs.length := (List.getElem?_eq_some_iff.mp h).1
  have e : ixN xs.length (j : Int) = some j := by
    unfold ixN
    rw [if_pos (by omega), if_pos (by omega)]; simp
  unfold atI; rw [e]; exact h

/-! ### what may be subscripted -/
/-- what stands as an index of a plain subscript -/
def PlainIx (b : Expr) : Prop := ∀ o i, subscripted b false o i = operate [o, i] (getItem o i)
/-- a subscript by values -/
def IxR (X : Cx) (r : R2) : Prop :=
  ∀ (value slice : Expr) (pins : List (Addr × Obj)) (s : Shared) (σ : St) (H : Hp) (x y : V) (v u : Value) (Q : VK), Inv X pins σ H s → RelV x v → RelV y u → r x y H Q →
    subscripted slice false v u = operate [v, u] (getItem v u) → wpAny (model X.prog X.w) X.A (subscriptTail value slice v u) (EP X pins σ Q) X.xe s
/-- a call of a builtin's method by values: the receiver, the arguments -/
def MtR (X : Cx) (id : String) (r : V → List V → Hp → VK → Prop) : Prop :=
  ∀ (pins : List (Addr × Obj)) (s : Shared) (σ : St) (H : Hp) (x : V) (xs : List V) (v : Value) (us : List Value) (Q : VK), Inv X pins σ H s → RelV x v → Vals xs us → r x xs H Q →
    wpAny (model X.prog X.w) X.A (call (.builtin id) (v :: us)) (EP X pins σ Q) X.xe s
section
variable {X : Cx} {a b : Expr} {ta tb : TE} {pos : Pos}
/-- a[b] -/
theorem pe_ix {r : R2} (hr : IxR X r) (ha : PE X a ta) (hb : PE X b tb) (hs : PlainIx b) : PE X (.Subscript a b pos) (tOp r ta tb) := by
  intro pins s σ H Q I h
  exact Subscript_ (binT ha hb I h fun v u s2 x y H2 I2 rx ry q => hr a b pins s2 σ H2 x y v u Q I2 rx ry q (hs _ _))

def rIxL (K : PySem.W.Frag) : R2 := fun x y H Q => ∃ p xs i v, x = .ref p ∧ y = .int i ∧ SqL K H p xs ∧ atI xs i = some v ∧ Q v H
def rIxT (K : PySem.W.Frag) : R2 := fun x y H Q => ∃ p xs i v, x = .ref p ∧ y = .int i ∧ SqT K H p xs ∧ atI xs i = some v ∧ Q v H
theorem ix_list : IxR X (rIxL X.K) := by
  intro value slice pins s σ H x y v u Q I rx ry h hs
  obtain ⟨p, xs, i, z, rfl, rfl, hq, he, q⟩ := h
  cases rx
  obtain ⟨t, rfl⟩ := ry
  obtain ⟨its, r, pl, hz⟩ := I.list hq
  obtain ⟨j, h1, h2, h3, h4, h5⟩ := atI_get he
  obtain ⟨w, ew, rw'⟩ := r.get h2
  have hl := r.length
  have hn := line63
  have fin : EP X pins σ Q w s := ⟨z, H, I, rw', q⟩
  by_cases h0 : 0 ≤ i
  · have hj : i.toNat = j := by
      rw [seqIndex_of h0 h5] at h1
      exact Option.some.inj h1
    exact item_listR pl.isList h0 (by omega) (by rw [hj]; simpa using ew) fin hs
  · have hj : (i + (its.toArray.size : Int)).toNat = j := by
      rw [seqIndex_neg (by omega) h4] at h1
      rw [List.size_toArray, ← hl]
      exact Option.some.inj h1
    exact subscriptTail_builtinR (x := w) pl.isList.typeIs slot_list_getitem.lookup
      (wpAny_getItem_list_neg (Q := fun r s' => r = w ∧ EP X pins σ Q r s') pl.isList (by omega) (by rw [List.size_toArray] <;> omega) (by omega) (by rw [hj]; simpa using ew) ⟨rfl, fin⟩) hs
theorem ix_tup : IxR X (rIxT X.K) := by
  intro value slice pins s σ H x y v u Q I rx ry h hs
  obtain ⟨p, xs, i, z, rfl, rfl, hq, he, q⟩ := h
  cases rx
  obtain ⟨t, rfl⟩ := ry
  obtain ⟨its, r, pl, hz⟩ := I.tuple hq
  obtain ⟨j, h1, h2, h3, h4, h5⟩ := atI_get he
  obtain ⟨w, ew, rw'⟩ := r.get h2
  have hl := r.length
  have hn := line63
  have fin : EP X pins σ Q w s := ⟨z, H, I, rw', q⟩
  exact subscriptTail_builtinR (x := w) pl.typeIs slot_tuple_getitem.lookup
    (getItem_tuple (j := j) (Q := fun r s' => r = w ∧ EP X pins σ Q r s') pl (by omega) (by omega) (by rw [List.size_toArray, ← hl]; exact h1) (by simpa using ew) ⟨rfl, fin⟩) hs

/-! ### xs[i] = v, any sign -/
/-- the list's object behind a store -/
theorem mapSeq_set (its : List Value) (n j : Nat) (u : Value) : Obj.mapSeq (·.setIfInBounds j u) { cls := .type "list", data := .seq its.toArray n } = { cls := .type "list", data := .seq (its.set j u).toArray n } := by
  simp [Obj.mapSeq]
theorem Inv.lst {pins : List (Addr × Obj)} {σ : St} {H : Hp} {s : Shared} {p : Addr} {xs : List V} (I : Inv X pins σ H s) (h : H p = some (.lst xs)) :
    ∃ (its : List Value) (n : Nat), Vals xs its ∧ s.heap.get? p = some { cls := .type "list", data := .seq its.toArray n } ∧ xs.length ≤ sizeLine := by
  obtain ⟨z, its, n, r, e⟩ := I.hok p _ h
  exact ⟨its, n, r, e, z⟩
/-- the list at p is written by an update of its object -/
theorem Inv.lstUpd {pins : List (Addr × Obj)} {σ : St} {H : Hp} {s : Shared} {p : Addr} {xs ys : List V} {its its' : List Value} {n n' : Nat} {f : Obj → Obj} (I : Inv X pins σ H s) (h : H p = some (.lst xs))
    (ho : s.heap.get? p = some { cls := .type "list", data := .seq its.toArray n }) (hf : f { cls := .type "list", data := .seq its.toArray n } = { cls := .type "list", data := .seq its'.toArray n' }) (r : Vals ys its') (hz : ys.length ≤ sizeLine) (t : Nat) :
    Inv X pins σ (upd H p (.lst ys)) { s with heap := s.heap.update p f, toks := t } := by
  have e : (s.heap.update p f).get? p = some { cls := .type "list", data := .seq its'.toArray n' } := by
    rw [Heap.get?_update_self f ho (by rw [hf] <;> rfl), hf]
  refine I.write (x := p) (e := p) (by rw [h]; trivial) (.inl rfl) (fun b u hb q => (Heap.get?_update_other _ _ (Ne.symm hb)).trans q) ⟨_, e⟩ ?_
  exact ⟨hz, its', n', r, e⟩
def rSetL : V → V → V → Hp → (Hp → Prop) → Prop := fun o i v H Q => ∃ p xs k j, o = .ref p ∧ i = .int k ∧ H p = some (.lst xs) ∧ ixN xs.length k = some j ∧ Q (upd H p (.lst (xs.set j v)))
theorem set_list : PSet X rSetL := by
  intro pins s σ H o i v ov iv u Q I ro ri rv h
  obtain ⟨p, xs, k, j, rfl, rfl, hp, hj, q⟩ := h
  cases ro
  obtain ⟨t, rfl⟩ := ri
  obtain ⟨its, n, r, ho, hz⟩ := I.lst hp
  obtain ⟨h1, h2, h3, h4⟩ := ixN_seq hj
  have hl := r.length
  have hn := line63
  have I' : Inv X pins σ (upd H p (.lst (xs.set j v))) { s with heap := s.heap.update p (Obj.mapSeq (·.setIfInBounds j u)) } :=
    I.lstUpd hp ho (mapSeq_set its n j u) (r.set rv j) (by rw [List.length_set]; exact hz) s.toks
  by_cases h0 : 0 ≤ k
  · have hk : k.toNat = j := by
      rw [seqIndex_of h0 h4] at h1
      exact Option.some.inj h1
    exact PySem.W.ki_setAt ho h0 (by omega) (by rw [List.size_toArray, ← hl]; exact h4) (by rw [hk]; exact ⟨_, I', q⟩)
  · have hk : (k + (its.toArray.size : Int)).toNat = j := by
      rw [seqIndex_neg (by omega) h3] at h1
      rw [List.size_toArray, ← hl]
      exact Option.some.inj h1
    exact PySem.W.ki_setBack ho (by omega) (by rw [List.size_toArray, ← hl]; exact h3) (by omega) (by rw [hk]; exact ⟨_, I', q⟩)

/-! ### slices -/
theorem slice_bounds (lo hi : Option Int) (n : Nat) : (sliceBounds lo hi none n).1 = ((HT.sIx n 0 lo : Nat) : Int) ∧ (sliceBounds lo hi none n).2.1 = ((HT.sIx n n hi : Nat) : Int) ∧ (sliceBounds lo hi none n).2.2 = 1 := by
  refine ⟨?_, ?_, rfl⟩
  · cases lo with
    | none => simp [sliceBounds, HT.sIx]
    | some i =>
      simp only [sliceBounds, HT.sIx, Option.getD_none, show (1 : Int) > 0 by decide, if_true]
      by_cases h : i < 0
      · simp only [h, if_true] <;> omega
      · simp only [h, if_false] <;> omega
  · cases hi with
    | none => simp [sliceBounds, HT.sIx]
    | some i =>
      simp only [sliceBounds, HT.sIx, Option.getD_none, show (1 : Int) > 0 by decide, if_true]
      by_cases h : i < 0
      · simp only [h, if_true] <;> omega
      · simp only [h, if_false] <;> omega
theorem slicePick_cut (its : List Value) (lo hi : Option Int) : slicePick its.toArray lo hi none = ((its.drop (HT.sIx its.length 0 lo)).take (HT.sIx its.length its.length hi - HT.sIx its.length 0 lo)).toArray := by
  obtain ⟨h1, h2, h3⟩ := slice_bounds lo hi its.toArray.size
  unfold slicePick
  rw [h1, h2, h3]
  simp only [sliceRange_one, pick_run, List.size_toArray] <;> rfl
/-- xs[lo:hi] of a list: a new list -/
def rSlL (K : PySem.W.Frag) : V → Option Int → Option Int → Hp → VK → Prop := fun x lo hi H Q => ∃ a xs, x = .ref a ∧ SqL K H a xs ∧ ∀ p, H p = none → Q (.ref p) (upd H p (.lst (cutV xs lo hi)))
theorem sl_list : SlR X (rSlL X.K) := by
  intro pins s σ H x v vl vu lo hi sl Q I rx hs pl pu h
  obtain ⟨a, xs, rfl, hx, q⟩ := h
  cases rx
  obtain ⟨its, r, ht, hz⟩ := I.list hx
  have hlen := r.length
  refine ⟨"list", _, slot_list_getitem.lookup, ht.isList.typeIs, ?_⟩
  refine wpAny_getItem_list_slice ht.isList hs pl pu .none (by simp) ?_ (by rw [List.size_toArray] <;> omega)
  rw [slicePick_cut, ← hlen]
  refine ⟨.ref s.heap.objs.size, _, I.laid (t' := s.toks) (o := .lst (cutV xs lo hi)) (fun b ob q => Heap.get?_push_of_some _ q) (Nat.le_refl _) ?_, rfl, q _ (I.hok.fresh (Nat.le_refl _))⟩
  exact ⟨Nat.le_trans (cutV_length xs lo hi) hz, _, 0, (r.drop (HT.sIx xs.length 0 lo)).take (HT.sIx xs.length xs.length hi - HT.sIx xs.length 0 lo), Heap.get?_push_size _ rfl⟩

/-! ### in, not in: flat items -/
def flatV : V → Bool
  | .non => true
  | .bl _ => true
  | .int _ => true
  | .str _ => true
  | _ => false
/-- == of flat values -/
def eqV : V → V → Bool
  | .non, .non => true
  | .bl a, .bl b => a == b
  | .bl a, .int b => (if a then 1 else 0) == b
  | .int a, .bl b => a == (if b then 1 else 0)
  | .int a, .int b => a == b
  | .str a, .str b => a == b
  | _, _ => false
theorem eqAt_V {A : Around} {s : Shared} {y x : V} {u v : Value} (ry : RelV y u) (rx : RelV x v) (fy : flatV y = true) (fx : flatV x = true) : SeqAt.EqAt A s u v (eqV y x) := by
  cases y with
  | non =>
    cases ry
    cases x with
    | non => cases rx; exact SeqAt.EqAt.same _
    | bl b => cases rx; exact SeqAt.EqAt.none_bool b
    | int b => obtain ⟨t, rfl⟩ := rx; exact SeqAt.EqAt.none_int b t
    | str b => obtain ⟨t, rfl⟩ := rx; exact SeqAt.EqAt.none_str b t
    | _ => exact absurd (show false = true from fx) Bool.false_ne_true
  | bl a =>
    cases ry
    cases x with
    | non => cases rx; exact SeqAt.EqAt.bool_none a
    | bl b => cases rx; exact SeqAt.EqAt.bool_bool a b
    | int b => obtain ⟨t, rfl⟩ := rx; exact SeqAt.EqAt.bool_int a b t
    | str b => obtain ⟨t, rfl⟩ := rx; exact SeqAt.EqAt.bool_str a b t
    | _ => exact absurd (show false = true from fx) Bool.false_ne_true
  | int a =>
    obtain ⟨t', rfl⟩ := ry
    cases x with
    | non => cases rx; exact SeqAt.EqAt.int_none a t'
    | bl b => cases rx; exact SeqAt.EqAt.int_bool a t' b
    | int b => obtain ⟨t, rfl⟩ := rx; exact SeqAt.EqAt.int_int a t' b t
    | str b => obtain ⟨t, rfl⟩ := rx; exact SeqAt.EqAt.int_str a t' b t
    | _ => exact absurd (show false = true from fx) Bool.false_ne_true
  | str a =>
    obtain ⟨t', rfl⟩ := ry
    cases x with
    | non => cases rx; exact SeqAt.EqAt.str_none a t'
    | bl b => cases rx; exact SeqAt.EqAt.str_bool a t' b
    | int b => obtain ⟨t, rfl⟩ := rx; exact SeqAt.EqAt.str_int a t' b t
    | str b => obtain ⟨t, rfl⟩ := rx; exact SeqAt.EqAt.str_str a t' b t
    | _ => exact absurd (show false = true from fx) Bool.false_ne_true
  | _ => exact absurd (show false = true from fy) Bool.false_ne_true
/-- the items' answers, read off the values (a value's own answer does not lean on its token) -/
def eqU (x : V) (u : Value) : Bool := match u with
  | .none => eqV .non x
  | .bool b => eqV (.bl b) x
  | .int i _ => eqV (.int i) x
  | .str z _ => eqV (.str z) x
  | _ => false
theorem eqU_of {x y : V} {u : Value} (r : RelV y u) (f : flatV y = true) : eqU x u = eqV y x := by
  cases y with
  | non => cases r; rfl
  | bl b => cases r; rfl
  | int i => obtain ⟨t, rfl⟩ := r; rfl
  | str z => obtain ⟨t, rfl⟩ := r; rfl
  | _ => exact absurd (show false = true from f) Bool.false_ne_true
theorem any_eqU {x : V} : ∀ {xs : List V} {us : List Value}, Vals xs us → xs.all flatV = true → us.any (eqU x) = xs.any fun y => eqV y x
  | _, _, .nil, _ => rfl
  | y :: xs, u :: us, .cons r t, f => by
    rw [List.all_cons, Bool.and_eq_true] at f
    rw [List.any_cons, List.any_cons, eqU_of r f.1, any_eqU t f.2]
theorem mem_eqAt {A : Around} {s : Shared} {x : V} {v : Value} (rx : RelV x v) (fx : flatV x = true) : ∀ {xs : List V} {us : List Value}, Vals xs us → xs.all flatV = true → ∀ u ∈ us, SeqAt.EqAt A s u v (eqU x u)
  | _, _, .nil, _ => fun u hu => by cases hu
  | y :: xs, u :: us, .cons r t, f => fun u' hu => by
    rw [List.all_cons, Bool.and_eq_true] at f
    rcases List.mem_cons.mp hu with rfl | hu
    · rw [eqU_of r f.1]; exact eqAt_V r rx f.1 fx
    · exact mem_eqAt rx fx t f.2 u' hu
def inV (x : V) (xs : List V) : Bool := xs.any fun y => eqV y x
/-- x in a list or tuple of flat items -/
def rIn (K : PySem.W.Frag) (neg : Bool) : R2 := fun x y H Q => ∃ p xs, y = .ref p ∧ (SqL K H p xs ∨ SqT K H p xs) ∧ flatV x = true ∧ xs.all flatV = true ∧ Q (.bl (if neg then !inV x xs else inV x xs)) H
theorem op_in_seq : OpR X (compareOp .In) (rIn X.K false) := by
  intro pins s σ H x y v u Q I rx ry h
  obtain ⟨p, xs, rfl, hq, fx, fs, q⟩ := h
  cases ry
  rcases hq with hq | hq
  · obtain ⟨its, r, pl, hz⟩ := I.list hq
    refine SeqAt.in_listAt (eqU x) pl.isList (fun w hw => mem_eqAt rx fx r fs w (by simpa using hw)) ⟨.bl _, H, I, rfl, ?_⟩
    rw [show its.toArray.any (eqU x) = its.any (eqU x) by simp, any_eqU r fs]
    exact q
  · obtain ⟨its, r, pl, hz⟩ := I.tuple hq
    refine SeqAt.in_tupleAt (eqU x) pl (fun w hw => mem_eqAt rx fx r fs w (by simpa using hw)) ⟨.bl _, H, I, rfl, ?_⟩
    rw [show its.toArray.any (eqU x) = its.any (eqU x) by simp, any_eqU r fs]
    exact q
theorem op_notIn_seq : OpR X (compareOp .NotIn) (rIn X.K true) := by
  intro pins s σ H x y v u Q I rx ry h
  obtain ⟨p, xs, rfl, hq, fx, fs, q⟩ := h
  cases ry
  rcases hq with hq | hq
  · obtain ⟨its, r, pl, hz⟩ := I.list hq
    refine SeqAt.notIn_listAt (eqU x) pl.isList (fun w hw => mem_eqAt rx fx r fs w (by simpa using hw)) ⟨.bl _, H, I, rfl, ?_⟩
    rw [show its.toArray.any (eqU x) = its.any (eqU x) by simp, any_eqU r fs]
    exact q
  · obtain ⟨its, r, pl, hz⟩ := I.tuple hq
    refine SeqAt.notIn_tupleAt (eqU x) pl (fun w hw => mem_eqAt rx fx r fs w (by simpa using hw)) ⟨.bl _, H, I, rfl, ?_⟩
    rw [show its.toArray.any (eqU x) = its.any (eqU x) by simp, any_eqU r fs]
    exact q

/-! ### len, list(x), tuple(x) of any list or tuple that is read -/
theorem call_len_seq : CallR X (.builtin "len") (fun xs H Q => ∃ p ys, xs = [.ref p] ∧ (SqL X.K H p ys ∨ SqT X.K H p ys) ∧ Q (.int ys.length) H) := by
  intro pins s σ H xs us Q I r h
  obtain ⟨p, ys, rfl, hq, q⟩ := h
  obtain ⟨u, rfl, rx⟩ := vals1 r
  cases rx
  have hn := line63
  rcases hq with hq | hq
  · obtain ⟨its, r', pl, hz⟩ := I.list hq
    have hlen := r'.length
    exact Calls.call_len_list pl.isList (by simp only [List.size_toArray] <;> omega) ⟨.int ys.length, H, I.tok _, ⟨s.toks + 1, by rw [List.size_toArray, hlen]⟩, q⟩
  · obtain ⟨its, r', pl, hz⟩ := I.tuple hq
    have hlen := r'.length
    exact len_tuple pl (by simp only [List.size_toArray] <;> omega) ⟨.int ys.length, H, I.tok _, ⟨s.toks + 1, by rw [List.size_toArray, hlen]⟩, q⟩
theorem call_list_of : CallR X (.type "list") (fun xs H Q => ∃ p ys, xs = [.ref p] ∧ (SqL X.K H p ys ∨ SqT X.K H p ys) ∧ ∀ l, H l = none → Q (.ref l) (upd H l (.lst ys))) := by
  intro pins s σ H xs us Q I r h
  obtain ⟨p, ys, rfl, hq, q⟩ := h
  obtain ⟨u, rfl, rx⟩ := vals1 r
  cases rx
  have fin : ∀ (its : List Value), Vals ys its → ys.length ≤ sizeLine → ∀ (h' : Heap) (c' : Nat), (∀ b o', s.heap.get? b = some o' → h'.get? b = some o') →
      h'.get? s.heap.objs.size = some { cls := .type "list", dict := none, data := .seq its.toArray c', slots := #[] } → EP X pins σ Q (.ref s.heap.objs.size) { s with heap := h' } := fun its r' hz h' c' kp e =>
    ⟨.ref s.heap.objs.size, _, I.laid (t' := s.toks) kp (Nat.le_refl _) (show ObjOk X.prog X.w _ h' _ (.lst ys) from ⟨hz, its, c', r', e⟩), rfl, q _ (I.hok.fresh (Nat.le_refl _))⟩
  rcases hq with hq | hq
  · obtain ⟨its, r', pl, hz⟩ := I.list hq
    have hlen := r'.length
    obtain ⟨o, ho, hc, n, hd⟩ := pl.isList
    exact call_list_seq p (.inl rfl) ho hc hd (fun h' c' kp e => fin its r' hz h' c' kp e) (by simp only [List.size_toArray] <;> omega)
  · obtain ⟨its, r', pl, hz⟩ := I.tuple hq
    have hlen := r'.length
    obtain ⟨o, ho, hc, n, hd⟩ := pl
    exact call_list_seq p (.inr rfl) ho hc hd (fun h' c' kp e => fin its r' hz h' c' kp e) (by simp only [List.size_toArray] <;> omega)
theorem call_tuple_of : CallR X (.type "tuple") (fun xs H Q => ∃ p ys, xs = [.ref p] ∧ ((SqL X.K H p ys ∧ ∀ l, H l = none → Q (.ref l) (upd H l (.tup ys))) ∨ (SqT X.K H p ys ∧ Q (.ref p) H))) := by
  intro pins s σ H xs us Q I r h
  obtain ⟨p, ys, rfl, h⟩ := h
  obtain ⟨u, rfl, rx⟩ := vals1 r
  cases rx
  rcases h with ⟨hq, q⟩ | ⟨hq, q⟩
  · obtain ⟨its, r', pl, hz⟩ := I.list hq
    have hlen := r'.length
    refine call_tuple_list pl.isList (fun h' kp => ?_) (by simp only [List.size_toArray] <;> omega)
    have I1 : Inv X pins σ H { s with heap := h' } := I.kept (t' := s.toks) kp
    have I2 : Inv X pins σ (upd H h'.objs.size (.tup ys)) { s with heap := h'.push { cls := .type "tuple", data := .seq its.toArray } } :=
      I1.laid (t' := s.toks) (fun b o e => Heap.get?_push_of_some _ e) (Nat.le_refl _) (show ObjOk X.prog X.w _ _ _ (.tup ys) from ⟨hz, its, r', IsTup.new _ _⟩)
    exact ⟨.ref h'.objs.size, _, I2, rfl, q _ (I1.hok.fresh (Nat.le_refl _))⟩
  · obtain ⟨its, r', pl, hz⟩ := I.tuple hq
    exact call_tuple_same pl ⟨.ref p, H, I, rfl, q⟩

/-! ### the call of a builtin's method: o.m(..) -/
/-- the value is of that builtin type -/
def tyV (K : PySem.W.Frag) (T : String) (x : V) (H : Hp) : Prop := match x with
  | .str _ => T = "str"
  | .int _ => T = "int"
  | .ref p => (T = "list" ∧ ∃ xs, SqL K H p xs) ∨ (T = "tuple" ∧ ∃ o, K.lookup p = some o ∧ o.cls = .type "tuple" ∧ o.dict = none) ∨
      (T = "dict" ∧ ((∃ kvs, H p = some (.dK kvs)) ∨ ∃ kvs, H p = some (.dT kvs))) ∨ (T = "set" ∧ ∃ S n, H p = some (.set S n))
  | _ => False
theorem tyV_is {pins : List (Addr × Obj)} {σ : St} {H : Hp} {s : Shared} {T : String} {x : V} {v : Value} (I : Inv X pins σ H s) (r : RelV x v) (ty : tyV X.K T x H) :
    s.TypeIs v T ∧ ∀ a, v = .ref a → ∃ ob, s.heap.get? a = some ob ∧ ob.dict = none := by
  cases x with
  | str z =>
    obtain ⟨t, rfl⟩ := r
    cases (show T = "str" from ty)
    exact ⟨typeIs_str s z t, fun _ e => nomatch e⟩
  | int i =>
    obtain ⟨t, rfl⟩ := r
    cases (show T = "int" from ty)
    exact ⟨typeIs_int s i t, fun _ e => nomatch e⟩
  | ref p =>
    cases r
    rcases ty with ⟨rfl, xs, hq⟩ | ⟨rfl, o, hk, hc, hd⟩ | ⟨rfl, hk⟩ | ⟨rfl, S, n, hk⟩
    · obtain ⟨its, _, pl, _⟩ := I.list hq
      refine ⟨pl.isList.typeIs, fun a e => ?_⟩
      cases e
      obtain ⟨o, n, e, c, hd, _⟩ := pl
      exact ⟨o, e, hd⟩
    · refine ⟨⟨o, I.kIn p o hk, hc⟩, fun a e => ?_⟩
      cases e
      exact ⟨o, I.kIn _ o hk, hd⟩
    · have z : ∃ o, s.heap.get? p = some o ∧ o.ExactDict := by
        rcases hk with ⟨kvs, hk⟩ | ⟨kvs, hk⟩
        · obtain ⟨_, _, _, _, o, _, _, e, ex, _⟩ := I.hok p _ hk
          exact ⟨o, e, ex⟩
        · obtain ⟨_, _, _, _, o, _, _, e, ex, _⟩ := I.hok p _ hk
          exact ⟨o, e, ex⟩
      obtain ⟨o, e, ex⟩ := z
      refine ⟨⟨o, e, ex.1⟩, fun a e2 => ?_⟩
      cases e2
      exact ⟨o, e, ex.2.1⟩
    · obtain ⟨o, _, _, _, e, ex, _⟩ := I.hok p _ hk
      refine ⟨⟨o, e, ex.1⟩, fun a e2 => ?_⟩
      cases e2
      exact ⟨o, e, ex.2.1⟩
  | _ => exact False.elim ty
def tBM0 (K : PySem.W.Frag) (T : String) (r : V → List V → Hp → VK → Prop) (to : TE) : TE := fun σ H Q => to σ H fun x H1 => tyV K T x H1 ∧ r x [] H1 Q
def tBM (K : PySem.W.Frag) (T : String) (r : V → List V → Hp → VK → Prop) (to : TE) (t : TA) : TE := fun σ H Q => to σ H fun x H1 => tyV K T x H1 ∧ t σ H1 fun xs H2 => r x xs H2 Q
variable {o e : Expr} {es : List Expr} {to : TE} {t : TA} {name : Str} {apos cpos : Pos} {T id : String} {r : V → List V → Hp → VK → Prop}
theorem pe_bm0 (pa : PlainAttrs T) (slot : Slot T name id) (hty : typeOf (.builtin id) = pure (.type "method_descriptor")) (hm : MtR X id r) (ho : PE X o to)
    (hbase : attributeBase o name X.env (eval o X.env) = eval o X.env := by rfl) (hline : (apos.endLine == cpos.line) = true := by rfl) : PE X (.Call (.Attribute o name apos) [] [] cpos) (tBM0 X.K T r to) := by
  intro pins s σ H Q I h
  refine wpAny_Call_method0_late hbase hline (thn (ho pins s σ H _ I h) fun v s1 ⟨x, H1, I1, r1, ty, q1⟩ => ?_)
  obtain ⟨h1, h2⟩ := tyV_is I1 r1 ty
  exact ⟨T, id, pa, slot, hty, h1, h2, Calls.callWith_builtin rfl (PySem.evalArgs_none (hm pins s1 σ H1 x [] v [] Q I1 r1 .nil q1))⟩
theorem pe_bm (pa : PlainAttrs T) (slot : Slot T name id) (hty : typeOf (.builtin id) = pure (.type "method_descriptor")) (hm : MtR X id r) (ho : PE X o to) (ha : PA X (e :: es) t)
    (hbase : attributeBase o name X.env (eval o X.env) = eval o X.env := by rfl)
    (hfew : ((backTo cpos (starEach (e :: es) X.env)).all (fun x => !x.1) && (backToKw cpos (keywordEach [] X.env)).all (fun x => x.1.isSome)
      && decide ((e :: es).length + ([] : List Keyword).length + (if ([] : List Keyword).isEmpty then 0 else 1) < 30)) = true := by rfl)
    (hline : (apos.endLine == cpos.line) = true := by rfl) (hs : starEach (e :: es) X.env = (false, eval e X.env) :: starEach es X.env := by rfl) (hplain : (backTo cpos (starEach es X.env)).any (·.1) = false := by rfl) :
    PE X (.Call (.Attribute o name apos) (e :: es) [] cpos) (tBM X.K T r to t) := by
  intro pins s σ H Q I h
  refine wpAny_Call_method_late hbase hfew hline rfl (thn (ho pins s σ H _ I h) fun v s1 ⟨x, H1, I1, r1, ty, q1⟩ => ?_)
  obtain ⟨h1, h2⟩ := tyV_is I1 r1 ty
  refine ⟨T, id, pa, slot, hty, h1, h2, ?_⟩
  have hA := ha cpos pins s1 σ H1 _ I1 q1
  rw [hs] at hA ⊢
  refine Calls.callWith_builtin (by show (false || (backTo cpos (starEach es X.env)).any (·.1)) = false; rw [hplain] <;> rfl) (Calls.evalArgs_plain ?_)
  exact thn hA fun us s2 ⟨vs, H2, I2, r2, q2⟩ => hm pins s2 σ H2 x vs v us Q I2 r1 r2 q2
/- xs.append(e), list.index on a module's tuple .. are MtR facts of 06m -/
end
end L2

namespace L2
open PySem PySem.Spec PyProof.Rows

def MtM (X : Cx) (id : String) (r : V → List V → Hp → VK → Prop) : Prop :=
  ∀ (pins : List (Addr × Obj)) (s : Shared) (σ : St) (H : Hp) (x : V) (xs : List V) (v : Value) (us : List Value) (Q : VK), Inv X pins σ H s → RelV x v → Vals xs us → r x xs H Q →
    wpAny (model X.prog X.w) X.A (call (.builtin id) (v :: us)) (EP X pins σ Q) X.xe s

/-! ### lists of values -/
theorem Vals.one : ∀ {x : V} {us : List Value}, Vals [x] us → ∃ u, us = [u] ∧ RelV x u
  | _, _, .cons r .nil => ⟨_, rfl, r⟩
theorem Vals.zero : ∀ {us : List Value}, Vals [] us → us = []
  | _, .nil => rfl
theorem Vals.dropLast {xs : List V} {us : List Value} (h : Vals xs us) : Vals xs.dropLast us.dropLast := by
  induction h with
  | nil => exact .nil
  | cons r t ih =>
    cases t with
    | nil => exact .nil
    | cons q t' => exact .cons r ih
theorem Vals.rep {xs : List V} {us : List Value} (h : Vals xs us) : ∀ k : Nat, Vals (List.replicate k xs).flatten (List.replicate k us).flatten
  | 0 => .nil
  | k + 1 => by
    rw [List.replicate_succ, List.replicate_succ, List.flatten_cons, List.flatten_cons]
    exact Vals.append h (Vals.rep h k)
theorem erase_last {α : Type} (l : List α) : l.eraseIdx (l.length - 1) = l.dropLast := by
  induction l with
  | nil => rfl
  | cons a r ih =>
    cases r with
    | nil => rfl
    | cons b r =>
      have e : (a :: b :: r).length - 1 = ((b :: r).length - 1) + 1 := by
        have h1 : (a :: b :: r).length = r.length + 2 := rfl
        have h2 : (b :: r).length = r.length + 1 := rfl
        omega
      rw [e, List.eraseIdx_cons_succ, ih]
      all_goals rfl
theorem foldl_rep (its : List Value) : ∀ (k : Nat) (acc : List Value),
    List.foldl (fun x1 x2 => x1 ++ x2) acc.toArray (List.replicate k its.toArray) = (acc ++ (List.replicate k its).flatten).toArray
  | 0, acc => by simp
  | k + 1, acc => by
    have e : acc.toArray ++ its.toArray = (acc ++ its).toArray := by simp
    have e2 : (acc ++ its) ++ (List.replicate k its).flatten = acc ++ (List.replicate (k + 1) its).flatten := by
      rw [List.replicate_succ, List.flatten_cons, List.append_assoc]
    rw [← e2, ← foldl_rep its k (acc ++ its), ← e, List.replicate_succ, List.foldl_cons]

section
variable {X : Cx} {pins : List (Addr × Obj)} {σ : St} {H : Hp} {s : Shared} {l b : Addr} {xs ys zs : List V}

/-! ### the two steps: a tracked list is rewritten, a new list is laid -/
theorem Inv.lset {its its' : List Value} {n : Nat} {f : Array Value → Array Value} {t' : Nat} (I : Inv X pins σ H s) (hH : H l = some (.lst xs))
    (e : s.heap.get? l = some { cls := .type "list", data := .seq its.toArray n }) (hf : f its.toArray = its'.toArray) (hv : Vals ys its') (hz : ys.length ≤ sizeLine) :
    Inv X pins σ (upd H l (.lst ys)) { s with heap := s.heap.update l (Obj.mapSeq f), toks := t' } := by
  have q := PySem.IsL.update e f
  rw [hf] at q
  refine I.write (x := l) (e := l) (by rw [hH]; exact trivial) (.inl rfl) (fun b' u hb hu => (Heap.get?_update_other s.heap (Obj.mapSeq f) (Ne.symm hb)).trans hu) ⟨_, q⟩ ?_
  exact ⟨hz, its', _, hv, q⟩
theorem Inv.lnew {its : List Value} {t' : Nat} (I : Inv X pins σ H s) (hv : Vals ys its) (hz : ys.length ≤ sizeLine) :
    Inv X pins σ (upd H s.heap.objs.size (.lst ys)) { s with heap := s.heap.push { cls := .type "list", data := .seq its.toArray }, toks := t' } :=
  I.laid (fun _ _ q => Heap.get?_push_of_some _ q) (Nat.le_refl _) ⟨hz, its, 0, hv, Heap.get?_push_size _ rfl⟩
theorem Inv.fresh (I : Inv X pins σ H s) : H s.heap.objs.size = none := I.hok.fresh (Nat.le_refl _)
theorem Inv.lstM (I : Inv X pins σ H s) (hH : H l = some (.lst xs)) : xs.length ≤ sizeLine ∧ ∃ (its : List Value) (n : Nat), Vals xs its ∧ xs.length = its.length ∧ s.heap.get? l = some { cls := .type "list", data := .seq its.toArray n } := by
  obtain ⟨z, its, n, r, e⟩ := I.hok l _ hH
  exact ⟨z, its, n, r, r.length, e⟩

theorem notLongL {n : Nat} (h : n ≤ sizeLine) : Builtin.List.listTooLong n = false := by
  unfold Builtin.List.listTooLong
  exact decide_eq_false (by omega)
end

section
variable {X : Cx}

/-! ### methods -/
def rAppend : V → List V → Hp → VK → Prop := fun x vs H Q => ∃ l xs y, x = .ref l ∧ vs = [y] ∧ H l = some (.lst xs) ∧ xs.length < sizeLine ∧ Q .non (upd H l (.lst (xs ++ [y])))
theorem mt_append : MtM X "list.append" rAppend := by
  intro pins s σ H x vs v us Q I rx rv h
  obtain ⟨l, xs, y, rfl, rfl, hH, hz, q⟩ := h
  cases rx
  obtain ⟨u, rfl, ru⟩ := rv.one
  obtain ⟨z, its, n, r, hl, e⟩ := I.lstM hH
  refine call_meets F.slot_list_append ⟨_, e, rfl⟩ F.entry_list_append (F.args_list_append_2 _ _) (PySem.list_append l its.toArray n u (by rw [List.size_toArray]; omega)) ⟨e, ?_⟩
  refine ⟨.non, _, I.lset (its' := its ++ [u]) hH e (by simp) (r.append (.cons ru .nil)) ?_, rfl, q⟩
  rw [List.length_append, List.length_singleton]
  omega


def rPop : V → List V → Hp → VK → Prop := fun x vs H Q => ∃ l xs y, x = .ref l ∧ vs = [] ∧ H l = some (.lst xs) ∧ xs[xs.length - 1]? = some y ∧ Q y (upd H l (.lst xs.dropLast))
theorem mt_pop : MtM X "list.pop" rPop := by
  intro pins s σ H x vs v us Q I rx rv h
  obtain ⟨l, xs, y, rfl, rfl, hH, hy, q⟩ := h
  cases rx
  have hus := rv.zero
  subst hus
  obtain ⟨z, its, n, r, hl, e⟩ := I.lstM hH
  obtain ⟨u, hu, ru⟩ := r.get hy
  have hy' : its.toArray[its.toArray.size - 1]? = some u := by
    show its.toArray[its.length - 1]? = some u
    rw [← Array.getElem?_toList, ← hl]
    exact hu
  refine call_meets F.slot_list_pop ⟨_, e, rfl⟩ F.entry_list_pop (F.args_list_pop_1 _) (MeetsSeq.list_pop_last l its.toArray n u hy' (by rw [List.size_toArray]; omega)) ⟨e, ?_⟩
  refine ⟨y, _, I.lset (its' := its.dropLast) hH e ?_ r.dropLast ?_, ru, q⟩
  · show its.toArray.eraseIdxIfInBounds (its.toArray.size - 1) = its.dropLast.toArray
    rw [List.size_toArray, List.eraseIdxIfInBounds_toArray, erase_last]
  · rw [List.length_dropLast]
    omega




/-! ### list + list, list += list, list * int -/
def rCat : R2 := fun x y H Q => ∃ l b xs zs, x = .ref l ∧ y = .ref b ∧ H l = some (.lst xs) ∧ H b = some (.lst zs) ∧ xs.length + zs.length ≤ sizeLine ∧ ∀ p, H p = none → Q (.ref p) (upd H p (.lst (xs ++ zs)))
theorem op_cat : OpR X (binaryOp .Add) rCat := by
  intro pins s σ H x y v u Q I rx ry h
  obtain ⟨l, b, xs, zs, rfl, rfl, hH, hB, hz, q⟩ := h
  cases rx
  cases ry
  obtain ⟨z, its, n, r, hl, e⟩ := I.lstM hH
  obtain ⟨z2, its2, n2, r2, hl2, e2⟩ := I.lstM hB
  refine PySem.P.add_list e e2 ?_ (by rw [List.size_toArray, List.size_toArray]; omega)
  have ea : its.toArray ++ its2.toArray = (its ++ its2).toArray := by simp
  rw [ea]
  exact ⟨.ref _, _, I.lnew (t' := s.toks) (r.append r2) (by rw [List.length_append]; omega), rfl, q _ I.fresh⟩
/-- a list times an int (a negative one is nothing) -/
def rRep : R2 := fun x y H Q => ∃ l k xs, x = .ref l ∧ y = .int k ∧ H l = some (.lst xs) ∧ -(2 ^ 63) ≤ k ∧ k < 2 ^ 63 ∧ xs.length * k.toNat ≤ sizeLine ∧
  ∀ p, H p = none → Q (.ref p) (upd H p (.lst (List.replicate k.toNat xs).flatten))
theorem len_rep {α : Type} (xs : List α) (k : Nat) : (List.replicate k xs).flatten.length = k * xs.length := by
  induction k with
  | zero => simp
  | succ k ih => rw [List.replicate_succ, List.flatten_cons, List.length_append, ih, Nat.succ_mul, Nat.add_comm]
theorem op_rep : OpR X (binaryOp .Mult) rRep := by
  intro pins s σ H x y v u Q I rx ry h
  obtain ⟨l, k, xs, rfl, rfl, hH, h1, h2, hz, q⟩ := h
  cases rx
  obtain ⟨t, rfl⟩ := ry
  obtain ⟨z, its, n, r, hl, e⟩ := I.lstM hH
  have hlen : its.toArray.size * k.toNat ≤ sizeLine := by rw [List.size_toArray, ← hl]; exact hz
  have hcap : ¬ its.toArray.size * k.toNat > (2 ^ 63 - 1) / 8 := by
    have : (sizeLine : Nat) ≤ (2 ^ 63 - 1) / 8 := by decide
    omega
  have hfit : ¬ (!Builtin.List.listFitsIndex k) = true := by
    rw [fitsIndex_both h1 h2]
    exact Bool.false_ne_true
  have hlong : ¬ Builtin.List.listTooLong (its.toArray.size * k.toNat) = true := by
    rw [notLongL hlen]
    exact Bool.false_ne_true
  have hnew : List.foldl (fun x1 x2 => x1 ++ x2) #[] (List.replicate (if its.toArray.isEmpty = true then 0 else k.toNat) its.toArray) = (List.replicate k.toNat its).flatten.toArray := by
    have f0 : ∀ m : Nat, List.foldl (fun x1 x2 => x1 ++ x2) #[] (List.replicate m its.toArray) = (List.replicate m its).flatten.toArray := fun m => by
      have := foldl_rep its m []
      rw [List.nil_append] at this
      exact this
    rw [f0]
    cases its with
    | nil => simp
    | cons a r' => rw [if_neg (by simp)]
  refine wpAny_binaryOp_repeat_ref (T := "list") (U := "int") (by decide) ⟨_, e, rfl⟩ (fun s' => typeIs_int s' k t) noFill_list_mul F.fills_int_mul F.slot_int_rmul repeat_list F.slot_int_index.lookup
    (call_meets F.slot_int_rmul (typeIs_int s k t) F.entry_int_rmul (F.args_int_rmul_2 _ _) (int___rmul___int_list k t l its.toArray n)
      ⟨e, rfl, ⟨_, e, rfl⟩, call_meets F.slot_list_mul ⟨_, e, rfl⟩ F.entry_list_mul (F.args_list_mul_2 _ _) (AutoListH.list___mul___list_int_3 l its.toArray n k t hfit hcap hlong) ⟨e, ?_⟩⟩)
  rw [hnew]
  exact ⟨.ref _, _, I.lnew (t' := s.toks) (r.rep k.toNat) (by rw [len_rep, Nat.mul_comm]; exact hz), rfl, q _ I.fresh⟩

/-! ### del xs[i] -/
end

/-! ### xs[a:b] = ys -/
section
variable {prog : Program} {w : World} {A : Around} {E : Value → Shared → Prop} {s : Shared}
set_option maxRecDepth 100000 in
end

section
variable {X : Cx}
end
end L2

namespace L2
open PySem PySem.Spec PyProof.Rows

/-! ### lists of pairs as tables -/
section
variable {κ : Type} [DecidableEq κ]
def valV (kvs : List (κ × V)) (k : κ) : Option V := (kvs.find? fun kv => decide (kv.1 = k)).map (·.2)
/-- in its place, or at the end -/
def putK (kvs : List (κ × V)) (k : κ) (v : V) : List (κ × V) :=
  if (kvs.any fun kv => decide (kv.1 = k)) = true then kvs.map (fun kv => if kv.1 = k then (kv.1, v) else kv) else kvs ++ [(k, v)]

theorem valV_pos {p : κ × V} {r : List (κ × V)} {k : κ} (e : p.1 = k) : valV (p :: r) k = some p.2 := by simp [valV, List.find?_cons, e]
theorem valV_neg {p : κ × V} {r : List (κ × V)} {k : κ} (e : ¬ p.1 = k) : valV (p :: r) k = valV r k := by simp [valV, List.find?_cons, e]
theorem valV_any (k : κ) : ∀ kvs : List (κ × V), (kvs.any fun kv => decide (kv.1 = k)) = (valV kvs k).isSome
  | [] => rfl
  | p :: r => by
    rw [List.any_cons]
    by_cases e : p.1 = k
    · simp only [valV_pos e, decide_eq_true e, Bool.true_or, Option.isSome_some]
    · rw [valV_neg e, decide_eq_false e, Bool.false_or]; exact valV_any k r
theorem length_putK (kvs : List (κ × V)) (k : κ) (v : V) : (putK kvs k v).length ≤ kvs.length + 1 := by
  unfold putK
  split
  · rw [List.length_map]; omega
  · rw [List.length_append, List.length_cons, List.length_nil]; omega
theorem putK_new {kvs : List (κ × V)} {k : κ} (v : V) (h : valV kvs k = none) : putK kvs k v = kvs ++ [(k, v)] := by
  unfold putK
  rw [valV_any, h]
  exact if_neg (by decide)

theorem RelO.isSome_eq {o : Option V} {u : Option Value} (r : RelO o u) : o.isSome = u.isSome := by
  cases o with
  | none => cases u with
    | none => rfl
    | some _ => exact (show False from r).elim
  | some _ => cases u with
    | none => exact (show False from r).elim
    | some _ => rfl
theorem RelO.getD {o : Option V} {u : Option Value} {d : V} {d' : Value} (r : RelO o u) (rd : RelV d d') : RelV (o.getD d) (u.getD d') := by
  cases o with
  | none => cases u with
    | none => exact rd
    | some _ => exact (show False from r).elim
  | some _ => cases u with
    | none => exact (show False from r).elim
    | some _ => exact r

/-- raw tables of the same keys -/
theorem KV.val {kvs : List (κ × V)} {vs : List (κ × Value)} (r : KV kvs vs) (k : κ) : RelO (valV kvs k) (valueAt vs k) := by
  unfold KV at r
  induction r with
  | nil => exact True.intro
  | @cons p q ps qs h t ih =>
    obtain ⟨h1, h2⟩ := h
    by_cases e : p.1 = k
    · have e' : q.1 = k := h1.symm.trans e
      have b : valueAt (q :: qs) k = some q.2 := by simp [valueAt, List.find?_cons, e']
      rw [valV_pos e, b]; exact h2
    · have e' : ¬ q.1 = k := fun z => e (h1.trans z)
      have b : valueAt (q :: qs) k = valueAt qs k := by simp [valueAt, List.find?_cons, e']
      rw [valV_neg e, b]; exact ih
theorem KV.any {kvs : List (κ × V)} {vs : List (κ × Value)} (r : KV kvs vs) (k : κ) : (kvs.any fun kv => decide (kv.1 = k)) = vs.any fun kv => decide (kv.1 = k) := by
  unfold KV at r
  induction r with
  | nil => rfl
  | cons h t ih => rw [List.any_cons, List.any_cons, ih, h.1]
theorem KV.repl {kvs : List (κ × V)} {vs : List (κ × Value)} (r : KV kvs vs) (k : κ) {y : V} {u : Value} (ry : RelV y u) :
    KV (kvs.map fun kv => if kv.1 = k then (kv.1, y) else kv) (vs.map fun kv => if kv.1 = k then (kv.1, u) else kv) := by
  unfold KV at r ⊢
  induction r with
  | nil => exact .nil
  | @cons p q ps qs h t ih =>
    rw [List.map_cons, List.map_cons]
    refine .cons ?_ ih
    obtain ⟨h1, h2⟩ := h
    by_cases e : p.1 = k
    · rw [if_pos e, if_pos (h1.symm.trans e)]; exact ⟨h1, ry⟩
    · rw [if_neg e, if_neg (fun z => e (h1.trans z))]; exact ⟨h1, h2⟩
theorem KV.put {kvs : List (κ × V)} {vs : List (κ × Value)} (r : KV kvs vs) (k : κ) {y : V} {u : Value} (ry : RelV y u) : KV (putK kvs k y) (stored vs k u) := by
  unfold putK stored
  rw [r.any k]
  by_cases e : (vs.any fun kv => decide (kv.1 = k)) = true
  · rw [if_pos e, if_pos e]; exact r.repl k ry
  · rw [if_neg e, if_neg e]; exact Paired.snoc r ⟨rfl, ry⟩
theorem KV.length {kvs : List (κ × V)} {vs : List (κ × Value)} (r : KV kvs vs) : kvs.length = vs.length := Paired.length r
end


/-! ### a tracked dict, its keys ints and texts or tuples of these -/
theorem kV_is {P : Program} {w : World} {k : Key} {u : Value} (r : RelV (kV k) u) : (mixKind P w).is k u = true := by
  cases k with
  | inl i => obtain ⟨t, e⟩ := (show ∃ t, u = Value.int i t from r); subst e; exact mixKind_int P w i t
  | inr x => obtain ⟨t, e⟩ := (show ∃ t, u = Value.str x t from r); subst e; exact mixKind_str P w x t
theorem items_are {P : Program} {w : World} : ∀ {ks : List Key} {us : List Value}, Vals (ks.map kV) us → ItemsAre (mixKind P w) ks us
  | [], _, r => by rw [List.map_nil] at r; cases r; exact .nil
  | k :: ks, _, r => by
    rw [List.map_cons] at r
    cases r with
    | cons h t => exact .cons (kV_is h) (items_are t)

/-- raw entries of a dict with tuple keys -/
abbrev KT (H : Hp) : List (List Key × V) → List (List Key × Addr × Value) → Prop := Paired fun p q => p.1 = q.1 ∧ H q.2.1 = some (.tup (p.1.map kV)) ∧ RelV p.2 q.2.2
theorem KT.val {H : Hp} {kvs : List (List Key × V)} {xs : List (List Key × Addr × Value)} (r : KT H kvs xs) (k : List Key) : RelO (valV kvs k) ((atKey xs k).map (·.2)) := by
  induction r with
  | nil => exact True.intro
  | @cons p q ps qs h t ih =>
    obtain ⟨h1, _, h2⟩ := h
    by_cases e : p.1 = k
    · have e' : q.1 = k := h1.symm.trans e
      have b : atKey (q :: qs) k = some q.2 := by simp [atKey, List.find?_cons, e']
      rw [valV_pos e, b]; exact h2
    · have e' : ¬ q.1 = k := fun z => e (h1.trans z)
      have b : atKey (q :: qs) k = atKey qs k := by simp [atKey, List.find?_cons, e']
      rw [valV_neg e, b]; exact ih
theorem KT.repl {H : Hp} {kvs : List (List Key × V)} {xs : List (List Key × Addr × Value)} (r : KT H kvs xs) (k : List Key) {y : V} {u : Value} (ry : RelV y u) :
    KT H (kvs.map fun kv => if kv.1 = k then (kv.1, y) else kv) (xs.map (putAt k u)) := by
  induction r with
  | nil => exact .nil
  | @cons p q ps qs h t ih =>
    rw [List.map_cons, List.map_cons]
    refine .cons ?_ ih
    obtain ⟨h1, h2, h3⟩ := h
    unfold putAt
    by_cases e : p.1 = k
    · rw [if_pos e, if_pos (h1.symm.trans e)]; exact ⟨h1, h2, ry⟩
    · rw [if_neg e, if_neg (fun z => e (h1.trans z))]; exact ⟨h1, h2, h3⟩
theorem KT.put {H : Hp} {kvs : List (List Key × V)} {xs : List (List Key × Addr × Value)} (r : KT H kvs xs) (k : List Key) {b : Addr} {y : V} {u : Value} (hb : H b = some (.tup (k.map kV))) (ry : RelV y u) :
    KT H (putK kvs k y) (storedH xs k b u) := by
  have e : (kvs.any fun kv => decide (kv.1 = k)) = (atKey xs k).isSome := by
    rw [valV_any, (r.val k).isSome_eq, Option.isSome_map]
  unfold putK storedH
  rw [e]
  by_cases q : (atKey xs k).isSome = true
  · rw [if_pos q, if_pos q]; exact r.repl k ry
  · rw [if_neg q, if_neg q]; exact Paired.snoc r ⟨rfl, hb, ry⟩
theorem KT.keeps {H H' : Hp} {kvs : List (List Key × V)} {xs : List (List Key × Addr × Value)} (r : KT H kvs xs) (ht : ∀ b ys, H b = some (.tup ys) → H' b = some (.tup ys)) : KT H' kvs xs :=
  Paired.mapP r fun _ _ z => ⟨z.1, ht _ _ z.2.1, z.2.2⟩

section
variable {P : Program} {w : World} {H : Hp} {h : Heap} {a : Addr}
theorem rd_of {u : HO} (ok : HOk P w H h) (e : Rd H a u) : ObjOk P w H h a u := e.ok ok
theorem dk_rd {kvs : List (Key × V)} (ok : HOk P w H h) (e : Rd H a (.dK kvs)) : kvs.length ≤ sizeLine ∧ (a == sysModules) = false ∧ ∃ vs, KV kvs vs ∧ h.DictOf (mixKind P w) a vs :=
  show ObjOk P w H h a (.dK kvs) from rd_of ok e
theorem dk_of {kvs : List (Key × V)} (ok : HOk P w H h) (e : H a = some (.dK kvs)) : kvs.length ≤ sizeLine ∧ (a == sysModules) = false ∧ ∃ vs, KV kvs vs ∧ h.DictOf (mixKind P w) a vs := dk_rd ok (.inl e)
/-- a tracked tuple of ints and texts is a key -/
theorem key_of {ks : List Key} (ok : HOk P w H h) (e : H a = some (.tup (ks.map kV))) : (tupleKind (mixKind P w)).is h ks a := by
  obtain ⟨_, its, r, o, h1, h2, n, h3⟩ := (show ObjOk P w H h a (.tup (ks.map kV)) from ok a _ e)
  exact ⟨o, its.toArray, n, h1, h2, h3, by simpa using items_are r⟩
theorem dt_rd {kvs : List (List Key × V)} (ok : HOk P w H h) (e : Rd H a (.dT kvs)) : kvs.length ≤ sizeLine ∧ (a == sysModules) = false ∧
    ∃ xs, KT H kvs xs ∧ h.DictOfH (tupleKind (mixKind P w)) a xs := by
  obtain ⟨z, y, xs, r, o, es, ep, h1, h2, h3, h4, h5⟩ := (show ObjOk P w H h a (.dT kvs) from rd_of ok e)
  refine ⟨z, y, xs, r, o, es, ep, h1, h2, h3, h4, fun x hx => ?_, h5⟩
  have all : ∀ {l : List (List Key × V)} {m : List (List Key × Addr × Value)}, KT H l m → ∀ x ∈ m, (tupleKind (mixKind P w)).is h x.1 x.2.1 := by
    intro l m q
    induction q with
    | nil => intro x hx; exact nomatch hx
    | @cons p q ps qs hq t ih =>
      intro x hx
      rcases List.mem_cons.mp hx with e | hx
      · subst e
        exact key_of ok (by rw [← hq.1]; exact hq.2.1)
      · exact ih x hx
  exact all r x hx
theorem dt_of {kvs : List (List Key × V)} (ok : HOk P w H h) (e : H a = some (.dT kvs)) : kvs.length ≤ sizeLine ∧ (a == sysModules) = false ∧
    ∃ xs, KT H kvs xs ∧ h.DictOfH (tupleKind (mixKind P w)) a xs := dt_rd ok (.inl e)
end

/-- what the dict at a holds at the key y -/
def DGet (H : Hp) (a : Addr) (y : V) (r : Option V) : Prop :=
  (∃ kvs k, Rd H a (.dK kvs) ∧ y = kV k ∧ r = valV kvs k) ∨ ∃ kvs k b, Rd H a (.dT kvs) ∧ y = .ref b ∧ H b = some (.tup (k.map kV)) ∧ r = valV kvs k
/-- the heap behind a[y] = v -/
def DPut (H : Hp) (a : Addr) (y v : V) (H' : Hp) : Prop :=
  (∃ kvs k, H a = some (.dK kvs) ∧ y = kV k ∧ kvs.length < sizeLine ∧ H' = upd H a (.dK (putK kvs k v))) ∨
  ∃ kvs k b, H a = some (.dT kvs) ∧ y = .ref b ∧ H b = some (.tup (k.map kV)) ∧ kvs.length < sizeLine ∧ H' = upd H a (.dT (putK kvs k v))
theorem DGet.k {H : Hp} {a : Addr} {kvs : List (Key × V)} {k : Key} (e : H a = some (.dK kvs)) : DGet H a (kV k) (valV kvs k) := .inl ⟨kvs, k, .inl e, rfl, rfl⟩
theorem DPut.k {H : Hp} {a : Addr} {kvs : List (Key × V)} {k : Key} {v : V} (e : H a = some (.dK kvs)) (hl : kvs.length < sizeLine) : DPut H a (kV k) v (upd H a (.dK (putK kvs k v))) := .inl ⟨kvs, k, e, rfl, hl, rfl⟩


section
variable {X : Cx} {pins : List (Addr × Obj)} {σ : St} {H : Hp} {s : Shared} {a : Addr} {y v : V} {u r : Value} {o : Option V} {A : Around} {E : Value → Shared → Prop}

theorem Inv.big (I : Inv X pins σ H s) : sysModules < s.heap.objs.size := by
  have h : mainGlobals < s.heap.objs.size := (I.mod.glob.keeps I.bk).lt
  exact Nat.lt_trans (by decide) h

theorem d_notIn {Q : Value → Shared → Prop} (hu : A.units + 1 < cLine) (I : Inv X pins σ H s) (g : DGet H a y o) (ry : RelV y u) (h : ∀ s', Inv X pins σ H s' → Q (.bool (!o.isSome)) s') :
    wpAny (model X.prog X.w) A (compareOp .NotIn u (.ref a)) Q E s := by
  rcases g with ⟨kvs, k, e, ey, l⟩ | ⟨kvs, k, b, e, ey, eb, l⟩
  · subst ey
    obtain ⟨z, hd, vs, rel, dd⟩ := dk_rd I.hok e
    refine wpAny_notIn_of (kV_is ry) hd dd.mapOf ?_
    rw [← (rel.val k).isSome_eq, ← l]
    exact h _ (I.tok _)
  · subst ey
    cases (show u = Value.ref b from ry)
    obtain ⟨z, hd, xs, rel, dd⟩ := dt_rd I.hok e
    refine wpAny_notIn_heap (tupleKind_room_in1 hu) (key_of I.hok eb) hd dd ?_
    have q := (rel.val k).isSome_eq
    rw [Option.isSome_map] at q
    rw [← q, ← l]
    exact h _ (I.tok _)
/-- a dict's object is replaced -/
theorem d_write {h' : Heap} {t' : Nat} {ob : HO} (I : Inv X pins σ H s) (mu : Mut (H a)) (hs : Heap.SameBut a s.heap h') (he : ∃ q, h'.get? a = some q) (new : ObjOk X.prog X.w (upd H a ob) h' a ob) :
    Inv X pins σ (upd H a ob) { s with heap := h', toks := t' } :=
  I.write (x := a) (e := a) mu (.inl rfl) (fun b q hb z => (hs.2 b hb).trans z) he new
theorem dk_new {P : Program} {w : World} {H' : Hp} {h' : Heap} {kvs : List (Key × V)} {vs : List (Key × Value)} (z : kvs.length ≤ sizeLine) (hd : (a == sysModules) = false) (rel : KV kvs vs) (dd : h'.DictOf (mixKind P w) a vs) :
    ObjOk P w H' h' a (.dK kvs) := ⟨z, hd, vs, rel, dd⟩
/-- d[y] = v -/
theorem d_setItem {H' : Hp} {Q : Unit → Shared → Prop} (hu : A.units + 1 < cLine) (I : Inv X pins σ H s) (g : DPut H a y v H') (ry : RelV y u) (rv : RelV v r) (h : ∀ s', Inv X pins σ H' s' → Q () s') :
    wpAny (model X.prog X.w) A (setItem (.ref a) u r) Q E s := by
  rcases g with ⟨kvs, k, e, ey, l, eH⟩ | ⟨kvs, k, b, e, ey, eb, l, eH⟩
  · subst ey eH
    obtain ⟨z, hd, vs, rel, dd⟩ := dk_of I.hok e
    have hz : vs.length ≤ sizeLine := by rw [← rel.length]; exact z
    have hl : (putK kvs k v).length ≤ sizeLine := by have := length_putK kvs k v; omega
    refine wpAny_setItem_pairs (hsz := hz) (kV_is ry) dd fun h' dd' hs => h _ ?_
    have he : ∃ q, h'.get? a = some q := let ⟨q, _, _, hq, _⟩ := dd'; ⟨q, hq⟩
    exact d_write I (by rw [e]; exact True.intro) hs he (dk_new hl hd (rel.put k rv) dd')
  · subst ey eH
    cases (show u = Value.ref b from ry)
    obtain ⟨z, hd, xs, rel, dd⟩ := dt_of I.hok e
    have hz : xs.length ≤ sizeLine := by rw [← Paired.length rel]; exact z
    have hl : (putK kvs k v).length ≤ sizeLine := by have := length_putK kvs k v; omega
    refine wpAny_setItem_heap (hsz := hz) (tupleKind_room_in1 hu) (key_of I.hok eb) dd fun h' dd' hs => h _ ?_
    obtain ⟨q, es, ep, hq, h2, h3, h4, _, h5⟩ := dd'
    refine d_write I (by rw [e]; exact True.intro) hs ⟨q, hq⟩ ⟨hl, hd, _, (rel.put k eb rv).keeps fun c ys ec => ?_, q, es, ep, hq, h2, h3, h4, h5⟩
    rw [upd_ne (ne_of ec e (fun z => nomatch z))]
    exact ec
end

section
variable {X : Cx} {pins : List (Addr × Obj)} {σ : St} {H : Hp} {s : Shared} {a : Addr} {kvs : List (Key × V)} {k : Key} {u : Value} {A : Around} {E : Value → Shared → Prop}
end


/-! ### readings and rules -/
/-- the element of a subscription, not a slice -/
def NoSl (i : Expr) : Prop := ∀ ov iv, subscripted i false ov iv = operate [ov, iv] (getItem ov iv)
theorem subD_of {prog : Program} {w : World} {A : Around} {E : Value → Shared → Prop} {s : Shared} {env : Env} {value slice : Expr} {pos : Pos} {T id : String} {Q : Value → Shared → Prop}
    (hl : typeLookup (.type T) "__getitem__" = pure (some (.builtin id))) (hs : NoSl slice)
    (h : wpAny (model prog w) A (eval value env) (fun o s₁ => wpAny (model prog w) A (eval slice env) (fun i s₂ => s₂.TypeIs o T ∧ wpAny (model prog w) A (getItem o i) Q E s₂) E s₁) E s) :
    wpAny (model prog w) A (eval (.Subscript value slice pos) env) Q E s := by
  refine Subscript_ (wpAny_mono h (fun o s₁ h₁ => wpAny_mono h₁ (fun i s₂ h₂ => ?_) fun _ _ x => x) fun _ _ x => x)
  obtain ⟨hT, h₂⟩ := h₂
  unfold subscriptTail
  refine wpAny_bind ?_
  rw [getitemInPython_of_ne hT.not_modules]
  refine wpAny_bind (wpAny_specialOf hT hl ?_)
  have fin : wpAny (model prog w) A (subscripted slice false o i) (fun r s₃ => wpAny (model prog w) A (letTemporaryGo value o r >>= fun _ => pure r) Q E s₃) E s₂ := by
    rw [hs o i]
    exact wpAny_operating (wpAny_mono h₂ (fun r s₃ h₃ => wpAny_bind (wpAny_letTemporaryGo (wpAny_pure h₃))) fun _ _ x => x)
  first
    | exact wpAny_pure (wpAny_bind fin)
    | exact wpAny_bind (wpAny_pure (wpAny_bind fin))
    | exact wpAny_bind fin


def tDNotIn (ty td : TE) : TE := fun σ H Q => ty σ H fun y H1 => td σ H1 fun x H2 => ∃ a o, x = .ref a ∧ DGet H2 a y o ∧ Q (.bl (!o.isSome)) H2
/-- d[y] = v -/
def sDPut (td ty tv : TE) : TS := fun D σ H => tv σ H fun v H1 => td σ H1 fun x H2 => ty σ H2 fun y H3 => ∃ a H4, x = .ref a ∧ DPut H3 a y v H4 ∧ D.nx σ H4

section
variable {X : Cx} {o i e value : Expr} {pos pos' tpos : Pos} {td ty tv : TE}
theorem pc_dnotin (hu : X.A.units + 1 < cLine) (hi : PE X i ty) (ho : PE X o td) : PC X .NotIn i o (tDNotIn ty td) := by
  intro pins s σ H Q I h
  refine thn (hi pins s σ H _ I h) fun iv s1 ⟨y, H1, I1, ry, q1⟩ => thn (ho pins s1 σ H1 _ I1 q1) fun u s2 ⟨x, H2, I2, rx, a, ov, ex, g, q2⟩ => ?_
  subst ex
  obtain rfl : u = Value.ref a := rx
  exact d_notIn hu I2 g ry fun s3 I3 => ⟨.bl (!ov.isSome), H2, I3, rfl, q2⟩
theorem ps_dput (hu : X.A.units + 1 < cLine) (ho : PE X o td) (hi : PE X i ty) (hv : PE X value tv) (hs : swapsWith value (some (.Subscript o i pos')) pos.line X.env = pure false) :
    PS X (.Assign [.Subscript o i pos'] value pos) (sDPut td ty tv) := by
  intro pins s σ H D I h
  refine wpAny_Assign_Subscript (thn (hv pins s σ H _ I h) fun r s1 ⟨v, H1, I1, rv, q1⟩ => thn (ho pins s1 σ H1 _ I1 q1) fun u s2 ⟨x, H2, I2, rx, q2⟩ => thn (hi pins s2 σ H2 _ I2 q2) fun iv s3 ⟨y, H3, I3, ry, a, H4, ex, g, q3⟩ => ?_) hs
  subst ex
  obtain rfl : u = Value.ref a := rx
  exact d_setItem hu I3 g ry rv fun s4 I4 => ⟨σ, H4, I4, q3⟩
end


/-! ### displays -/
theorem dk_empty {P : Program} {w : World} {H : Hp} (h : Heap) (hb : sysModules < h.objs.size) : ObjOk P w H (h.push { cls := .type "dict", data := .dict #[] }) h.objs.size (.dK []) :=
  ⟨Nat.zero_le _, beq_eq_false_iff_ne.mpr (Ne.symm (Nat.ne_of_lt hb)), [], .nil, Heap.DictOf.new h⟩
/-- {}, to be a dict of the kind that is wanted -/
def tDNewK : TE := fun _ H Q => ∀ p, H p = none → Q (.ref p) (upd H p (.dK []))
section
variable {X : Cx} {pos : Pos}
theorem pe_dnewK : PE X (.Dict [] [] pos) tDNewK := fun pins s σ H Q I h =>
  wpAny_Dict_empty ⟨.ref s.heap.objs.size, _, I.laid (a := s.heap.objs.size) (o := .dK []) (t' := s.toks) (fun _ _ q => Heap.get?_push_of_some _ q) (Nat.le_refl _) (dk_empty s.heap I.big), rfl, h _ (I.hok.fresh (Nat.le_refl _))⟩
end




/-! ### methods -/
structure M2 (X : Cx) (o : Expr) (m : Str) (apos : Pos) (e f : Expr) (cpos : Pos) : Prop where
  base : attributeBase o m X.env (eval o X.env) = eval o X.env
  few : ((backTo cpos (starEach [e, f] X.env)).all (fun x => !x.1) && (backToKw cpos (keywordEach [] X.env)).all (fun x => x.1.isSome)
    && decide (([e, f] : List Expr).length + ([] : List Keyword).length + (if ([] : List Keyword).isEmpty then 0 else 1) < 30)) = true
  line : (apos.endLine == cpos.line) = true
  trees : backTo cpos (starEach [e, f] X.env) = [(false, eval e X.env), (false, eval f X.env)]


section
variable {X : Cx} {pins : List (Addr × Obj)} {σ : St} {H : Hp} {s : Shared} {a : Addr} {y d : V} {u r : Value} {o : Option V} {A : Around} {E : Value → Shared → Prop}
end

section
variable {X : Cx} {o e f : Expr} {apos cpos : Pos} {td ty tx : TE}
end

/-! ### dict(d): a copy -/
section
variable {X : Cx} {pins : List (Addr × Obj)} {σ : St} {H : Hp} {s : Shared} {a : Addr} {kvs : List (Key × V)} {A : Around} {E : Value → Shared → Prop}
end


section
variable {X : Cx} {pins : List (Addr × Obj)} {σ : St} {H : Hp} {s : Shared} {a : Addr} {y : V} {u : Value} {A : Around} {E : Value → Shared → Prop}
end
end L2

namespace Att
open PySem PySem.W PySem.Calls PyProof.Rows

/-! ### the script -/
theorem ints_of_wellAll {P : Params} {h : Heap} : ∀ (ns : List Int) (vs : List Value), WellAll P h vs (ns.map WData.int) → IntsAre vs ns := by
  intro ns
  induction ns with
  | nil =>
    intro vs w
    rw [List.map_nil] at w
    cases w
    exact .nil
  | cons n ns ih =>
    intro vs w
    rw [List.map_cons] at w
    cases w with
    | cons a b =>
      cases a
      exact .cons _ _ (ih _ b)

theorem script_of {l : OpenLaw} {n : Nat} (hn : l.most = some n) {P : Params} {h : Heap} {args : List WData} {vals : List Value}
    (hpre : l.row.toRowW.claim.pre args = true) (hwl : WellAll P h vals args) :
    ∃ a vs ns, vals = [Value.ref a] ∧ args = [WData.list (ns.map WData.int)] ∧ h.get? a = some { cls := .type "list", data := .seq vs.toArray } ∧ IntsAre vs ns ∧ ns.length ≤ n := by
  have hsh : WShape.hasAll [] args [.list .int] = true := (pre_splitW hpre).1
  have hc : l.pre.holds [] { args := args } = true := (pre_splitW hpre).2
  obtain ⟨d, r, rfl, h1, h2⟩ := hasAllW_cons hsh
  obtain rfl := hasAllW_nil h2
  obtain ⟨xs, rfl, h3⟩ := hasW_list h1
  obtain ⟨ns, rfl⟩ := items_int h3
  have hlen : ns.length ≤ n := by
    unfold OpenLaw.pre at hc
    have h4 : (WTm.not (.lt (.lit (.int (n : Int))) (.len (.arg 0)))).holds [] { args := [.list (ns.map .int)] } = true := by
      have h4 := (holds_andW hc).1
      rw [hn] at h4
      exact h4
    have h5 := condW_of h4 (w_not (w_lt w_lit (w_len_list (w_arg rfl))))
    rw [List.length_map] at h5
    refine Nat.le_of_not_lt fun q => ?_
    have q' : (n : Int) < ((ns.length : Nat) : Int) := by omega
    first
      | (rw [decide_eq_true q'] at h5; exact absurd h5 (by decide))
      | (simp at h5; omega)
  cases hwl with
  | cons w1 w2 =>
    cases w2
    cases w1 with
    | list ho hall => exact ⟨_, _, ns, rfl, rfl, ho, ints_of_wellAll ns _ hall, hlen⟩

theorem post_true (l : OpenLaw) (args : List WData) : l.row.toRowW.claim.post args (.bool true) args = true :=
  postW_of (r := l.row.toRowW) (X := (true == true))
    (show WShape.has [] (.bool true) .bool = true by first | rfl | decide | simp [WShape.has, WShape.arms, WShape.armsAll])
    (show (WTm.eq .res (.lit (.bool true))).value [] { args := args, res := some (.bool true), after := args } = some (.bool (true == true)) from w_eq_bool (w_res rfl) w_lit) rfl

/-! ### the attachment: holds_open's last premise (the goal 'hc' behind k_head) from a wpAny of the law's body -/

/-- the same from a codeAny of the CALL (for a layer whose function contracts speak of calls) -/
theorem attach_call {l : OpenLaw} {n : Nat} {q : Program} {loose : List Str} {XP : (Str → Option Value) → Heap → Prop} {YP : World → Heap → Prop} {d : DefRec}
    (hn : l.most = some n) (hdf : d.params.defaults = [])
    (call : ∀ (w : World) (s₀ s₁ : Shared) (mg mb : Str → Option Value) (fa : Addr) (o : Obj) (pm cd doc : Value) (a : Addr) (vs : List Value) (ns : List Int),
      Ground q loose [] XP w s₀ mg mb s₁.heap → YP w s₁.heap →
      s₁.heap.get? fa = some o → o.data = .func (docDef d.name d.params d.body d.scope pm cd doc) → s₁.heap.CodeRec cd d.name → mg d.name = some (.ref fa) →
      s₁.heap.get? a = some { cls := .type "list", data := .seq vs.toArray } → IntsAre vs ns → ns.length ≤ n → s₁.gens = #[] →
      codeAny (model l.prog w) callerA (.call (.ref fa) ⟨[.ref a], []⟩) (fun r s' => r = .ok (.ret (.bool true)) ∧ OldK s₁.heap s'.heap ∧ s'.os = s₁.os ∧ AllBare s'.gens) s₁) :
    WalkO q loose XP YP l.row.toRowW d [] (fun f vs => PySem.call f vs) := by
  intro w s₀ s₁ mg mb G Y fa o pm cd doc dV kV ho hd hcd hD hmg hg args vals as hpre hlay hrd hwl hlo
  obtain rfl : dV = .none := Dflts.none hD hdf
  obtain rfl : kV = .none := Dflts.noKw hD
  obtain ⟨a, vs, ns, rfl, rfl, hobj, hints, hlen⟩ := script_of hn hpre hwl
  refine enter_call (codeAny_mono (call w s₀ s₁ mg mb fa o pm cd doc a vs ns G Y ho (fd_plain hd) hcd hmg hobj hints hlen hg) fun r s' hq => ?_)
  obtain ⟨rfl, h2, h3, h4⟩ := hq
  exact ⟨.inl ⟨.bool true, .bool true, [], rfl, fun _ => rfl, .bool true, post_true l _, fun _ => ⟨List.Pairwise.nil, fun _ hm => (nomatch hm)⟩⟩, h2, h3, h4⟩


/-! ### rules over ANY heap (no ledger) from facts about the written part K: the library's own take a ledger (News) for what they write -/
section
variable {prog : Program} {w : World} {A : Around} {E : Value → Shared → Prop} {s : Shared} {K : Frag}





/-! the whole heap as the ledger: makes every rule that writes through a ledger a rule over any heap -/

end
end Att

namespace L2
open PySem PySem.Spec PyProof.Rows

theorem vals_ints : ∀ {vs : List Value} {ns : List Int}, IntsAre vs ns → Vals (ns.map V.int) vs
  | _, _, .nil => .nil
  | _, _, .cons n t h => .cons ⟨t, rfl⟩ (vals_ints h)

/-- nothing is tracked but the script, known to the object (or it is an object of the module) -/
def Only (H : Hp) : Prop := ∀ b, H b = none ∨ ∃ o xs, H b = some (.frz o (.lst xs))

/-- THE HEAD: the law's promise, at the heap behind the top. F, the promise of the law's def, may use that base is part of the heap (so K.In base, base.Ns mainGlobals mg stand in Mod) -/
theorem law_call {P : Program} {w : World} {K : PySem.W.Frag} {mg mb : Str → Option Value} {CX : CXT} {k : Nat} {fa a : Addr} {fd : FuncData} {x : Str} {sp : Sp} {s₁ : Shared} {vs : List Value} {ns : List Int}
    (KX : K.In s₁.heap) (hns : s₁.heap.Ns mainGlobals mg) (hb : s₁.heap.Ns builtinsNs mb) (hbb : ∀ x : Str, x ≠ "__name__" → mb x = bootBuiltins x) (hlim : s₁.heap.NoLimit) (hg : s₁.gens = #[])
    (ha : s₁.heap.get? a = some { cls := .type "list", data := .seq vs.toArray }) (hi : IntsAre vs ns) (hl : ns.length ≤ sizeLine) (hr : Room k callerA)
    (F : ∀ base : Heap, K.In base → base.Ns mainGlobals mg → FnOk P w K mg base CX k fa fd [x] sp) (hbind : ∀ (s : Shared) (u : Value), BindsTo s fd ⟨[u], []⟩ [(x, u)])
    (hsp : ∀ H : Hp, Only H → SqL K H a (ns.map V.int) → sp [.ref a] H (fun v _ => v = .bl true) fun _ _ _ => False)
    (hCX : ∀ H e s', CX [] H s₁ (fun _ _ _ => False) e s' → False) :
    codeAny (model P w) callerA (.call (.ref fa) ⟨[.ref a], []⟩) (fun r s' => r = .ok (.ret (.bool true)) ∧ OldK s₁.heap s'.heap ∧ s'.os = s₁.os ∧ AllBare s'.gens) s₁ := by
  have rv := vals_ints hi
  have lenV := hi.length
  -- from an abstract heap in which nothing but the script may be tracked
  have core : ∀ H : Hp, Only H → SqL K H a (ns.map V.int) → HOk P w H s₁.heap → (∀ b, H b ≠ none → b = a) → (H a ≠ none → K.lookup a = none) →
      codeAny (model P w) callerA (.call (.ref fa) ⟨[.ref a], []⟩) (fun r s' => r = .ok (.ret (.bool true)) ∧ OldK s₁.heap s'.heap ∧ s'.os = s₁.os ∧ AllBare s'.gens) s₁ := by
    intro H hO hS hok hA hK
    have base_of : ∀ {b : Addr} {o : Obj}, s₁.heap.get? b = some o → H b = none → (hidT s₁.heap H).get? b = some o := fun e n => hidT_get e n
    have noA : ∀ {b : Addr} {o : Obj} {es : Array DictEntry} {ep : Nat}, s₁.heap.get? b = some o → o.data = .dict es ep → H b = none := fun {b o es ep} e d => by
      cases q : H b with
      | none => rfl
      | some u =>
        have e' : b = a := hA b (by rw [q]; simp)
        subst e'
        rw [ha] at e; cases e
        have d' : Data.seq vs.toArray _ = Data.dict es ep := d
        cases d'
    have nsK : ∀ {b : Addr} {m : Str → Option Value}, s₁.heap.Ns b m → (hidT s₁.heap H).Ns b m := fun {b m} ⟨o, es, ep, e, d, r⟩ => ⟨o, es, ep, base_of e (noA e d), d, r⟩
    have hKb : K.In (hidT s₁.heap H) := fun b o e => base_of (KX b o e) (by
      cases q : H b with
      | none => rfl
      | some u =>
        have e' : b = a := hA b (by rw [q]; simp)
        subst e'
        rw [hK (by rw [q]; simp)] at e; cases e)
    have hM : Mod K mg (hidT s₁.heap H) := ⟨hKb, nsK hns, ⟨mb, nsK hb, hbb⟩, let ⟨mc, h1, h2⟩ := hlim; ⟨mc, nsK h1, h2⟩⟩
    have e0 : Env0 P w K mg (hidT s₁.heap H) callerA [] s₁ H := ⟨rfl, hM, fun b o e => of_hidT e, Nat.le_of_eq (hidT_size _ _), trivial, fun b hb => absurd (show b ∈ ([] : List Addr) from hb) (by simp), hok, .of_eq hg⟩
    refine codeAny_mono ((F _ hKb (nsK hns)).run callerA [] s₁ H ⟨[.ref a], []⟩ [.ref a] [.ref a] _ _ hr e0 (hbind s₁ (.ref a)) (.cons rfl .nil) (hsp H hO hS)) fun r s' h => ?_
    cases r with
    | error e => exact (hCX H e s' h).elim
    | ok fl =>
      cases fl with
      | next => exact False.elim h
      | brk => exact False.elim h
      | cont => exact False.elim h
      | ret u =>
        obtain ⟨v, H', os, bare, un, hok', r', q⟩ := h
        have q' : v = .bl true := q
        subst q'
        obtain rfl : u = Value.bool true := r'
        refine ⟨rfl, OldK.of_keep fun b o e => ?_, os, bare⟩
        cases q : H b with
        | none => exact un.keep b o e q (by intro z; exact absurd (show b ∈ ([] : List Addr) from z) (by simp)) (by simp)
        | some u =>
          rcases hO b with z | ⟨ob, xs, z⟩
          · rw [q] at z; cases z
          · have z2 := un.frzs b ob _ z
            obtain ⟨e1, _⟩ := hok b _ z
            obtain ⟨e2, _⟩ := hok' b _ z2
            rw [e] at e1; cases e1
            exact e2
  cases hk : K.lookup a with
  | some o =>
    -- the script is one of the module's own objects
    have e := KX a o hk
    rw [ha] at e
    cases e
    refine core (fun _ => none) (fun _ => .inl rfl) (.inr ⟨_, vs.toArray, _, hk, rfl, rfl, rfl, by rw [List.size_toArray, lenV]; exact hl, by simpa using rv⟩) (fun b u z => by have z' : (none : Option HO) = some u := z; cases z') (fun b z => absurd rfl z) fun z => absurd rfl z
  | none =>
    refine core (fun b => if b = a then some (.frz { cls := .type "list", data := .seq vs.toArray } (.lst (ns.map V.int))) else none) (fun b => ?_) (.inl (.inr ⟨{ cls := .type "list", data := .seq vs.toArray }, if_pos rfl⟩)) (fun b u z => ?_) (fun b z => ?_) fun _ => hk
    · by_cases hb : b = a
      · exact .inr ⟨_, _, if_pos hb⟩
      · exact .inl (if_neg hb)
    · by_cases hb : b = a
      · have z' := (if_pos hb).symm.trans z
        cases z'
        subst hb
        exact ⟨ha, by rw [List.length_map]; exact hl, vs, _, rv, ha⟩
      · have z' := (if_neg hb).symm.trans z
        cases z'
    · by_cases hb : b = a
      · exact hb
      · exact absurd (if_neg hb) z
end L2

namespace L2
open PySem PySem.Spec PyProof.Rows


/-- the goal that k_head leaves (case hc), from the law's promise. F gives the function object fd (K's own) once, then the promise over every base -/
theorem walk_of {l : PySem.W.OpenLaw} {n k : Nat} {q : Program} {loose : List Str} {XP : (Str → Option Value) → Heap → Prop} {YP : World → Heap → Prop} {d : DefRec} {K : Params → PySem.W.Frag} {CX : World → CXT} {sp : World → Sp} {x : Str}
    (hn : l.most = some n) (hn2 : n ≤ sizeLine) (hdf : d.params.defaults = []) (hr : Room k callerA)
    (hY : ∀ (w : World) (h : Heap), YP w h → (K w.params).In h)
    (F : ∀ (w : World) (mg : Str → Option Value) (fa : Addr) (h : Heap), (K w.params).In h → h.Ns mainGlobals mg → mg d.name = some (.ref fa) →
      ∃ fd : FuncData, (∀ (s : Shared) (u : Value), BindsTo s fd ⟨[u], []⟩ [(x, u)]) ∧
        ∀ base : Heap, (K w.params).In base → base.Ns mainGlobals mg → FnOk l.prog w (K w.params) mg base (CX w) k fa fd [x] (sp w))
    (hsp : ∀ (w : World) (H : Hp) (a : Addr) (ns : List Int), ns.length ≤ n → Only H → SqL (K w.params) H a (ns.map V.int) → sp w [.ref a] H (fun v _ => v = .bl true) fun _ _ _ => False)
    (hCX : ∀ (w : World) (H : Hp) (s : Shared) (e : Value) (s' : Shared), CX w [] H s (fun _ _ _ => False) e s' → False) :
    PySem.W.WalkO q loose XP YP l.row.toRowW d [] (fun f vs => PySem.call f vs) := by
  refine Att.attach_call hn hdf fun w s₀ s₁ mg mb fa o pm cd doc a vs ns G Y ho hd hcd hmg hobj hints hlen hg => ?_
  have KX := hY w _ Y
  obtain ⟨fd, hb, hF⟩ := F w mg fa _ KX G.T.g hmg
  exact law_call KX G.T.g G.T.b G.T.builtins G.T.nolimit hg hobj hints (Nat.le_trans hlen hn2) hr hF hb (fun H hO hS => hsp w H a ns hlen hO hS) fun H e s' => hCX w H s₁ e s'
end L2

/- THE LAST THEOREM (shape; LID, My.* are yours):
   My.Adr: a structure of the addresses that your layer names (classes, functions); My.Txt K t: a structure (Prop) of the equations over K;
   My.txt_mk : {K} {implicit addresses ..} (e1 : nsIn K mainGlobals "law" = some (some (.ref f))) (e2 : K.lookup f = some ⟨oc, od, .func (fnOf "law" "law" params body scope dV kV doc pm an cdv ct), sl⟩) (e3 : codeIn K cdv "law" = true) .. : ∃ t, My.Txt K t

set_option maxRecDepth 100000 in
set_option maxHeartbeats 0 in
theorem PySem.Challenge.cw_LID_holds : PySem.Challenge.rw_LID.Holds := by
  w_on; o_law; k_head; (case hw => w_witness2)
  k_fill
  refine L2.walk_of (l := PySem.Challenge.rw_LID) (n := 63) (k := 40) (x := "script") (CX := fun w => ..) (sp := fun _ => My.sp_law) rfl (by decide) rfl ⟨rfl, by decide, by decide⟩ (fun w h Y => PySem.W.kIn_of Y) ?F ?S ?C
  case F =>
    intro w mg fa h KX G hmg
    have T : ∃ t, My.Txt (L2.KOf KX) t := by
      dsimp only [L2.KOf]                          -- K must stand as «<heap const> w.params» for k_is
      refine' My.txt_mk ?e1 ?e2 ?e3 ..
      (case e1 => PySem.W.k_is)                    -- in the order: a name -> its address -> its object -> its parts
      (case e2 => PySem.W.k_is)
      ..
    obtain ⟨t, T⟩ := T
    have e0 := hmg.symm.trans (PySem.W.mg_of KX G T.law)
    cases e0                                       -- fa is the law's own address
    exact ⟨_, fun s u => .of_eq rfl, fun base kb nb => My.law_fn T kb nb⟩     -- if «.of_eq rfl» comes too early: refine' ⟨_, ?b, fun base kb nb => My.law_fn T kb nb⟩; exact fun s u => .of_eq rfl
  case S => exact fun w H a ns hl hO hS => ..
  case C => exact ..
(the tactic k_is has no namespace: write k_is) -/

/-! SHORT WORDS over the layer: a def of the text, its body, what a loop and a test want. -/
namespace L2
open PySem PySem.Spec PyProof.Rows

/-! ### the text by places -/
/-- the j-th statement of a class's body -/
def inClass (s : Stmt) (j : Nat) : Stmt := match s with
  | .ClassDef _ _ _ body _ _ _ _ _ _ _ => body.getD j (.Pass ⟨0, 0, 0, 0⟩)
  | _ => .Pass ⟨0, 0, 0, 0⟩
def defArgs (s : Stmt) : Arguments := match s with
  | .FunctionDef _ a _ _ _ _ _ _ _ _ => a
  | _ => { posonlyargs := [], args := [], vararg := none, kwonlyargs := [], kw_defaults := [], kwarg := none, defaults := [] }
def defBody (s : Stmt) : List Stmt := match s with
  | .FunctionDef _ _ b _ _ _ _ _ _ _ => b
  | _ => []
def defScope (s : Stmt) : Scope := match s with
  | .FunctionDef _ _ _ _ _ _ sc _ _ _ => sc
  | _ => { kind := .function, names := [], isGenerator := false, isCoroutine := false }

/-! ### no exception leaves a def -/
abbrev CX0 : CXT := fun _ _ _ _ _ _ => False
abbrev E0 : XK := fun _ _ _ => False
theorem pass0 {X : Cx} : Passes CX0 X E0 := fun _ _ _ _ _ _ _ h => h.elim

/-! ### a def (or method) of the text as it stands behind the top -/
structure Fun (K : PySem.W.Frag) (x qual : Str) (st : Stmt) (f : Addr) (fd : FuncData) : Prop where
  ex : ∃ (oc : Value) (od : Option Addr) (kV doc pm : Value) (an : Option Addr) (cdv ct : Value) (osl : Array (Option Value)),
    fd = PySem.W.fnOf x qual (defArgs st) (defBody st) (defScope st) .none kV doc pm an cdv ct ∧ K.lookup f = some ⟨oc, od, .func fd, osl⟩ ∧ PySem.W.codeIn K cdv qual = true
  kp : PySem.W.keepIn K (.ref f) = true
section
variable {P : Program} {w : World} {K : PySem.W.Frag} {mg : Str → Option Value} {base : Heap}
/-- THE RULE for a def: its body as a term of rules, and the reading of that term -/
theorem Fun.ok {x qual : Str} {st : Stmt} {f : Addr} {fd : FuncData} {N ps : List Str} {k : Nat} {sp : Sp} (F : Fun K x qual st f fd) (S : FnScope N ps (defScope st)) (len : ∀ vs H Q E, sp vs H Q E → vs.length = ps.length)
    (hbody : ∀ (cdv : Value) (A : Around) (outer : List Env) (s : Shared) (H : Hp) (vs : List V) (Q : VK) (E : XK), Room k (A.deeper (envOfC qual (defScope st) s.heap.objs.size f cdv)) → sp vs H Q E →
      ∃ t, PSs (cxOf CX0 P w K mg base N qual (defScope st) f cdv A outer s H E).nox (defBody st) t ∧ t { nx := fun _ H' => Q .non H', rt := Q } (start N vs) H) : FnOk P w K mg base CX0 (k + 1) f fd ps sp := by
  obtain ⟨oc, od, kV, doc, pm, an, cdv, ct, osl, rfl, lk, hcd⟩ := F.ex
  refine fn_of lk hcd S len fun A outer s H vs Q E hr hsp => ?_
  obtain ⟨t, h, q⟩ := hbody cdv A outer s H vs Q E hr hsp
  exact ⟨t, h.nox, q⟩
/-- how its arguments bind (no defaults): h is «fun _ _ _ _ _ _ us hl => match us, hl with | [_, _], _ => rfl», one _ a parameter -/
theorem Fun.binds {x qual : Str} {st : Stmt} {f : Addr} {fd : FuncData} {ps : List Str} (F : Fun K x qual st f fd)
    (h : ∀ (kV doc pm : Value) (an : Option Addr) (cdv ct : Value) (us : List Value), us.length = ps.length → bindArgs (PySem.W.fnOf x qual (defArgs st) (defBody st) (defScope st) .none kV doc pm an cdv ct) ⟨us, []⟩ = pure (ps.zip us)) : Binds K fd ps [] := by
  obtain ⟨oc, od, kV, doc, pm, an, cdv, ct, osl, rfl, lk, hcd⟩ := F.ex
  exact .all (h kV doc pm an cdv ct)
theorem fun_mk {x qual : Str} {st : Stmt} {f : Addr} {oc : Value} {od an : Option Addr} {osl : Array (Option Value)} {kV doc pm cdv ct : Value} (l : K.lookup f = some ⟨oc, od, .func (PySem.W.fnOf x qual (defArgs st) (defBody st) (defScope st) .none kV doc pm an cdv ct), osl⟩)
    (c : PySem.W.codeIn K cdv qual = true) (k : PySem.W.keepIn K (.ref f) = true) : Fun K x qual st f (PySem.W.fnOf x qual (defArgs st) (defBody st) (defScope st) .none kV doc pm an cdv ct) := ⟨⟨oc, od, kV, doc, pm, an, cdv, ct, osl, rfl, l, c⟩, k⟩
end
theorem hu_of {A : Around} {k : Nat} (hr : Room k A) : A.units + 1 < cLine := Nat.lt_of_le_of_lt (Nat.add_le_add_left (by decide : 1 ≤ 64) _) hr.units
theorem small1000 {n : Nat} (h : n ≤ 1000) : n < sizeLine := Nat.lt_of_le_of_lt h (by decide)

/-! ### expressions in short: the name that stands in the i-th slot -/
section
variable {X : Cx}
theorem pv (i : Nat) {x : Str} {pos : Pos} (hN : X.N[i]? = some x := by rfl) (hv : Vis X.env.scope x := by first | exact Or.inl rfl | exact Or.inr (Or.inl rfl) | exact Or.inr (Or.inr rfl)) (hd : (x == ("__debug__" : Str)) = false := by decide)
    (hcd : (x == ("__classdict__" : Str)) = false := by decide) : PE X (.Name x pos) (tVar i) := pe_var hN hv hd hcd
end

/-! ### tests -/
theorem ite2 {c A B : Prop} [Decidable c] (h1 : c → A) (h2 : ¬ c → B) : if c then A else B := by
  by_cases h : c
  · rw [if_pos h]
    exact h1 h
  · rw [if_neg h]
    exact h2 h

/-! ### heaps -/
/-- all that was tracked is as it was -/
def Same (H H' : Hp) : Prop := ∀ b o, H b = some o → H' b = some o
theorem Same.refl (H : Hp) : Same H H := fun _ _ h => h
theorem Same.trans {H H1 H2 : Hp} (a : Same H H1) (b : Same H1 H2) : Same H H2 := fun c o h => b c o (a c o h)
theorem Same.free {H H' : Hp} (e : Same H H') {l : Addr} (h : H' l = Option.none) : H l = Option.none := by
  cases q : H l with
  | none => rfl
  | some o =>
    rw [e l o q] at h
    cases h
theorem Same.seq {K : PySem.W.Frag} {H H' : Hp} {a : Addr} {xs : List V} (e : Same H H') (h : SqL K H a xs) : SqL K H' a xs := by
  rcases h with (h | ⟨o, h⟩) | h
  · exact .inl (.inl (e _ _ h))
  · exact .inl (.inr ⟨o, e _ _ h⟩)
  · exact .inr h
/-! dict words -/
section
variable {X : Cx}
end

/-! ### a dict's pairs: keys that differ -/
section
variable {κ : Type} [DecidableEq κ]
end
end L2


set_option Elab.async false
set_option linter.all false
set_option maxRecDepth 100000
set_option maxHeartbeats 4000000
namespace L2
open PySem PySem.Spec PyProof.Rows

/-! ### a list comprehension of one clause, as a block of its own -/
def clStep (env : Env) (cs : List (Str × Addr)) (nk : Str × NameKind) : List (Str × Addr) :=
  if nk.2 == .free then (nk.1, (env.cells.lookup nk.1).getD 0) :: cs else cs
def clOf (scope : Scope) (env : Env) : List (Str × Addr) := scope.names.foldl (clStep env) []
theorem clos_of {scope : Scope} {env : Env} (h : ∀ y ∈ scope.names, y.2 = .free → ∃ c, env.cells.lookup y.1 = some c) : closureFor scope env = pure (clOf scope env) := by
  have all : ∀ (l : List (Str × NameKind)) (cs : List (Str × Addr)), (∀ y ∈ l, y.2 = .free → ∃ c, env.cells.lookup y.1 = some c) →
      (forIn l cs (fun x r => if (x.2 == NameKind.free) = true then do let a ← cellOf env x.1; pure (ForInStep.yield ((x.1, a) :: r)) else pure (ForInStep.yield r)) : Sem (List (Str × Addr))) = pure (l.foldl (clStep env) cs) := by
    intro l
    induction l with
    | nil => intro cs _; rfl
    | cons y r ih =>
      intro cs hy
      obtain ⟨n, k⟩ := y
      rw [List.forIn_cons, List.foldl_cons]
      by_cases hk : (k == NameKind.free) = true
      · obtain ⟨c, hc⟩ := hy (n, k) List.mem_cons_self (by simpa using hk)
        have e1 : cellOf env n = pure c := by unfold cellOf; rw [hc]
        have e2 : clStep env cs (n, k) = (n, c) :: cs := by unfold clStep; rw [if_pos hk, hc]; rfl
        rw [e2, ← ih _ fun z hz => hy z (List.mem_cons_of_mem _ hz)]
        dsimp only
        rw [if_pos hk, e1]
        rfl
      · have e2 : clStep env cs (n, k) = cs := by unfold clStep; rw [if_neg hk]
        rw [e2, ← ih _ fun z hz => hy z (List.mem_cons_of_mem _ hz)]
        dsimp only
        rw [if_neg hk]
        rfl
  have e := all scope.names [] h
  unfold closureFor clOf
  rw [← e]
  simp only [bind_pure]
theorem clOf_mem {env : Env} : ∀ {l : List (Str × NameKind)} {cs : List (Str × Addr)} {n : Str} {c : Addr}, (∀ y ∈ l, y.2 = .free → ∃ c, env.cells.lookup y.1 = some c) → (n, c) ∈ l.foldl (clStep env) cs → (n, c) ∈ cs ∨ env.cells.lookup n = some c
  | [], cs, n, c, _, m => .inl m
  | (y, k) :: r, cs, n, c, h, m => by
    rcases clOf_mem (fun z hz => h z (List.mem_cons_of_mem _ hz)) (show (n, c) ∈ r.foldl (clStep env) (clStep env cs (y, k)) from m) with q | q
    · unfold clStep at q
      by_cases hk : (k == NameKind.free) = true
      · rw [if_pos hk] at q
        rcases List.mem_cons.mp q with q | q
        · obtain ⟨d, hd⟩ := h (y, k) List.mem_cons_self (by simpa using hk)
          have hd : env.cells.lookup y = some d := hd
          injection q with q1 q2
          subst q1
          rw [hd] at q2
          subst q2
          exact .inr hd
        · exact .inl q
      · rw [if_neg hk] at q
        exact .inl q
    · exact .inr q
theorem clStep_sub {env : Env} : ∀ {l : List (Str × NameKind)} {cs : List (Str × Addr)} {p : Str × Addr}, p ∈ cs → p ∈ l.foldl (clStep env) cs
  | [], _, _, m => m
  | (y, k) :: r, cs, p, m => by
    refine clStep_sub (l := r) (cs := clStep env cs (y, k)) ?_
    unfold clStep
    split
    · exact List.mem_cons_of_mem _ m
    · exact m
theorem clOf_has {env : Env} : ∀ {l : List (Str × NameKind)} {cs : List (Str × Addr)} {n : Str}, (n, NameKind.free) ∈ l → ∃ c, (n, c) ∈ l.foldl (clStep env) cs
  | (y, k) :: r, cs, n, m => by
    rcases List.mem_cons.mp m with q | q
    · cases q
      exact ⟨(env.cells.lookup y).getD 0, clStep_sub (l := r) (by simp [clStep])⟩
    · exact clOf_has (l := r) q
theorem lookup_has {β : Type} : ∀ {l : List (Str × β)} {n : Str} {c : β}, (n, c) ∈ l → ∃ d, l.lookup n = some d
  | (k, v) :: r, n, c, m => by
    rw [List.lookup_cons]
    cases e : n == k with
    | true => exact ⟨v, rfl⟩
    | false =>
      rcases List.mem_cons.mp m with q | q
      · cases q
        simp at e
      · exact lookup_has q
theorem lookup_relabel_cell {env : Env} (hf : env.scope.kind = .function) : ∀ {names : List (Str × NameKind)} {x : Str}, names.lookup x = some .free → env.kindOf x = some .cell →
    (names.map fun (n, k) => if (k == NameKind.free && env.scope.kind == .function && env.kindOf n == some .cell) then (n, NameKind.cell) else (n, k)).lookup x = some .cell
  | [], _, h, _ => by simp at h
  | (n, k) :: r, x, h, hc => by
    have ih := @lookup_relabel_cell env hf r x
    show List.lookup x ((if (k == NameKind.free && env.scope.kind == .function && env.kindOf n == some .cell) = true then (n, NameKind.cell) else (n, k)) :: _) = _
    cases hx : x == n with
    | true =>
      have e : x = n := by simpa using hx
      subst e
      simp only [List.lookup_cons, hx] at h
      cases h
      rw [if_pos (by rw [hf, hc]; rfl)]
      simp [List.lookup_cons]
    | false =>
      simp only [List.lookup_cons, hx] at h
      by_cases hc' : (k == NameKind.free && env.scope.kind == .function && env.kindOf n == some .cell) = true
      · rw [if_pos hc']; simp only [List.lookup_cons, hx]; exact ih h hc
      · rw [if_neg hc']; simp only [List.lookup_cons, hx]; exact ih h hc

/-- the block's names N', each its own (none) or that of a slot around -/
def frOk (sc scope : Scope) (N : List Str) : List Str → List (Option Nat) → Bool
  | [], [] => true
  | _ :: r, none :: f => frOk sc scope N r f
  | y :: r, some i :: f => (N[i]? == some y) && (scope.names.lookup y == some .free) && (sc.names.lookup y == some .cell) && frOk sc scope N r f
  | _, _ => false
structure CompSc (sc scope : Scope) (N N' : List Str) (fr : List (Option Nat)) : Prop where
  kind : scope.kind = .function
  nocell : ∀ y ∈ scope.names, y.2 ≠ .cell
  names : ∀ y ∈ scope.names, y.2 = .local → scope.names.lookup y.1 = some .local
  free : ∀ y ∈ scope.names, y.2 = .free → sc.names.lookup y.1 = some .cell
  nd : N'.Nodup
  fr : frOk sc scope N N' fr = true
def frSt (fr : List (Option Nat)) (σ : St) : St := fr.map fun o => o.bind fun i => (σ[i]?).join
theorem frOk_len {sc scope : Scope} {N : List Str} : ∀ {N' : List Str} {fr : List (Option Nat)}, frOk sc scope N N' fr = true → fr.length = N'.length
  | [], [], _ => rfl
  | _ :: r, none :: f, h => by simp only [List.length_cons]; rw [frOk_len (N' := r) (fr := f) h]
  | y :: r, some i :: f, h => by
    unfold frOk at h
    simp only [Bool.and_eq_true] at h
    simp only [List.length_cons]; rw [frOk_len (N' := r) (fr := f) h.2]
  | [], _ :: _, h => by simp [frOk] at h
  | _ :: _, [], h => by simp [frOk] at h
theorem frOk_at {sc scope : Scope} {N : List Str} : ∀ {N' : List Str} {fr : List (Option Nat)} {j i : Nat} {y : Str}, frOk sc scope N N' fr = true → N'[j]? = some y → fr[j]? = some (some i) → N[i]? = some y ∧ scope.names.lookup y = some .free ∧ sc.names.lookup y = some .cell
  | [], [], _, _, _, _, h, _ => by simp at h
  | _ :: r, none :: f, 0, i, y, _, _, h => by simp at h
  | _ :: r, none :: f, j + 1, i, y, h, h1, h2 => frOk_at (N' := r) (fr := f) (j := j) h (by simpa using h1) (by simpa using h2)
  | z :: r, some k :: f, 0, i, y, h, h1, h2 => by
    unfold frOk at h
    simp only [Bool.and_eq_true, beq_iff_eq] at h
    have e1 : z = y := by simpa using h1
    have e2 : k = i := by simpa using h2
    subst e1 e2
    exact ⟨h.1.1.1, h.1.1.2, h.1.2⟩
  | z :: r, some k :: f, j + 1, i, y, h, h1, h2 => by
    unfold frOk at h
    simp only [Bool.and_eq_true] at h
    exact frOk_at (N' := r) (fr := f) (j := j) h.2 (by simpa using h1) (by simpa using h2)
  | [], _ :: _, _, _, _, h, _, _ => by simp [frOk] at h
  | _ :: _, [], _, _, _, h, _, _ => by simp [frOk] at h

def cxComp (X : Cx) (scope : Scope) (C : Addr) (N' : List Str) (s₀ : Shared) (H₀ : Hp) (fp : List Addr) : Cx where
  prog := X.prog
  w := X.w
  K := X.K
  mg := X.mg
  base := X.base
  A := X.A
  N := N'
  s₀ := s₀
  H₀ := H₀
  env := compEnvC scope (clOf scope X.env) C X.env
  outer := X.stack
  stack := X.stack
  ex := fp
  calm := true
  fn := fun _ => false
  pn := []
  xe := fun _ _ => False

section
variable {X : Cx} {scope : Scope} {N' : List Str} {fr : List (Option Nat)} {pins : List (Addr × Obj)} {σ : St} {H : Hp} {s : Shared} {fp : List Addr}

theorem Inv.block {h1 : Heap} {t1 : Nat} {m : Str → Option Value} (S : CompSc X.env.scope scope X.N N' fr) (hc : X.calm = true) (I : Inv X pins σ H s) (hf : ∀ b ∈ fp, FpOk X pins H b) (hlt : ∀ b ∈ fp, b < s.heap.objs.size)
    (hns : h1.Ns s.heap.objs.size m) (old : ∀ b o, s.heap.get? b = some o → h1.get? b = some o) :
    Inv (cxComp X scope s.heap.objs.size N' s H fp) [] (frSt fr σ) H { s with heap := h1, toks := t1 } := by
  have hfree : ∀ y ∈ scope.names, y.2 = .free → ∃ c, X.env.cells.lookup y.1 = some c := fun y hy e => I.ok.has y.1 (.inl (S.free y hy e))
  have cl1 : ∀ y c, (clOf scope X.env).lookup y = some c → X.env.cells.lookup y = some c := fun y c e => by
    rcases clOf_mem (cs := []) hfree (PySem.mem_of_lookup e) with q | q
    · exact absurd q (by simp)
    · exact q
  have has : ∀ y, ((relabel scope X.env).names.lookup y = some .cell ∨ (relabel scope X.env).names.lookup y = some .free) → ∃ c, (clOf scope X.env).lookup y = some c := fun y hy => by
    have q : (y, NameKind.free) ∈ scope.names := by
      have m : ∃ k, (k = NameKind.cell ∨ k = NameKind.free) ∧ (y, k) ∈ (relabel scope X.env).names := by
        rcases hy with hy | hy
        · exact ⟨_, .inl rfl, PySem.mem_of_lookup hy⟩
        · exact ⟨_, .inr rfl, PySem.mem_of_lookup hy⟩
      obtain ⟨k, hk, m⟩ := m
      obtain ⟨⟨n, k0⟩, hm, e⟩ := List.mem_map.mp m
      dsimp only at e
      by_cases hq : (k0 == NameKind.free && X.env.scope.kind == .function && X.env.kindOf n == some .cell) = true
      · rw [if_pos hq] at e
        simp only [Bool.and_eq_true, beq_iff_eq] at hq
        injection e with e1 e2
        rw [← e1, ← hq.1.1]
        exact hm
      · rw [if_neg hq] at e
        injection e with e1 e2
        subst e1 e2
        rcases hk with hk | hk
        · exact absurd hk (S.nocell _ hm)
        · rw [← hk]; exact hm
    obtain ⟨c, mc⟩ := clOf_has (env := X.env) (cs := []) q
    exact lookup_has mc
  have ltC : ∀ y c, X.env.cells.lookup y = some c → c < s.heap.objs.size := fun y c e => by
    obtain ⟨v, q⟩ := I.cell y c e
    exact q.lt
  refine ⟨⟨I.ok.mod, S.kind, I.ok.glob, I.ok.blt, Nat.le_refl _, fun x y c e1 e2 => I.ok.inj x y c (cl1 x c e1) (cl1 y c e2), has, fun x c e _ => absurd e (by simp [cxComp]), fun _ => I.ok.hd hc, I.ok.frames, .inl rfl,
      fun b hb => ⟨Nat.ne_of_lt (hlt b hb), fun x c e => (hf b hb).2.2.2.2.1 x c (cl1 x c e)⟩, I.bs, Nat.le_trans I.ok.bsz I.sz, fun b o e hb => ?_, fun b hb z => ?_, I.stack, I.stkFree⟩,
    rfl, I.bare, Un.kept old, ⟨m, hns, fun i x v e1 e2 e3 => ?_⟩, fun x c e => ?_, I.fresh, fun x c e => I.freeC x c (cl1 x c e), fun p hp => absurd hp (by simp [cxComp]), I.hok.kept old, ?_⟩
  · rcases (hf b hb).2.2.2.1 with z | z
    · exact I.ok.noex b o e z
    · exact absurd (Nat.lt_of_lt_of_le (Heap.lt_size e) (Nat.le_trans I.ok.bsz z)) (Nat.lt_irrefl _)
  · rcases List.mem_cons.mp (I.stkSub b z) with q | q
    · exact (hf b hb).2.1 q
    · exact (hf b hb).2.2.1 q
  · -- a name of the block at its entry: one from around
    have e2 : (frSt fr σ)[i]? = some (some v) := e2
    unfold frSt at e2
    rw [List.getElem?_map] at e2
    cases q : fr[i]? with
    | none => rw [q] at e2; cases e2
    | some o =>
      rw [q] at e2
      cases o with
      | none => cases e2
      | some j =>
        have e2 : (σ[j]?).join = some v := Option.some.inj e2
        have e4 : σ[j]? = some (some v) := by
          cases r : σ[j]? with
          | none => rw [r] at e2; cases e2
          | some w => rw [r] at e2; exact congrArg some e2
        obtain ⟨f1, f2, f3⟩ := frOk_at S.fr e1 q
        obtain ⟨m0, _, hl⟩ := I.loc
        obtain ⟨u, r, l⟩ := hl j x v f1 e4 (.inr (.inl f3))
        refine ⟨u, r, .inr ⟨.inl (lookup_relabel_cell I.ok.kind f2 f3), ?_⟩⟩
        obtain ⟨c, hc⟩ := has x (.inl (lookup_relabel_cell I.ok.kind f2 f3))
        rcases l with ⟨k, _⟩ | ⟨_, c', hc', ho⟩
        · have k : X.env.scope.names.lookup x = some .local := k
          rw [f3] at k; cases k
        · have e : c = c' := Option.some.inj ((cl1 x c hc).symm.trans hc')
          subst e
          obtain ⟨o, ho, hd⟩ := ho
          exact ⟨c, hc, o, old c o ho, hd⟩
  · obtain ⟨v, o, ho, hd⟩ := I.cell x c (cl1 x c e)
    exact ⟨v, o, old c o ho, hd⟩
  · show (frSt fr σ).length = N'.length
    unfold frSt
    rw [List.length_map]
    exact frOk_len S.fr
end

def PTs (X : Cx) (ifs : List Expr) (t : TT) : Prop :=
  ∀ (pins : List (Addr × Obj)) (s : Shared) (σ : St) (H : Hp) (Q : Bool → Hp → Prop), Inv X pins σ H s → t σ H Q →
    wpAny (model X.prog X.w) X.A (forIn ifs true fun c r => if r = true then do let ok ← isTrue c X.env (eval c X.env); pure (ForInStep.yield ok) else pure (ForInStep.yield r)) (TP X pins σ Q) X.xe s
def tYes : TT := fun _ H Q => Q true H
theorem pts_nil {X : Cx} : PTs X [] tYes := fun _ _ _ H _ I q => wpAny_tests_nil ⟨H, I, q⟩
theorem pts_one {X : Cx} {c : Expr} {t : TT} (h : PT X c t) : PTs X [c] t := fun pins s σ H Q I q => wpAny_tests_one (h pins s σ H Q I q)

theorem compLoop_any {prog : Program} {w : World} {A : Around} {R : Result → Shared → Prop} {s : Shared} {elt target iter : Expr} {ifs : List Expr} {scope : Scope} {pos : Pos} {it acc : Value} {env : Env} (I : Nat → Shared → Prop)
    (turn : ∀ n s, I n s → wpAny (model prog w) A (pyNext it) (fun r s₁ => match r with
      | none => R (.ok .next) s₁
      | some v => wpAny (model prog w) A (letOwnedTupleGo target it v) (fun _ s₀ => wpAny (model prog w) A (assign target env v) (fun _ s₂ =>
          wpAny (model prog w) A (forIn ifs true fun c r => if r = true then do let ok ← isTrue c env (eval c env); pure (ForInStep.yield ok) else pure (ForInStep.yield r)) (fun ok s₃ =>
            if ok = true then wpAny (model prog w) A (eval elt env) (fun x s₄ =>
              wpAny (model prog w) A (call (.builtin "list.append") [acc, x]) (fun _ s₅ => ∃ m, m < n ∧ I m s₅) (fun _ _ => False) s₄) (fun _ _ => False) s₃
            else ∃ m, m < n ∧ I m s₃) (fun _ _ => False) s₂) (fun _ _ => False) s₀) (fun _ _ => False) s₁) (fun _ _ => False) s)
    (n : Nat) (h : I n s) :
    codeAny (model prog w) A (.compLoop (.ListComp elt [⟨target, iter, ifs, 0⟩] scope pos) 0 it acc env) R s := by
  refine codeAny_loop rfl I (fun n s hI => ?_) n h
  show wpAny _ A ((compTurn (.ListComp elt [⟨target, iter, ifs, 0⟩] scope pos) 0 it acc env).onRaise (fun x => do noteFrame x env; theTreesLotGoes x)) _ _ s
  refine wpAny_noted ?_
  rw [compTurn_list]
  refine wpAny_bind (wpAny_standAt (wpAny_bind (wpAny_mono (turn n s hI) (fun r s₁ h₁ => ?_) fun _ _ h' => h'.elim)))
  cases r with
  | none => exact wpAny_pure h₁
  | some v =>
    refine wpAny_bind (wpAny_mono h₁ (fun _ s₀ h₀ => ?_) fun _ _ h' => h'.elim)
    refine wpAny_bind (wpAny_mono h₀ (fun _ s₂ h₂ => wpAny_bind (wpAny_mono h₂ (fun ok s₃ h₃ => ?_) fun _ _ h' => h'.elim)) fun _ _ h' => h'.elim)
    cases ok with
    | false => exact wpAny_pure ⟨rfl, h₃⟩
    | true =>
      exact wpAny_bind (wpAny_bind (wpAny_mono h₃ (fun x s₄ h₄ => wpAny_bind (wpAny_mono h₄ (fun _ s₅ h₅ => wpAny_pure (wpAny_pure ⟨rfl, h₅⟩)) fun _ _ h' => h'.elim)) fun _ _ h' => h'.elim))

/-- W: by the turn, a measure, the block's names, what has come, the heap -/
def tComp (fr : List (Option Nat)) (wi : TI) (g : TG) (tt : TT) (te : TE) : TE := fun σ H Q => wi σ H fun J H1 => ∀ D, H1 D = none →
  ∃ W : Nat → Nat → St → List V → Hp → Prop, (∃ m, W 0 m (frSt fr σ) [] (upd H1 D (.lst []))) ∧ ∀ i m σ ys H, W i m σ ys H →
    (J.stop i H ∧ Q (.ref D) H) ∨ (J.go i H ∧ ∃ N : St → List V → Hp → Prop, (∀ σ' ys' H', N σ' ys' H' → ∃ m', m' < m ∧ W (i + 1) m' σ' ys' H') ∧ ∀ x H', J.yld i H x H' → g x σ H' fun σ2 H2 => tt σ2 H2 fun b H3 =>
      if b = true then te σ2 H3 fun v H4 => H4 D = some (.lst ys) ∧ ys.length < sizeLine ∧ N σ2 (ys ++ [v]) (upd H4 D (.lst (ys ++ [v])))
      else N σ2 ys H3)

theorem comp_run {X : Cx} {elt tg iter : Expr} {ifs : List Expr} {scope : Scope} {pos cpos : Pos} {wi : TI} {g : TG} {tt : TT} {te : TE} {N' : List Str} {fr : List (Option Nat)} (S : CompSc X.env.scope scope X.N N' fr) (hc : X.calm = true) (hi : PI X tg iter wi)
    (hg : ∀ C s0 H0 fp, PG (cxComp X scope C N' s0 H0 fp) tg g) (ht : ∀ C s0 H0 fp, PTs (cxComp X scope C N' s0 H0 fp) ifs tt) (he : ∀ C s0 H0 fp, PE (cxComp X scope C N' s0 H0 fp) elt te)
    (hs : ∀ x, foldedSetIterable iter X.env x = pure x) {pins : List (Addr × Obj)} {s : Shared} {σ : St} {H : Hp} {Q : VK} (I : Inv X pins σ H s) (h : tComp fr wi g tt te σ H Q) (use : Option (Value → Sem Unit)) (QQ : Value → Shared → Prop)
    (fin : ∀ (D C : Addr) (H5 : Hp) (s6 : Shared), Inv X pins σ H5 s6 → Q (.ref D) H5 → H5 C = none → C ≠ X.env.locals → X.s₀.heap.objs.size ≤ C → (∀ x c, X.env.cells.lookup x = some c → c ≠ C) → (∀ p ∈ X.pn ++ pins, p.1 ≠ C) → (∃ m, s6.heap.Ns C m) →
      compPost (model X.prog X.w) X.A X.xe use QQ (.ref D) C (.ok .next) s6) :
    wpAny (model X.prog X.w) X.A (comprehension (.ListComp elt [⟨tg, iter, ifs, 0⟩] scope pos) scope X.env cpos (newList []) false (eval iter X.env) use) QQ X.xe s := by
  have hfree : ∀ y ∈ scope.names, y.2 = .free → ∃ c, X.env.cells.lookup y.1 = some c := fun y hy e => I.ok.has y.1 (.inl (S.free y hy e))
  refine wpAny_comprehension_free (use := use) rfl hs (clos_of hfree) S.kind S.names (thn (hi pins s σ H _ I h) fun v s1 h1 => thn h1 fun itv s2 h2 => ?_)
  obtain ⟨it, fp, tn, J, H2, e, I2, T, st2, f2, hD⟩ := h2
  subst e
  obtain ⟨W, ⟨m0, w0⟩, turn⟩ := hD s2.heap.objs.size I2.fresh
  -- the new list
  refine wpAny_newObj_type ?_
  have I3 : Inv X pins σ (upd H2 s2.heap.objs.size (.lst [])) { s2 with heap := s2.heap.push { cls := .type "list", data := .seq ([] : List Value).toArray }, toks := s2.toks } := I2.lnew (ys := []) .nil (Nat.zero_le _)
  revert I3
  generalize eD : s2.heap.objs.size = D at *
  generalize e3 : ({ s2 with heap := s2.heap.push { cls := .type "list", data := .seq ([] : List Value).toArray }, toks := s2.toks } : Shared) = s3
  intro I3
  have k3 : ∀ b o, s2.heap.get? b = some o → s3.heap.get? b = some o := fun b o e => by rw [← e3]; exact Heap.get?_push_of_some _ e
  refine wpAny_newFunctionEnv S.nocell (by intro y hy; simp at hy) (fun h4 hns hsb => ?_) S.kind
  have old : ∀ b o, s3.heap.get? b = some o → h4.get? b = some o := fun b o e => hsb.extBut b o (Nat.ne_of_lt (Heap.lt_size e)) (Heap.get?_push_of_some _ e)
  have fD : ∀ b ∈ fp, b ≠ D := fun b hb z => by
    obtain ⟨o, ho, _⟩ := T.obj _ _ st2 b hb
    exact absurd (Heap.lt_size ho) (by rw [z, eD]; exact Nat.lt_irrefl _)
  have f3 : ∀ b ∈ fp, FpOk X pins (upd H2 D (.lst [])) b := fun b hb => ⟨by rw [upd_ne (fD b hb)]; exact (f2 b hb).1, (f2 b hb).2⟩
  have l3 : ∀ b ∈ fp, b < s3.heap.objs.size := fun b hb => by
    obtain ⟨o, ho, _⟩ := T.obj _ _ st2 b hb
    exact Heap.lt_size (k3 b o ho)
  have I4 := Inv.block (t1 := s3.toks + ([] : List (Str × Value)).length) (scope := scope) S hc I3 f3 l3 hns old
  generalize eX : cxComp X scope s3.heap.objs.size N' s3 (upd H2 D (.lst [])) fp = X' at I4
  have st4 : tn 0 h4 := T.keep _ _ _ st2 fun b hb o e => old b o (k3 b o e)
  have stat : ∀ {H' : Hp}, (∀ b ∈ fp, H' b = none) → ∀ b ∈ fp, FpOk X' [] H' b := fun {H'} hn b hb => by
    subst eX
    refine ⟨hn b hb, Nat.ne_of_lt (l3 b hb), ?_, .inl hb, ?_, fun p hp => absurd hp (by simp [cxComp])⟩
    · exact I4.ok.exfs b hb
    · exact (I4.ok.exf b hb).2
  show codeAny _ _ (.compStart _ 0 (.ref it) (.ref D) (compEnvC scope (clOf scope X.env) s3.heap.objs.size X.env)) (compPost _ _ _ use _ (.ref D) s3.heap.objs.size) _
  have hX : X'.prog = X.prog ∧ X'.w = X.w ∧ X'.K = X.K ∧ X'.A = X.A ∧ X'.calm = true ∧ X'.env = compEnvC scope (clOf scope X.env) s3.heap.objs.size X.env ∧ X'.xe = (fun _ _ => False) ∧ X'.s₀ = s3 ∧ X'.H₀ = upd H2 D (.lst []) ∧ X'.fs = frs X.stack ∧ X'.ex = fp := by
    subst eX
    exact ⟨rfl, rfl, rfl, rfl, rfl, rfl, rfl, rfl, rfl, rfl, rfl⟩
  have hg' : PG X' tg g := by subst eX; exact hg _ _ _ _
  have ht' : PTs X' ifs tt := by subst eX; exact ht _ _ _ _
  have he' : PE X' elt te := by subst eX; exact he _ _ _ _
  clear eX
  obtain ⟨x1, x2, x3, x4, x5, x6, x7, x8, x9, x10, x11⟩ := hX
  have loop : codeAny (model X.prog X.w) X.A (.compLoop (.ListComp elt [⟨tg, iter, ifs, 0⟩] scope pos) 0 (.ref it) (.ref D) (compEnvC scope (clOf scope X.env) s3.heap.objs.size X.env))
      (compPost (model X.prog X.w) X.A X.xe use QQ (.ref D) s3.heap.objs.size) { s3 with heap := h4, toks := s3.toks + ([] : List (Str × Value)).length } := by
    refine compLoop_any (fun n s' => ∃ i σ' ys H', Inv X' [] σ' H' s' ∧ tn i s'.heap ∧ (∀ b ∈ fp, H' b = none) ∧ W i n σ' ys H') ?_ m0 ⟨0, _, [], _, I4, st4, fun b hb => (f3 b hb).1, w0⟩
    rintro n s5 ⟨i, σ5, ys, H5, I5, st5, fr5, w5⟩
    rcases turn i n σ5 ys H5 w5 with ⟨stop, qn⟩ | ⟨go, N, hN, step⟩
    · have z := T.done X' x1 x2 x3 x5 i [] s5 σ5 H5 (fun _ _ => False) I5 (stat fr5) st5 stop
      rw [x4] at z
      refine thn z fun r s6 ⟨hr, I6⟩ => ?_
      subst hr
      -- the end
      obtain ⟨mm, hn6, _⟩ := I6.loc
      have hL : X'.env.locals = s3.heap.objs.size := by rw [x6]; rfl
      rw [hL] at hn6
      have nC : H5 s3.heap.objs.size = none := by have := I6.free; rw [hL] at this; exact this
      have base := I6.base
      rw [x8, x9, x10, x11] at base
      have hok : HOk X.prog X.w H5 s6.heap := by have q := I6.hok; rw [x1, x2] at q; exact q
      have os : s6.os = s3.os := by have := I6.os; rw [x8] at this; exact this
      have IX : Inv X pins σ H5 s6 := I3.call' os base hok I6.bare fun b hb => ⟨(f3 b hb).2.2.2.1, (f3 b hb).2.1, (f3 b hb).2.2.2.2.1, (f3 b hb).2.2.2.2.2⟩
      refine fin D s3.heap.objs.size H5 s6 IX qn nC (Nat.ne_of_gt I3.lt) I3.sz (fun x c e => ?_) (fun p hp => ?_) ⟨mm, hn6⟩
      · obtain ⟨v, q⟩ := I3.cell x c e
        exact Nat.ne_of_lt q.lt
      · exact Nat.ne_of_lt (Heap.lt_size (I3.pin p hp).1)
    · have z := T.item X' x1 x2 x3 x5 i [] s5 σ5 H5 (fun _ _ => False) I5 (stat fr5) st5 go
      rw [x4] at z
      refine thn z fun r s6 ⟨u, hr, h6⟩ => ?_
      subst hr
      refine thn h6 fun _ s7 ⟨x, H7, I7, r7, y7, st7, fr7⟩ => ?_
      have I7' := I7.pinned (stat fr7) (T.obj _ _ st7)
      have again : ∀ {σ' : St} {H' : Hp} {s' : Shared}, Inv X' ([] ++ pinsAt fp s7.heap) σ' H' s' → Inv X' [] σ' H' s' ∧ tn (i + 1) s'.heap ∧ ∀ b ∈ fp, H' b = none := fun {σ' H' s'} J => by
        refine ⟨J.unpinned, T.keep _ _ _ st7 fun b hb o e => (J.pin (b, o) (List.mem_append_right _ (List.mem_append_right _ (mem_pinsAt hb e)))).1, fun b hb => ?_⟩
        obtain ⟨o, e, d⟩ := T.obj _ _ st7 b hb
        exact (J.pin (b, o) (List.mem_append_right _ (List.mem_append_right _ (mem_pinsAt hb e)))).2.1
      have z := hg' _ s7 σ5 H7 x u _ I7' r7 (step x H7 y7)
      rw [x1, x2, x4, x6, x7] at z
      refine thn z fun _ s8 ⟨σ8, H8, I8, q8⟩ => ?_
      have z := ht' _ s8 σ8 H8 _ I8 q8
      rw [x1, x2, x4, x6, x7] at z
      refine thn z fun b s9 ⟨H9, I9, q9⟩ => ?_
      cases b with
      | false =>
        rw [if_neg Bool.false_ne_true] at q9 ⊢
        obtain ⟨m', hm, w9⟩ := hN _ _ _ q9
        obtain ⟨a1, a2, a3⟩ := again I9
        exact ⟨m', hm, i + 1, σ8, ys, H9, a1, a2, a3, w9⟩
      | true =>
        rw [if_pos rfl] at q9 ⊢
        have z := he' _ s9 σ8 H9 _ I9 q9
        rw [x1, x2, x4, x6, x7] at z
        refine thn z fun v' s10 ⟨y, H10, I10, r10, hD10, hz, w10⟩ => ?_
        have z := mt_append (X := X') _ s10 σ8 H10 (.ref D) [y] (.ref D) [v'] (fun _ H' => N σ8 (ys ++ [y]) H') I10 rfl (.cons r10 .nil) ⟨D, ys, y, rfl, rfl, hD10, hz, w10⟩
        rw [x1, x2, x4, x7] at z
        refine thn z fun _ s11 ⟨_, H11, I11, _, w11⟩ => ?_
        obtain ⟨m', hm, w11⟩ := hN _ _ _ w11
        obtain ⟨a1, a2, a3⟩ := again I11
        exact ⟨m', hm, i + 1, σ8, _, H11, a1, a2, a3, w11⟩
  exact codeAny_compStart_list loop (T.self _ 0 _ _ _ st4 loop)
theorem pe_comp {X : Cx} {elt tg iter : Expr} {ifs : List Expr} {scope : Scope} {pos : Pos} {wi : TI} {g : TG} {tt : TT} {te : TE} {N' : List Str} {fr : List (Option Nat)} (S : CompSc X.env.scope scope X.N N' fr) (hc : X.calm = true) (hi : PI X tg iter wi)
    (hg : ∀ C s0 H0 fp, PG (cxComp X scope C N' s0 H0 fp) tg g) (ht : ∀ C s0 H0 fp, PTs (cxComp X scope C N' s0 H0 fp) ifs tt) (he : ∀ C s0 H0 fp, PE (cxComp X scope C N' s0 H0 fp) elt te)
    (hs : ∀ x, foldedSetIterable iter X.env x = pure x := by intro _; rfl) : PE X (.ListComp elt [⟨tg, iter, ifs, 0⟩] scope pos) (tComp fr wi g tt te) := by
  intro pins s σ H Q I h
  rw [eval_ListComp]
  refine comp_run S hc hi hg ht he hs I h none _ fun D C H5 s6 IX q nC c1 c2 c3 c4 hm => ?_
  obtain ⟨m, hm⟩ := hm
  refine ⟨m, hm, fun h' hs' => ⟨.ref D, H5, IX.turned (t' := s6.toks) (it := C) (fun b o hb e => hs'.extBut b o hb e) nC c1 (.inr c2) c3 c4, rfl, q⟩⟩
/-- name = [..], the name a local one -/
theorem ps_comp {X : Cx} {elt tg iter : Expr} {ifs : List Expr} {scope : Scope} {pos spos py : Pos} {y : Str} {i : Nat} {wi : TI} {g : TG} {tt : TT} {te : TE} {N' : List Str} {fr : List (Option Nat)} (hN : X.N.Nodup) (hy : X.N[i]? = some y) (hl : X.env.scope.names.lookup y = some .local)
    (S : CompSc X.env.scope scope X.N N' fr) (hc : X.calm = true) (hi : PI X tg iter wi)
    (hg : ∀ C s0 H0 fp, PG (cxComp X scope C N' s0 H0 fp) tg g) (ht : ∀ C s0 H0 fp, PTs (cxComp X scope C N' s0 H0 fp) ifs tt) (he : ∀ C s0 H0 fp, PE (cxComp X scope C N' s0 H0 fp) elt te)
    (hs : ∀ x, foldedSetIterable iter X.env x = pure x := by intro _; rfl) (hsw : swapsWith (.ListComp elt [⟨tg, iter, ifs, 0⟩] scope pos) (some (.Name y py)) spos.line X.env = pure true := by rfl) :
    PS X (.Assign [.Name y py] (.ListComp elt [⟨tg, iter, ifs, 0⟩] scope pos) spos) (tAsg (tComp fr wi g tt te) (gName i)) := by
  intro pins s σ H D I h
  rw [exec_Assign_Name_used _ _ _ _ hsw]
  refine wpAny_bind (wpAny_standAt (wpAny_bind ?_))
  show wpAny _ X.A (do let _ ← comprehension (.ListComp elt [⟨tg, iter, ifs, 0⟩] scope pos) scope X.env _ (newList []) false (eval iter X.env) (some (assign (.Name y py) X.env))) _ _ s
  refine wpAny_bind (thn (comp_run S hc hi hg ht he hs I h (some (assign (.Name y py) X.env)) (fun _ s' => SP X pins D .next s') fun L C H5 s6 IX q nC c1 c2 c3 c4 hm => ?_) fun _ s' hq => wpAny_pure (wpAny_pure hq))
  obtain ⟨m, hm⟩ := hm
  show wpAny _ X.A (assign (.Name y py) X.env (.ref L)) _ _ _
  refine wpAny_assign_Name (store_ok2 IX hN hy (.inl hl) (show RelV (.ref L) (Value.ref L) from rfl) (fun s7 I7 hch => ?_) (.inr hl))
  obtain ⟨a, hsb, ha⟩ := hch
  have hCa : C ≠ a := by
    rcases ha with ha | ha
    · rw [ha]; exact c1
    · exact (c3 _ _ ha).symm
  refine ⟨m, hm.at' (fun o e => (hsb.2 C hCa).trans e), fun h' hs' => ⟨_, H5, I7.turned (t' := s7.toks) (it := C) (fun b o hb e => hs'.extBut b o hb e) nC c1 (.inr c2) c3 c4, q⟩⟩

/-! ### the forms one uses -/
theorem comp_range {lo : Int} {n : Nat} {g : TG} {tt : TT} {te : TE} {R : Hp → Prop} {D : Addr} {σ0 : St} {H0 : Hp} (Pv : Nat → St → List V → Hp → Prop) (h0 : Pv 0 σ0 [] H0)
    (hs : ∀ i σ ys H, i < n → Pv i σ ys H → g (.int (lo + i)) σ H fun σ2 H2 => tt σ2 H2 fun b H3 =>
      if b = true then te σ2 H3 fun v H4 => H4 D = some (.lst ys) ∧ ys.length < sizeLine ∧ Pv (i + 1) σ2 (ys ++ [v]) (upd H4 D (.lst (ys ++ [v]))) else Pv (i + 1) σ2 ys H3)
    (hd : ∀ σ ys H, Pv n σ ys H → R H) :
    ∃ W : Nat → Nat → St → List V → Hp → Prop, (∃ m, W 0 m σ0 [] H0) ∧ ∀ i m σ ys H, W i m σ ys H →
      ((Itr lo n).stop i H ∧ R H) ∨ ((Itr lo n).go i H ∧ ∃ N : St → List V → Hp → Prop, (∀ σ' ys' H', N σ' ys' H' → ∃ m', m' < m ∧ W (i + 1) m' σ' ys' H') ∧ ∀ x H', (Itr lo n).yld i H x H' → g x σ H' fun σ2 H2 => tt σ2 H2 fun b H3 =>
        if b = true then te σ2 H3 fun v H4 => H4 D = some (.lst ys) ∧ ys.length < sizeLine ∧ N σ2 (ys ++ [v]) (upd H4 D (.lst (ys ++ [v]))) else N σ2 ys H3) := by
  refine ⟨fun i m σ ys H => m = n - i ∧ i ≤ n ∧ Pv i σ ys H, ⟨n, by simp, Nat.zero_le _, h0⟩, ?_⟩
  rintro i m σ ys H ⟨rfl, hi, p⟩
  by_cases hlt : i < n
  · refine .inr ⟨hlt, Pv (i + 1), fun σ' ys' H' p' => ⟨n - (i + 1), by omega, rfl, hlt, p'⟩, fun x H' y => ?_⟩
    obtain ⟨e, y⟩ := y
    subst e y
    exact hs i σ ys _ hlt p
  · have e : i = n := by omega
    subst e
    exact .inl ⟨Nat.le_refl _, hd σ ys H p⟩
theorem comp_list {K : PySem.W.Frag} {a : Addr} {xs : List V} {g : TG} {tt : TT} {te : TE} {R : Hp → Prop} {D : Addr} {σ0 : St} {H0 : Hp} (Pv : Nat → St → List V → Hp → Prop) (h0 : Pv 0 σ0 [] H0) (hl : ∀ i σ ys H, i ≤ xs.length → Pv i σ ys H → SqL K H a xs)
    (hs : ∀ i x σ ys H, xs[i]? = some x → Pv i σ ys H → g x σ H fun σ2 H2 => tt σ2 H2 fun b H3 =>
      if b = true then te σ2 H3 fun v H4 => H4 D = some (.lst ys) ∧ ys.length < sizeLine ∧ Pv (i + 1) σ2 (ys ++ [v]) (upd H4 D (.lst (ys ++ [v]))) else Pv (i + 1) σ2 ys H3)
    (hd : ∀ σ ys H, Pv xs.length σ ys H → R H) :
    ∃ W : Nat → Nat → St → List V → Hp → Prop, (∃ m, W 0 m σ0 [] H0) ∧ ∀ i m σ ys H, W i m σ ys H →
      ((Itl K a).stop i H ∧ R H) ∨ ((Itl K a).go i H ∧ ∃ N : St → List V → Hp → Prop, (∀ σ' ys' H', N σ' ys' H' → ∃ m', m' < m ∧ W (i + 1) m' σ' ys' H') ∧ ∀ x H', (Itl K a).yld i H x H' → g x σ H' fun σ2 H2 => tt σ2 H2 fun b H3 =>
        if b = true then te σ2 H3 fun v H4 => H4 D = some (.lst ys) ∧ ys.length < sizeLine ∧ N σ2 (ys ++ [v]) (upd H4 D (.lst (ys ++ [v]))) else N σ2 ys H3) := by
  refine ⟨fun i m σ ys H => m = xs.length - i ∧ i ≤ xs.length ∧ Pv i σ ys H, ⟨xs.length, by simp, Nat.zero_le _, h0⟩, ?_⟩
  rintro i m σ ys H ⟨rfl, hi, p⟩
  have q := hl i σ ys H hi p
  by_cases hlt : i < xs.length
  · refine .inr ⟨⟨xs, xs[i], q, by simp [hlt]⟩, Pv (i + 1), fun σ' ys' H' p' => ⟨xs.length - (i + 1), by omega, rfl, hlt, p'⟩, fun x H' y => ?_⟩
    obtain ⟨e, y⟩ := y
    subst e
    exact hs i x σ ys _ (y xs q) p
  · have e : i = xs.length := by omega
    subst e
    exact .inl ⟨⟨xs, q, Nat.le_refl _⟩, hd σ ys H p⟩
end L2


set_option Elab.async false
set_option linter.all false
set_option maxRecDepth 100000
set_option maxHeartbeats 4000000
namespace SF
open PySem

/-! ### a table of a set: its places rise -/
def Rise (xs : Array Nat) : Prop := ∀ i k, i < k → k < xs.size → xs.getD i 0 < xs.getD k 0
theorem getD_any {xs : Array Nat} {i a b : Nat} (h : i < xs.size) : xs.getD i a = xs.getD i b := by
  simp [Array.getD, h]
theorem go_spec {xs : Array Nat} {j : Nat} (hr : Rise xs) : ∀ (f lo hi : Nat), lo ≤ hi → hi ≤ xs.size → hi - lo ≤ f → (∀ i, i < lo → xs.getD i 0 < j) → (∀ i, hi ≤ i → i < xs.size → j ≤ xs.getD i 0) →
    SetTable.below.go xs j f lo hi ≤ xs.size ∧ (∀ i, i < SetTable.below.go xs j f lo hi → xs.getD i 0 < j) ∧ ∀ i, SetTable.below.go xs j f lo hi ≤ i → i < xs.size → j ≤ xs.getD i 0 := by
  intro f
  induction f with
  | zero =>
    intro lo hi h1 h2 h3 h4 h5
    have e : lo = hi := by omega
    subst e
    exact ⟨h2, h4, h5⟩
  | succ f ih =>
    intro lo hi h1 h2 h3 h4 h5
    unfold SetTable.below.go
    by_cases hlt : lo < hi
    · rw [if_pos hlt]
      have m1 : (lo + hi) / 2 < hi := by omega
      have m2 : lo ≤ (lo + hi) / 2 := by omega
      dsimp only
      rw [getD_any (b := 0) (Nat.lt_of_lt_of_le m1 h2)]
      by_cases hm : xs.getD ((lo + hi) / 2) 0 < j
      · rw [if_pos hm]
        refine ih _ _ (by omega) h2 (by omega) (fun i hi' => ?_) h5
        rcases Nat.lt_or_ge i ((lo + hi) / 2) with q | q
        · exact Nat.lt_trans (hr i _ q (by omega)) hm
        · have e : i = (lo + hi) / 2 := by omega
          rw [e]; exact hm
      · rw [if_neg hm]
        refine ih _ _ m2 (by omega) (by omega) h4 (fun i hi' hs => ?_)
        rcases Nat.lt_or_ge ((lo + hi) / 2) i with q | q
        · exact Nat.le_trans (Nat.not_lt.mp hm) (Nat.le_of_lt (hr _ i q hs))
        · have e : i = (lo + hi) / 2 := by omega
          rw [e]; exact Nat.not_lt.mp hm
    · rw [if_neg hlt]
      have e : lo = hi := by omega
      subst e
      exact ⟨h2, h4, h5⟩
theorem below_spec {xs : Array Nat} {j : Nat} (hr : Rise xs) : SetTable.below xs j ≤ xs.size ∧ (∀ i, i < SetTable.below xs j → xs.getD i 0 < j) ∧ ∀ i, SetTable.below xs j ≤ i → i < xs.size → j ≤ xs.getD i 0 :=
  go_spec hr xs.size 0 xs.size (Nat.zero_le _) (Nat.le_refl _) (Nat.le_refl _) (fun i h => absurd h (Nat.not_lt_zero _)) (fun i h1 h2 => absurd (Nat.lt_of_lt_of_le h2 h1) (Nat.lt_irrefl _))
/-- the slot ahead of the i-th place -/
theorem below_at {xs : Array Nat} (hr : Rise xs) {i s : Nat} (h1 : ∀ k, k < i → xs.getD k 0 < s) (h2 : i < xs.size → s ≤ xs.getD i 0) (hi : i ≤ xs.size) : SetTable.below xs s = i := by
  obtain ⟨b1, b2, b3⟩ := below_spec (j := s) hr
  rcases Nat.lt_trichotomy (SetTable.below xs s) i with q | q | q
  · have := b3 _ (Nat.le_refl _) (by omega)
    have := h1 _ q
    omega
  · exact q
  · have := b2 i q
    have := h2 (by omega)
    omega
theorem rise_list {xs : Array Nat} : Rise xs ↔ xs.toList.Pairwise (· < ·) := by
  rw [List.pairwise_iff_getElem]
  constructor
  · intro h i k hi hk hik
    have h' := h i k hik (by simpa using hk)
    have hi' : i < xs.size := by simpa using hi
    have hk' : k < xs.size := by simpa using hk
    simpa [Array.getD, hi', hk'] using h'
  · intro h i k hik hk
    have hi : i < xs.size := Nat.lt_trans hik hk
    have h' := h i k (by simpa using hi) (by simpa using hk) hik
    simpa [Array.getD, hi, hk] using h'
theorem rise_insert {xs : Array Nat} {j : Nat} (hr : Rise xs) (hn : ∀ i, i < xs.size → xs.getD i 0 ≠ j) : Rise (SetTable.insertAt xs (SetTable.below xs j) j) := by
  obtain ⟨b1, b2, b3⟩ := below_spec (j := j) hr
  rw [rise_list, SetTable.toList_insertAt]
  have hp := rise_list.mp hr
  have take : ∀ a ∈ xs.toList.take (SetTable.below xs j), a < j := fun a ha => by
    obtain ⟨i, hi, e⟩ := List.getElem_of_mem ha
    have hi' : i < SetTable.below xs j ∧ i < xs.size := by
      rw [List.length_take] at hi
      simp at hi
      omega
    have := b2 i hi'.1
    rw [← e, List.getElem_take]
    simpa [Array.getD, hi'.2] using this
  have drop : ∀ a ∈ xs.toList.drop (SetTable.below xs j), j < a := fun a ha => by
    obtain ⟨i, hi, e⟩ := List.getElem_of_mem ha
    have hi' : SetTable.below xs j + i < xs.size := by
      rw [List.length_drop] at hi
      simp at hi
      omega
    have h1 := b3 (SetTable.below xs j + i) (Nat.le_add_right _ _) hi'
    have h2 := hn _ hi'
    rw [← e, List.getElem_drop]
    have h3 : j < xs.getD (SetTable.below xs j + i) 0 := by omega
    simpa [Array.getD, hi'] using h3
  refine List.pairwise_append.mpr ⟨hp.sublist (List.take_sublist _ _), List.pairwise_cons.mpr ⟨drop, hp.sublist (List.drop_sublist _ _)⟩, fun a ha b hb => ?_⟩
  rcases List.mem_cons.mp hb with e | hb
  · rw [e]; exact take a ha
  · exact Nat.lt_trans (take a ha) (drop b hb)

structure TInv (t : SetTable) : Prop where
  nod : t.dummies = #[]
  up : t.plain = true → Rise t.place
theorem no_dummy {t : SetTable} (h : t.dummies = #[]) (j : Nat) : t.slot j ≠ .dummy := by
  unfold SetTable.slot
  dsimp only
  split
  · intro z; cases z
  · have e : SetTable.has t.dummies j = false := by rw [h]; simp [SetTable.has]
    rw [if_neg (by rw [e]; exact Bool.false_ne_true)]
    intro z; cases z
theorem probe_spec {t : SetTable} (h : t.dummies = #[]) {f : Nat → Int} {x : Int} : ∀ (n : Nat) (p : SetTable.Probe) {j : Nat} {d : Option Nat}, SetTable.probe.go t f x n p = some (.empty j d) → t.slot j = .empty ∧ d = p.dummy := by
  intro n
  induction n with
  | zero => intro p j d e; cases e
  | succ n ih =>
    intro p j d e
    unfold SetTable.probe.go at e
    cases q : t.slot p.j with
    | empty =>
      rw [q] at e
      cases e
      exact ⟨q, rfl⟩
    | dummy => exact absurd q (no_dummy h _)
    | live i =>
      rw [q] at e
      dsimp only at e
      have adv : (t.advance p).dummy = p.dummy := by
        unfold SetTable.advance
        split <;> rfl
      split at e
      · cases e
      · have := ih _ e
        rw [adv] at this
        exact this
theorem slot_out {t : SetTable} (hr : Rise t.place) {j : Nat} (h : t.slot j = .empty) : ∀ i, i < t.place.size → t.place.getD i 0 ≠ j := by
  intro i hi e
  have hb : SetTable.below t.place j = i := below_at hr (fun k hk => by rw [← e]; exact hr k i hk hi) (fun _ => by rw [e]; exact Nat.le_refl _) (Nat.le_of_lt hi)
  have q : t.place[SetTable.below t.place j]? = some j := by
    rw [hb, ← e]
    simp [Array.getD, hi]
  unfold SetTable.slot at h
  dsimp only at h
  rw [if_pos (by rw [q]; simp)] at h
  cases h
theorem standIn_inv (t : SetTable) (n : Nat) : TInv (t.standIn n) ∧ (t.standIn n).led = t.led := ⟨⟨rfl, fun h => by cases h⟩, rfl⟩
theorem layNew_inv {t : SetTable} (es : Array (Int × Value)) (h : Int) (x : Value) (I : TInv t) : TInv (layNew t es h x).2.1 ∧ (layNew t es h x).2.1.led = t.led := by
  unfold layNew
  cases e : t.freeSlot h with
  | none => exact standIn_inv _ _
  | some p =>
    obtain ⟨slot, wd⟩ := p
    dsimp only
    unfold SetTable.freeSlot at e
    cases q : t.probe (fun _ => h + 1) h (t.probeStart h) with
    | none => rw [q] at e; cases e
    | some m =>
      rw [q] at e
      cases m with
      | candidate a b c => cases e
      | empty j d =>
        obtain ⟨h1, h2⟩ := probe_spec I.nod _ _ q
        have h2 : d = none := h2
        subst h2
        have e1 : j = slot := by
          have := congrArg Prod.fst (Option.some.inj e)
          exact this
        subst e1
        have key : TInv (t.put j).1 ∧ (t.put j).1.led = t.led := by
          refine ⟨⟨?_, fun hp => ?_⟩, rfl⟩
          · show (if SetTable.has t.dummies j then _ else t.dummies) = #[]
            rw [if_neg (by rw [I.nod]; simp [SetTable.has])]
            exact I.nod
          · exact rise_insert (I.up hp) (slot_out (I.up hp) h1)
        unfold SetTable.orStandIn
        split
        · exact key
        · exact ⟨(standIn_inv _ _).1, (standIn_inv _ _).2.trans key.2⟩
theorem live_fst {β : Type} (g : Nat → Option β) : ∀ l : List Nat, (l.filterMap fun j => (g j).map (j, ·)).map (·.1) = l.filter fun j => (g j).isSome
  | [] => rfl
  | a :: r => by
    have ih := live_fst g r
    cases e : g a with
    | none => simp [List.filterMap_cons, e, ih]
    | some b => simp [List.filterMap_cons, e, ih]
theorem relayAll_inv {t : SetTable} (es : Array (Int × Value)) (n : Nat) : TInv (relayAll t es n).2.1 ∧ (relayAll t es n).2.1.led = t.led := by
  unfold relayAll
  cases e : t.relaid (es.map (·.1)) n with
  | none => exact standIn_inv _ _
  | some p =>
    obtain ⟨t', order⟩ := p
    dsimp only
    split
    · unfold SetTable.relaid SetTable.laid at e
      cases q : SetTable.layClean (SetTable.sizeAbove n - 1) (es.map (·.1)) with
      | none => rw [q] at e; cases e
      | some owner =>
        rw [q] at e
        have e := congrArg Prod.fst (Option.some.inj e)
        dsimp only at e
        subst e
        refine ⟨⟨rfl, fun _ => ?_⟩, rfl⟩
        rw [rise_list]
        dsimp only
        have z := live_fst (fun j => owner.getD j none) (List.range (SetTable.sizeAbove n - 1 + 1))
        rw [z]
        exact List.pairwise_lt_range.sublist List.filter_sublist
    · exact standIn_inv _ _

/-! ### the order by the text -/
theorem perm_erase {α : Type} : ∀ (l : List α) (i : Nat) (h : i < l.length), List.Perm (l[i] :: l.eraseIdx i) l
  | a :: r, 0, _ => List.Perm.refl _
  | a :: r, i + 1, h => by
    have q := perm_erase r i (by simpa using h)
    show List.Perm (r[i]'(by simpa using h) :: a :: r.eraseIdx i) (a :: r)
    exact (List.Perm.swap _ _ _).trans (q.cons a)
theorem pick_go {α : Type} (next : Nat → Nat) : ∀ (n k : Nat) (left : List α) (out : Array α), n = left.length → List.Perm (pickOrder.go next n k left out).toList (out.toList ++ left)
  | 0, k, left, out, h => by
    have e : left = [] := List.eq_nil_of_length_eq_zero h.symm
    subst e
    simp [pickOrder.go]
  | n + 1, k, left, out, h => by
    unfold pickOrder.go
    have hlt : next k % left.length < left.length := Nat.mod_lt _ (by omega)
    have e : left[next k % left.length]? = some left[next k % left.length] := List.getElem?_eq_getElem hlt
    rw [e]
    dsimp only
    refine (pick_go next n (k + 1) _ _ (by rw [List.length_eraseIdx, if_pos hlt]; omega)).trans ?_
    rw [Array.toList_push, List.append_assoc]
    refine List.Perm.append_left _ ?_
    show List.Perm (left[next k % left.length] :: left.eraseIdx (next k % left.length)) left
    exact perm_erase _ _ hlt
theorem pick_perm {α : Type} (next : Nat → Nat) (xs : Array α) : List.Perm (pickOrder next xs).toList xs.toList := by
  have := pick_go next xs.size 0 xs.toList #[] (by simp)
  simpa [pickOrder] using this
end SF


set_option Elab.async false
set_option linter.all false
set_option maxRecDepth 100000
set_option maxHeartbeats 4000000
namespace SF
open PySem PySem.Calls PyProof.Rows

theorem slot_si_next : Slot "set_iterator" "__next__" "set_iterator.__next__" :=
  .of (owner := "set_iterator") (n := "__next__") (by rw [typeLookup_type, builtinLookup_eq_fast]; kernel_rfl) (by decide +kernel) (by decide +kernel) (by decide +kernel)
    (by first | exact .inl (by decide +kernel) | exact .inr (by decide +kernel)) (by rw [isSubtype_type]; kernel_rfl)
theorem entry_si_next : entryFor table "set_iterator.__next__" = some Builtin.«set_iterator.__next__» := entryFor_of_tree (by kernel_rfl)
theorem args_si_next (a : Value) : argsOk "set_iterator.__next__" ⟨[a], []⟩ := by unfold argsOk; kernel_rfl
theorem entry_set_iter : entryFor table "set.__iter__" = some Builtin.«frozenset.__iter__» :=
  entryFor_alias (id' := "frozenset.__iter__") (by kernel_rfl) rfl (by decide +kernel) (by kernel_rfl)

section
variable {prog : Program} {w : World} {A : Around} {E : Value → Shared → Prop} {s : Shared}

/-- a set as it lies -/
def SetIs (h : Heap) (a : Addr) (es : Array (Int × Value)) (ep : Nat) (t : SetTable) : Prop := ∃ o, h.get? a = some o ∧ o.ExactSet ∧ o.data = .set es ep t
def SiAt (h : Heap) (I : Addr) (first : Value) (i : Nat) (a : Addr) (n ep : Nat) : Prop :=
  ∃ o, h.get? I = some o ∧ o.cls = .type "set_iterator" ∧ o.data = .fields #[first, .int i 0, .ref a, .int n 0, .int ep 0]
theorem SiAt.typeIs {I : Addr} {first : Value} {i : Nat} {a : Addr} {n ep : Nat} (x : SiAt s.heap I first i a n ep) : s.TypeIs (.ref I) "set_iterator" := let ⟨o, ho, hc, _⟩ := x; ⟨o, ho, hc⟩

theorem next_int {a I : Addr} {es : Array (Int × Value)} {ep : Nat} {t : SetTable} {sl i : Nat} {v : Value} {sl' : Nat} {Q : Option Value → Shared → Prop}
    (hs : SetIs s.heap a es ep t) (hf : t.fits es.size = true) (hi : SiAt s.heap I (.int sl 0) i a es.size ep)
    (hN : ∀ (s : Shared) (A : Around) (E : Value → Shared → Prop) (R : Option (Value × Nat) → Shared → Prop), SetIs s.heap a es ep t → R (some (v, sl')) s → wpAny (model prog w) A (setNext a sl i ep) R E s)
    (hQ : ∀ h', SiAt h' I (.int sl' 0) (i + 1) a es.size ep → Heap.SameBut I s.heap h' → Q (some v) { s with heap := h' }) : wpAny (model prog w) A (pyNext (.ref I)) Q E s := by
  obtain ⟨o, ho, hc, hd⟩ := id hi
  obtain ⟨oa, hoa, hex, hda⟩ := id hs
  unfold pyNext
  refine wpAny_bind (wpAny_attempt (wpAny_callSpecial?_slot (name := Str.ofString "__next__") hi.typeIs slot_si_next
    (wpAny_call_entry slot_si_next hi.typeIs entry_si_next ?_ (args_si_next _))))
  unfold Builtin.«set_iterator.__next__»
  refine wpAny_bind (wpAny_pure ?_)
  refine wpAny_bind (wpAny_fieldsOf ho hd ?_)
  dsimp only
  refine wpAny_bind (wpAny_setEntries_of hoa hda hf ?_)
  rw [if_neg (by simp)]
  simp only [Int.toNat_natCast]
  refine wpAny_bind (hN s _ _ _ hs ?_)
  dsimp only
  refine wpAny_bind (wpAny_setField ho hd (by simp) ?_)
  have ho1 := Heap.get?_update_self (Obj.mapFields (·.setIfInBounds 0 (rawInt (sl' : Int)))) ho (Obj.isFreed_of_fields (Obj.data_mapFields hd _))
  have hd1 := Obj.data_mapFields hd (·.setIfInBounds 0 (rawInt (sl' : Int)))
  refine wpAny_bind (wpAny_setField ho1 hd1 (by simp) ?_)
  have ho2 := Heap.get?_update_self (Obj.mapFields (·.setIfInBounds 1 (rawInt ((i : Int) + 1)))) ho1 (Obj.isFreed_of_fields (Obj.data_mapFields hd1 _))
  have hd2 := Obj.data_mapFields hd1 (·.setIfInBounds 1 (rawInt ((i : Int) + 1)))
  refine wpAny_pure ⟨_, rfl, wpAny_pure (hQ _ ⟨_, ho2, ?_, ?_⟩ ((Heap.SameBut.update ..).trans (Heap.SameBut.update ..)))⟩
  · rw [Obj.cls_mapFields, Obj.cls_mapFields]
    exact hc
  · rw [hd2]
    simp [rawInt]
/-- the end: the iterator forgets its set, a StopIteration is made -/
theorem end_int {a I : Addr} {es : Array (Int × Value)} {ep : Nat} {t : SetTable} {sl i : Nat} {Q : Option Value → Shared → Prop} (hh : A.handled = none)
    (hs : SetIs s.heap a es ep t) (hf : t.fits es.size = true) (hi : SiAt s.heap I (.int sl 0) i a es.size ep)
    (hN : ∀ (s : Shared) (A : Around) (E : Value → Shared → Prop) (R : Option (Value × Nat) → Shared → Prop), SetIs s.heap a es ep t → R none s → wpAny (model prog w) A (setNext a sl i ep) R E s)
    (hQ : ∀ h', Heap.ExtBut I s.heap h' → Q none { s with heap := h' }) : wpAny (model prog w) A (pyNext (.ref I)) Q E s := by
  obtain ⟨o, ho, hc, hd⟩ := id hi
  obtain ⟨oa, hoa, hex, hda⟩ := id hs
  unfold pyNext
  refine wpAny_bind (wpAny_attempt (wpAny_callSpecial?_slot (name := Str.ofString "__next__") hi.typeIs slot_si_next
    (wpAny_call_entry slot_si_next hi.typeIs entry_si_next ?_ (args_si_next _))))
  unfold Builtin.«set_iterator.__next__»
  refine wpAny_bind (wpAny_pure ?_)
  refine wpAny_bind (wpAny_fieldsOf ho hd ?_)
  dsimp only
  refine wpAny_bind (wpAny_setEntries_of hoa hda hf ?_)
  rw [if_neg (by simp)]
  simp only [Int.toNat_natCast]
  refine wpAny_bind (hN s _ _ _ hs ?_)
  dsimp only
  refine wpAny_bind (wpAny_setField ho hd (by simp) ?_)
  refine wpAny_bind ?_
  simp only [newExc, newTuple]
  refine wpAny_bind (wpAny_newObj_type ?_ (by size_fits))
  refine wpAny_bind (m := firstArgMember _ _) (wpAny_of_eq (a := Value.none) (by first | rfl | (simp only [firstArgMember]; rfl)) ?_)
  refine wpAny_newObj_type ?_ (by size_fits)
  simp only [raiseNew]
  refine wpAny_bind (wpAny_handled ?_)
  rw [show A.in1.handled = none from hh]
  refine wpAny_bind (wpAny_pure (wpAny_throw ?_))
  refine wpAny_bind (wpAny_isInstance (T := "StopIteration") (b := true) ⟨_, Heap.get?_push_size _ rfl, rfl⟩ isSubtype_stop ?_)
  exact wpAny_pure (hQ _ (((Heap.SameBut.update ..).extBut.push _).push _))
theorem next_drawn {a I T : Addr} {es : Array (Int × Value)} {ep : Nat} {t : SetTable} {i p : Nat} {ps : Array Value} {k : Nat} {tk : Tok} {oT : Obj} {c : Int} {v : Value} {Q : Option Value → Shared → Prop}
    (hs : SetIs s.heap a es ep t) (hf : t.fits es.size = true) (hi : SiAt s.heap I (.ref T) i a es.size ep) (hT : s.heap.get? T = some oT) (hTd : oT.data = .seq ps k) (hp : ps[i]? = some (.int p tk)) (hv : es[p]? = some (c, v))
    (hQ : ∀ h', SiAt h' I (.ref T) (i + 1) a es.size ep → Heap.SameBut I s.heap h' → Q (some v) { s with heap := h' }) : wpAny (model prog w) A (pyNext (.ref I)) Q E s := by
  obtain ⟨o, ho, hc, hd⟩ := id hi
  obtain ⟨oa, hoa, hex, hda⟩ := id hs
  unfold pyNext
  refine wpAny_bind (wpAny_attempt (wpAny_callSpecial?_slot (name := Str.ofString "__next__") hi.typeIs slot_si_next
    (wpAny_call_entry slot_si_next hi.typeIs entry_si_next ?_ (args_si_next _))))
  unfold Builtin.«set_iterator.__next__»
  refine wpAny_bind (wpAny_pure ?_)
  refine wpAny_bind (wpAny_fieldsOf ho hd ?_)
  dsimp only
  refine wpAny_bind (wpAny_setEntries_of hoa hda hf ?_)
  rw [if_neg (by simp)]
  simp only [Int.toNat_natCast]
  refine wpAny_bind ?_
  unfold seqItems?
  refine wpAny_bind (wpAny_load hT ?_)
  rw [hTd]
  refine wpAny_pure ?_
  dsimp only
  rw [hp]
  dsimp only
  refine wpAny_bind ?_
  unfold setNextDrawn
  refine wpAny_bind (wpAny_setState_of hoa hda hf ?_)
  dsimp only
  rw [if_neg (by simp)]
  simp only [Int.toNat_natCast]
  rw [hv]
  refine wpAny_pure ?_
  refine wpAny_bind (wpAny_setField ho hd (by simp) ?_)
  have ho2 := Heap.get?_update_self (Obj.mapFields (·.setIfInBounds 1 (rawInt ((i : Int) + 1)))) ho (Obj.isFreed_of_fields (Obj.data_mapFields hd _))
  have hd2 := Obj.data_mapFields hd (·.setIfInBounds 1 (rawInt ((i : Int) + 1)))
  refine wpAny_pure ⟨_, rfl, wpAny_pure (hQ _ ⟨_, ho2, ?_, ?_⟩ (Heap.SameBut.update ..))⟩
  · rw [Obj.cls_mapFields]
    exact hc
  · rw [hd2]
    simp [rawInt]
theorem end_drawn {a I T : Addr} {es : Array (Int × Value)} {ep : Nat} {t : SetTable} {i : Nat} {ps : Array Value} {k : Nat} {oT : Obj} {Q : Option Value → Shared → Prop} (hh : A.handled = none)
    (hs : SetIs s.heap a es ep t) (hf : t.fits es.size = true) (hi : SiAt s.heap I (.ref T) i a es.size ep) (hT : s.heap.get? T = some oT) (hTd : oT.data = .seq ps k) (hp : ps[i]? = none)
    (hQ : ∀ h', Heap.ExtBut I s.heap h' → Q none { s with heap := h' }) : wpAny (model prog w) A (pyNext (.ref I)) Q E s := by
  obtain ⟨o, ho, hc, hd⟩ := id hi
  obtain ⟨oa, hoa, hex, hda⟩ := id hs
  unfold pyNext
  refine wpAny_bind (wpAny_attempt (wpAny_callSpecial?_slot (name := Str.ofString "__next__") hi.typeIs slot_si_next
    (wpAny_call_entry slot_si_next hi.typeIs entry_si_next ?_ (args_si_next _))))
  unfold Builtin.«set_iterator.__next__»
  refine wpAny_bind (wpAny_pure ?_)
  refine wpAny_bind (wpAny_fieldsOf ho hd ?_)
  dsimp only
  refine wpAny_bind (wpAny_setEntries_of hoa hda hf ?_)
  rw [if_neg (by simp)]
  simp only [Int.toNat_natCast]
  refine wpAny_bind ?_
  unfold seqItems?
  refine wpAny_bind (wpAny_load hT ?_)
  rw [hTd]
  refine wpAny_pure ?_
  dsimp only
  rw [hp]
  dsimp only
  refine wpAny_bind (wpAny_setField ho hd (by simp) ?_)
  have ho1 := Heap.get?_update_self (Obj.mapFields (·.setIfInBounds 0 (rawInt 0))) ho (Obj.isFreed_of_fields (Obj.data_mapFields hd _))
  have hd1 := Obj.data_mapFields hd (·.setIfInBounds 0 (rawInt 0))
  refine wpAny_bind (wpAny_setField ho1 hd1 (by simp) ?_)
  refine wpAny_bind ?_
  simp only [newExc, newTuple]
  refine wpAny_bind (wpAny_newObj_type ?_ (by size_fits))
  refine wpAny_bind (m := firstArgMember _ _) (wpAny_of_eq (a := Value.none) (by first | rfl | (simp only [firstArgMember]; rfl)) ?_)
  refine wpAny_newObj_type ?_ (by size_fits)
  simp only [raiseNew]
  refine wpAny_bind (wpAny_handled ?_)
  rw [show A.in1.handled = none from hh]
  refine wpAny_bind (wpAny_pure (wpAny_throw ?_))
  refine wpAny_bind (wpAny_isInstance (T := "StopIteration") (b := true) ⟨_, Heap.get?_push_size _ rfl, rfl⟩ isSubtype_stop ?_)
  exact wpAny_pure (hQ _ ((((Heap.SameBut.update ..).trans (Heap.SameBut.update ..)).extBut.push _).push _))

/-! ### the next place -/
theorem setNext_text {a : Addr} {es : Array (Int × Value)} {ep : Nat} {t : SetTable} {sl i : Nat} {R : Option (Value × Nat) → Shared → Prop} (hb : w.params.followText "set-order" = true)
    (hs : SetIs s.heap a es ep t) (hf : t.fits es.size = true) (h : R (((pickOrder (w.params.setOrder a ep) es)[i]?).map fun e => (e.2, sl)) s) : wpAny (model prog w) A (setNext a sl i ep) R E s := by
  obtain ⟨o, ho, hex, hd⟩ := id hs
  unfold setNext setsByText
  refine wpAny_bind (wpAny_setState_of ho hd hf ?_)
  dsimp only
  refine wpAny_bind (wpAny_bind (wpAny_askSetting (wpAny_pure ?_)))
  rw [if_pos (show (⟨(model prog w).prog, (model prog w).w.params⟩ : Setting).params.followText "set-order" = true from hb), if_neg (by simp)]
  refine wpAny_bind ?_
  unfold setWalk setsByText
  refine wpAny_bind (wpAny_setState_of ho hd hf ?_)
  dsimp only
  refine wpAny_bind (wpAny_bind (wpAny_askSetting (wpAny_pure ?_)))
  rw [if_pos (show (⟨(model prog w).prog, (model prog w).w.params⟩ : Setting).params.followText "set-order" = true from hb)]
  exact wpAny_bind (wpAny_askSetting (wpAny_pure (wpAny_pure h)))
theorem setNext_plain {a : Addr} {es : Array (Int × Value)} {ep : Nat} {t : SetTable} {sl i : Nat} {R : Option (Value × Nat) → Shared → Prop} (hb : w.params.followText "set-order" = false) (hp : (!t.plain && decide (es.size > 1)) = false) (hl : t.led = true)
    (hs : SetIs s.heap a es ep t) (hf : t.fits es.size = true)
    (h : R (match es[SetTable.below t.place sl]?, t.place[SetTable.below t.place sl]? with | some (_, x), some j => some (x, j + 1) | _, _ => none) s) : wpAny (model prog w) A (setNext a sl i ep) R E s := by
  obtain ⟨o, ho, hex, hd⟩ := id hs
  unfold setNext setsByText
  refine wpAny_bind (wpAny_setState_of ho hd hf ?_)
  dsimp only
  refine wpAny_bind (wpAny_bind (wpAny_askSetting (wpAny_pure ?_)))
  rw [if_neg (show ¬ (⟨(model prog w).prog, (model prog w).w.params⟩ : Setting).params.followText "set-order" = true from by show ¬ w.params.followText "set-order" = true; rw [hb]; exact Bool.false_ne_true)]
  refine wpAny_ite_split (fun hab => absurd (show (!t.plain && decide (es.size > 1)) = true from hab) (by rw [hp]; exact Bool.false_ne_true)) (fun _ => ?_)
  refine wpAny_bind ?_
  show wpAny (model prog w) A (if (!t.led && !es.isEmpty) = true then unsupported "set:maker-not-led" else pure ()) _ _ s
  rw [if_neg (by rw [hl]; simp)]
  exact wpAny_pure (wpAny_pure h)

/-! ### iter(set) -/
theorem wpAny_choose {src : Source} {n : Nat} {Q : Nat → Shared → Prop} (hn : 0 < n) (h : ∀ i d, i < n → Q i { s with drawn := d }) : wpAny (model prog w) A (choose src n) Q E s := fun _ _ _ =>
  ⟨Nat.ne_of_gt hn, h _ _ (Nat.mod_lt _ hn)⟩
theorem drawOrder_perm : ∀ (n : Nat) (l : List Nat) (s : Shared) {Q : List Nat → Shared → Prop}, n = l.length → (∀ r d, List.Perm r l → Q r { s with drawn := d }) → wpAny (model prog w) A (drawOrder n l) Q E s
  | 0, l, s, Q, hn, h => by
    have e : l = [] := List.eq_nil_of_length_eq_zero hn.symm
    subst e
    exact wpAny_pure (h [] s.drawn (List.Perm.refl _))
  | n + 1, [], s, Q, hn, h => by cases hn
  | n + 1, x :: r, s, Q, hn, h => by
    unfold drawOrder
    refine wpAny_bind (wpAny_choose (by simp) fun i d hi => ?_)
    have e : (x :: r)[i]? = some (x :: r)[i] := List.getElem?_eq_getElem hi
    rw [e]
    dsimp only
    refine wpAny_bind (drawOrder_perm n _ _ (by rw [List.length_eraseIdx, if_pos hi]; omega) fun q d' hq => wpAny_pure ?_)
    exact h _ d' ((hq.cons _).trans (perm_erase _ _ hi))
structure SI (prog : Program) (w : World) (s : Shared) (a : Addr) (es : Array (Int × Value)) (ep : Nat) (t : SetTable) : Prop where
  hs : SetIs s.heap a es ep t
  fit : t.fits es.size = true
  inv : TInv t
  led : w.params.followText "set-order" = true ∨ t.led = true
theorem SetIs.typeIs {a : Addr} {es : Array (Int × Value)} {ep : Nat} {t : SetTable} (x : SetIs s.heap a es ep t) : s.TypeIs (.ref a) "set" := let ⟨o, ho, hc, _⟩ := x; ⟨o, ho, hc.1⟩
theorem SetIs.lt {h : Heap} {a : Addr} {es : Array (Int × Value)} {ep : Nat} {t : SetTable} (x : SetIs h a es ep t) : a < h.objs.size := let ⟨o, ho, _⟩ := x; Heap.lt_size ho
theorem SetIs.at {h h' : Heap} {a : Addr} {es : Array (Int × Value)} {ep : Nat} {t : SetTable} (x : SetIs h a es ep t) (e : ∀ o, h.get? a = some o → h'.get? a = some o) : SetIs h' a es ep t := let ⟨o, ho, r⟩ := x; ⟨o, e _ ho, r⟩
theorem SiAt.at {h h' : Heap} {I : Addr} {first : Value} {i : Nat} {a : Addr} {n ep : Nat} (x : SiAt h I first i a n ep) (e : ∀ o, h.get? I = some o → h'.get? I = some o) : SiAt h' I first i a n ep := let ⟨o, ho, r⟩ := x; ⟨o, e _ ho, r⟩
theorem slot_si_iter : Slot "set_iterator" "__iter__" "set_iterator.__iter__" :=
  .of (owner := "set_iterator") (n := "__iter__") (by rw [typeLookup_type, builtinLookup_eq_fast]; kernel_rfl) (by decide +kernel) (by decide +kernel) (by decide +kernel)
    (by first | exact .inl (by decide +kernel) | exact .inr (by decide +kernel)) (by rw [isSubtype_type]; kernel_rfl)
theorem iter_set {a : Addr} {es : Array (Int × Value)} {ep : Nat} {t : SetTable} {Q : Value → Shared → Prop} (S : SI prog w s a es ep t) (hsz : es.size ≤ sizeLine)
    (h1 : (w.params.followText "set-order" = true ∨ (!t.plain && decide (es.size > 1)) = false) → Q (.ref s.heap.objs.size) { s with heap := s.heap.push { cls := .type "set_iterator", data := .fields #[.int 0 0, .int 0 0, .ref a, .int es.size 0, .int ep 0] } })
    (h2 : ∀ (r : List Nat) (d : Drawn), List.Perm r (List.range es.size) → Q (.ref (s.heap.objs.size + 1)) { s with drawn := d, heap := (s.heap.push { cls := .type "tuple", data := .seq ((r.map fun (i : Nat) => rawInt i).toArray) }).push { cls := .type "set_iterator", data := .fields #[.ref s.heap.objs.size, .int 0 0, .ref a, .int es.size 0, .int ep 0] } }) :
    wpAny (model prog w) A (pyIter (.ref a)) Q E s := by
  obtain ⟨o, ho, hex, hd⟩ := id S.hs
  refine wpAny_pyIter_slot S.hs.typeIs PySem.F.slot_set_iter (wpAny_call_entry PySem.F.slot_set_iter S.hs.typeIs entry_set_iter ?_ (PySem.F.args_set_iter_1 _))
  unfold Builtin.«frozenset.__iter__» Builtin.Frozenset.slot0
  refine wpAny_bind (wpAny_bind (wpAny_pure (wpAny_pure ?_)))
  refine wpAny_bind ?_
  unfold Builtin.Frozenset.sizeOf
  refine wpAny_bind (wpAny_setEntries_of ho hd S.fit (wpAny_pure ?_))
  refine wpAny_bind ?_
  unfold setDrawn setsByText
  refine wpAny_bind (wpAny_setState_of ho hd S.fit ?_)
  dsimp only
  refine wpAny_bind (wpAny_bind (wpAny_askSetting (wpAny_pure ?_)))
  refine wpAny_pure ?_
  dsimp only
  by_cases hb : w.params.followText "set-order" = true
  · refine wpAny_ite_split (fun hab => ?_) (fun _ => ?_)
    · have hab : (!w.params.followText "set-order" && _) = true := hab
      rw [hb] at hab
      exact absurd hab (by simp)
    · refine wpAny_bind (wpAny_pure ?_)
      refine wpAny_bind (wpAny_setEpoch_of ho hd S.fit ?_)
      refine wpAny_bind (wpAny_newObj_type ?_)
      exact wpAny_pure ⟨_, rfl, "set_iterator", _, ⟨_, Heap.get?_push_size _ rfl, rfl⟩, slot_si_next.lookup, h1 (.inl hb)⟩
  · have hb' : w.params.followText "set-order" = false := by simpa using hb
    refine wpAny_ite_split (fun hab => ?_) (fun hab => ?_)
    · refine wpAny_bind (drawOrder_perm _ _ _ (by simp) fun r d hr => ?_)
      refine wpAny_bind (wpAny_newObj_type ?_ ?_)
      · refine wpAny_bind (wpAny_setEpoch_of (Heap.get?_push_of_some _ ho) hd S.fit ?_)
        refine wpAny_bind (wpAny_newObj_type ?_)
        have hz := h2 r d hr
        rw [← size_push' s.heap { cls := .type "tuple", data := .seq ((r.map fun (i : Nat) => rawInt i).toArray) }] at hz
        exact wpAny_pure ⟨_, rfl, "set_iterator", _, ⟨_, Heap.get?_push_size _ rfl, rfl⟩, slot_si_next.lookup, hz⟩
      · have hl : r.length = es.size := by rw [hr.length_eq, List.length_range]
        show (List.map _ r).toArray.size ≤ _
        rw [List.size_toArray, List.length_map, hl]
        omega
    · refine wpAny_bind (wpAny_pure ?_)
      refine wpAny_bind (wpAny_setEpoch_of ho hd S.fit ?_)
      refine wpAny_bind (wpAny_newObj_type ?_)
      refine wpAny_pure ⟨_, rfl, "set_iterator", _, ⟨_, Heap.get?_push_size _ rfl, rfl⟩, slot_si_next.lookup, h1 (.inr ?_)⟩
      have hab : ¬ ((!w.params.followText "set-order" && (!t.plain && decide (es.size > 1))) = true) := hab
      rw [hb'] at hab
      simpa using hab
theorem entry_si_iter : entryFor table "set_iterator.__iter__" = some Builtin.«dict_keyiterator.__iter__» :=
  entryFor_alias (id' := "dict_keyiterator.__iter__") (by kernel_rfl) rfl (by decide +kernel) (by kernel_rfl)
theorem args_si_iter (a : Value) : argsOk "set_iterator.__iter__" ⟨[a], []⟩ := by unfold argsOk; kernel_rfl
theorem self_si {I : Addr} {first : Value} {i : Nat} {a : Addr} {n ep : Nat} {Q : Value → Shared → Prop} (hi : SiAt s.heap I first i a n ep) (h : Q (.ref I) s) : wpAny (model prog w) A (pyIter (.ref I)) Q E s := by
  refine wpAny_pyIter_slot hi.typeIs slot_si_iter (wpAny_call_entry slot_si_iter hi.typeIs entry_si_iter ?_ (args_si_iter _))
  show wpAny _ _ (ret (.ref I)) _ _ s
  exact wpAny_pure ⟨_, rfl, "set_iterator", _, hi.typeIs, slot_si_next.lookup, h⟩
theorem walks_int (hh : A.handled = none) {a I : Addr} (hne : a ≠ I) {es : Array (Int × Value)} {ep : Nat} {t : SetTable} (hf : t.fits es.size = true) (order : List Value) (hl : order.length = es.size) (sl : Nat → Nat)
    (hN : ∀ (i : Nat) (v : Value), order[i]? = some v → ∀ (s : Shared) (A : Around) (E : Value → Shared → Prop) (R : Option (Value × Nat) → Shared → Prop), SetIs s.heap a es ep t → R (some (v, sl (i + 1))) s → wpAny (model prog w) A (setNext a (sl i) i ep) R E s)
    (hE : ∀ (s : Shared) (A : Around) (E : Value → Shared → Prop) (R : Option (Value × Nat) → Shared → Prop), SetIs s.heap a es ep t → R none s → wpAny (model prog w) A (setNext a (sl es.size) es.size ep) R E s) :
    Walks prog w A I [I, a] [I] es.size (fun i v => order[i]? = some v) (fun i h => SetIs h a es ep t ∧ SiAt h I (.int (sl i) 0) i a es.size ep) where
  sub := fun b hb => by simp at hb; simp [hb]
  frame := fun _ _ _ st hk => ⟨st.1.at fun o e => hk a (by simp) o e, st.2.at fun o e => hk I (by simp) o e⟩
  item := fun i s Q E hi st hQ => by
    obtain ⟨v, hv⟩ : ∃ v, order[i]? = some v := ⟨order[i]'(by omega), by simp [hl, hi]⟩
    refine next_int st.1 hf st.2 (hN i v hv) fun h' h1 h2 => ?_
    exact hQ v h' s.toks hv ⟨st.1.at fun o e => h2.extBut a o hne e, h1⟩ fun b o hb e => h2.extBut b o (fun z => hb (by simp [z])) e
  done := fun s Q E st hQ => end_int hh st.1 hf st.2 hE fun h' he => hQ h' s.toks fun b o hb e => he b o (fun z => hb (by simp [z])) e
  self := fun _ _ _ _ st hQ => self_si st.2 hQ
theorem walks_drawn (hh : A.handled = none) {a I T : Addr} (hne : a ≠ I) (hnT : T ≠ I) {es : Array (Int × Value)} {ep : Nat} {t : SetTable} (hf : t.fits es.size = true) (r : List Nat) (hr : List.Perm r (List.range es.size)) {oT : Obj} (hTd : oT.data = .seq ((r.map fun (i : Nat) => rawInt i).toArray)) :
    Walks prog w A I [I, a, T] [I] es.size (fun i v => (r.map fun p => ((es[p]?).getD default).2)[i]? = some v) (fun i h => SetIs h a es ep t ∧ SiAt h I (.ref T) i a es.size ep ∧ h.get? T = some oT) where
  sub := fun b hb => by simp at hb; simp [hb]
  frame := fun _ _ _ st hk => ⟨st.1.at fun o e => hk a (by simp) o e, st.2.1.at fun o e => hk I (by simp) o e, hk T (by simp) _ st.2.2⟩
  item := fun i s Q E hi st hQ => by
    have hl : r.length = es.size := by rw [hr.length_eq, List.length_range]
    have hi' : i < r.length := by omega
    have hp : r[i] < es.size := List.mem_range.mp (hr.mem_iff.mp (List.getElem_mem hi'))
    have e1 : r[i]? = some r[i] := List.getElem?_eq_getElem hi'
    have e2 : es[r[i]]? = some (es[r[i]].1, es[r[i]].2) := by simp [hp]
    have hv : (r.map fun p => ((es[p]?).getD default).2)[i]? = some es[r[i]].2 := by
      rw [List.getElem?_map, e1]
      show some ((es[r[i]]?).getD default).2 = _
      rw [e2]
      rfl
    refine next_drawn (p := r[i]) (tk := 0) st.1 hf st.2.1 st.2.2 hTd (by simp [rawInt, e1]) e2 fun h' h1 h2 => ?_
    exact hQ _ h' s.toks hv ⟨st.1.at fun o e => h2.extBut a o hne e, h1, h2.extBut T _ hnT st.2.2⟩ fun b o hb e => h2.extBut b o (fun z => hb (by simp [z])) e
  done := fun s Q E st hQ => by
    have hl : r.length = es.size := by rw [hr.length_eq, List.length_range]
    exact end_drawn hh st.1 hf st.2.1 st.2.2 hTd (by simp [hl]) fun h' he => hQ h' s.toks fun b o hb e => he b o (fun z => hb (by simp [z])) e
  self := fun _ _ _ _ st hQ => self_si st.2.1 hQ
def slAt (t : SetTable) (i : Nat) : Nat := if i = 0 then 0 else t.place.getD (i - 1) 0 + 1
theorem below_sl {t : SetTable} (hr : Rise t.place) {i : Nat} (hi : i ≤ t.place.size) : SetTable.below t.place (slAt t i) = i := by
  unfold slAt
  cases i with
  | zero => exact below_at hr (fun k hk => absurd hk (Nat.not_lt_zero _)) (fun _ => by simp) (Nat.zero_le _)
  | succ i =>
    rw [if_neg (by omega)]
    show SetTable.below t.place (t.place.getD i 0 + 1) = i + 1
    refine below_at hr (fun k hk => ?_) (fun h => hr i (i + 1) (Nat.lt_succ_self _) h) hi
    rcases Nat.lt_or_ge k i with q | q
    · have := hr k i q (by omega)
      omega
    · have e : k = i := by omega
      rw [e]; omega
/-- iter(set): it walks the members in some order -/
theorem iter_walks (hh : A.handled = none) {a : Addr} {es : Array (Int × Value)} {ep : Nat} {t : SetTable} {Q : Value → Shared → Prop} (S : SI prog w s a es ep t) (hsz : es.size ≤ sizeLine)
    (h : ∀ (I : Addr) (fp : List Addr) (order : List Value) (St : Nat → Heap → Prop) (h' : Heap) (d : Drawn), List.Perm order (es.toList.map (·.2)) → (∀ b ∈ fp, b < h'.objs.size) → s.heap.objs.size ≤ I → I ∈ fp → (∀ b ∈ fp, b = a ∨ s.heap.objs.size ≤ b) → Walks prog w A I fp [I] es.size (fun i v => order[i]? = some v) St → St 0 h' →
      (∀ b o, s.heap.get? b = some o → h'.get? b = some o) → Q (.ref I) { s with heap := h', drawn := d }) : wpAny (model prog w) A (pyIter (.ref a)) Q E s := by
  have hlt : @LT.lt Nat _ a s.heap.objs.size := S.hs.lt
  have hpl : t.place.size = es.size := by
    have := S.fit
    simp only [SetTable.fits, Bool.and_eq_true, beq_iff_eq] at this
    exact this.1
  refine iter_set S hsz (fun hm => ?_) (fun r d hr => ?_)
  · have hI : a ≠ s.heap.objs.size := Nat.ne_of_lt hlt
    have fpl : ∀ b ∈ [s.heap.objs.size, a], b < (s.heap.push { cls := .type "set_iterator", data := .fields #[.int 0 0, .int 0 0, .ref a, .int es.size 0, .int ep 0] }).objs.size := fun b hb => by
      rw [size_push']
      simp at hb
      rcases hb with e | e
      · rw [e]; exact Nat.lt_succ_self _
      · rw [e]; exact Nat.lt_succ_of_lt hlt
    have st0 : SetIs (s.heap.push { cls := .type "set_iterator", data := .fields #[.int 0 0, .int 0 0, .ref a, .int es.size 0, .int ep 0] }) a es ep t := S.hs.at fun o e => Heap.get?_push_of_some _ e
    have si0 : SiAt (s.heap.push { cls := .type "set_iterator", data := .fields #[.int 0 0, .int 0 0, .ref a, .int es.size 0, .int ep 0] }) s.heap.objs.size (.int (0 : Nat) 0) 0 a es.size ep := ⟨_, Heap.get?_push_size _ rfl, rfl, rfl⟩
    by_cases hb : w.params.followText "set-order" = true
    · have hp := pick_perm (w.params.setOrder a ep) es
      have hpl' : (pickOrder (w.params.setOrder a ep) es).size = es.size := by rw [← Array.length_toList, hp.length_eq, Array.length_toList]
      refine h s.heap.objs.size _ ((pickOrder (w.params.setOrder a ep) es).toList.map (·.2)) _ _ s.drawn (hp.map _) fpl (Nat.le_refl _) (by simp) (fun b hb => by simp at hb; rcases hb with e | e <;> subst e <;> simp)
        (walks_int hh hI S.fit _ (by rw [List.length_map, Array.length_toList]; exact hpl') (fun _ => 0) (fun i v hv s' A' E' R hs' hR => ?_) (fun s' A' E' R hs' hR => ?_)) ⟨st0, si0⟩ (fun b o e => Heap.get?_push_of_some _ e)
      · refine setNext_text hb hs' S.fit ?_
        rw [List.getElem?_map, Array.getElem?_toList] at hv
        cases q : (pickOrder (w.params.setOrder a ep) es)[i]? with
        | none => rw [q] at hv; cases hv
        | some x => rw [q] at hv; cases hv; exact hR
      · refine setNext_text hb hs' S.fit ?_
        rw [Array.getElem?_eq_none (by omega)]
        exact hR
    · have hb' : w.params.followText "set-order" = false := by simpa using hb
      have hp : (!t.plain && decide (es.size > 1)) = false := hm.resolve_left hb
      have hled : t.led = true := S.led.resolve_left hb
      have hr : Rise t.place := by
        cases q : t.plain with
        | true => exact S.inv.up q
        | false =>
          rw [q] at hp
          intro i k hik hk
          have : ¬ es.size > 1 := by simpa using hp
          omega
      refine h s.heap.objs.size _ (es.toList.map (·.2)) _ _ s.drawn (List.Perm.refl _) fpl (Nat.le_refl _) (by simp) (fun b hb => by simp at hb; rcases hb with e | e <;> subst e <;> simp)
        (walks_int hh hI S.fit _ (by rw [List.length_map, Array.length_toList]) (slAt t) (fun i v hv s' A' E' R hs' hR => ?_) (fun s' A' E' R hs' hR => ?_)) ⟨st0, si0⟩ (fun b o e => Heap.get?_push_of_some _ e)
      · refine setNext_plain hb' hp hled hs' S.fit ?_
        rw [List.getElem?_map, Array.getElem?_toList] at hv
        cases q : es[i]? with
        | none => rw [q] at hv; cases hv
        | some x =>
          rw [q] at hv; cases hv
          have hi : i < es.size := by
            rcases Nat.lt_or_ge i es.size with z | z
            · exact z
            · rw [Array.getElem?_eq_none z] at q; cases q
          have e2 : t.place[i]? = some (t.place.getD i 0) := by simp [Array.getD, hpl, hi]
          rw [below_sl hr (by omega), q, e2]
          exact hR
      · refine setNext_plain hb' hp hled hs' S.fit ?_
        rw [below_sl hr (by omega), Array.getElem?_eq_none (Nat.le_refl _)]
        exact hR
  · have hl : r.length = es.size := by rw [hr.length_eq, List.length_range]
    have k1 : ∀ b o, s.heap.get? b = some o → ((s.heap.push { cls := .type "tuple", data := .seq ((r.map fun (i : Nat) => rawInt i).toArray) }).push { cls := .type "set_iterator", data := .fields #[.ref s.heap.objs.size, .int 0 0, .ref a, .int es.size 0, .int ep 0] }).get? b = some o := fun b o e =>
      Heap.get?_push_of_some _ (Heap.get?_push_of_some _ e)
    have hs2 : (s.heap.push { cls := .type "tuple", data := .seq ((r.map fun (i : Nat) => rawInt i).toArray) }).objs.size = s.heap.objs.size + 1 := size_push' _ _
    have e1 : (r.map fun p => ((es[p]?).getD default).2).Perm (es.toList.map (·.2)) := by
      refine (hr.map _).trans ?_
      have : (List.range es.size).map (fun p => ((es[p]?).getD default).2) = es.toList.map (·.2) := by
        apply List.ext_getElem
        · simp
        · intro i h1 h2
          simp at h1 h2
          simp [h1]
      rw [this]
    refine h (s.heap.objs.size + 1) _ _ _ _ d e1 (fun b hb => ?_) (Nat.le_succ _) ?_ (fun b hb => ?_) (walks_drawn (T := s.heap.objs.size) (oT := { cls := .type "tuple", data := .seq ((r.map fun (i : Nat) => rawInt i).toArray) }) hh (Nat.ne_of_lt (Nat.lt_succ_of_lt hlt)) (Nat.ne_of_lt (Nat.lt_succ_self _)) S.fit r hr rfl)
      ⟨S.hs.at fun o e => k1 a o e, ⟨{ cls := .type "set_iterator", data := .fields #[.ref s.heap.objs.size, .int 0 0, .ref a, .int es.size 0, .int ep 0] }, ?_, rfl, rfl⟩, ?_⟩ k1
    · rw [size_push', hs2]
      simp at hb
      rcases hb with e | e | e
      · rw [e]; exact Nat.lt_succ_self _
      · rw [e]; exact Nat.lt_succ_of_lt (Nat.lt_succ_of_lt hlt)
      · rw [e]; exact Nat.lt_succ_of_lt (Nat.lt_succ_self _)
    · simp
    · simp at hb
      rcases hb with e | e | e
      · exact .inr (by rw [e]; exact Nat.le_succ _)
      · exact .inl e
      · exact .inr (by rw [e]; exact Nat.le_refl _)
    · rw [show s.heap.objs.size.succ = _ from hs2.symm]
      exact Heap.get?_push_size _ rfl
    · exact Heap.get?_push_of_some _ (Heap.get?_push_size _ rfl)
theorem hint_set (hT : s.TypeIs (.ref r) "set") {Q : Bool → Shared → Prop} (h : Q false s) : wpAny (model prog w) A (Builtin.List.listLengthHint (.ref r)) Q E s := by
  unfold Builtin.List.listLengthHint
  refine wpAny_bind (wpAny_specialOf hT PySem.F.slot_set_len.lookup ?_)
  generalize hid : ("set.__len__" : String) = id0
  wp_delta
  rw [show splitId id0 = some ("set", "__len__") from by subst hid; decide +kernel]
  subst hid
  refine wpAny_bind (wpAny_isInstance (T := "set") (b := true) hT (by rw [isSubtype_type]; kernel_rfl) ?_)
  refine wpAny_ite_split (fun hab => absurd hab (by decide)) (fun _ => ?_)
  refine wpAny_ite_split (fun _ => ?_) (fun hab => absurd (by decide +kernel) hab)
  refine wpAny_bind (wpAny_typeOf hT ?_)
  exact wpAny_pure h
end
end SF


set_option Elab.async false
set_option linter.all false
set_option maxRecDepth 100000
set_option maxHeartbeats 4000000
namespace SF
open PySem PySem.Calls PyProof.Rows
section
variable {prog : Program} {w : World} {A : Around} {E : Value → Shared → Prop} {s : Shared}

theorem extend_set (hh : A.handled = none) {a S : Addr} {es : Array (Int × Value)} {ep : Nat} {t : SetTable} {R : Result → Shared → Prop} (hS : SI prog w s a es ep t) (hsz : es.size ≤ sizeLine) (hne : S ≠ a) (res : Value) (c0 : Nat)
    (hL : s.heap.get? S = some { cls := .type "list", data := .seq #[] c0 })
    (hR : ∀ h' d tk (acc : Array Value) (order : List Value) c', (∀ b o, b ≠ S → s.heap.get? b = some o → h'.get? b = some o) → h'.get? S = some { cls := .type "list", dict := none, data := .seq acc c', slots := #[] } →
      List.Perm order (es.toList.map (·.2)) → acc.toList = order → R (.ok (.ret res)) { s with heap := h', toks := tk, drawn := d }) :
    wpAny (model prog w) A.in1 (Builtin.List.listExtendWith (.ref S) (.ref a) res)
      (fun fin s' => match fin with | .done f => R (.ok f) s' | .again c' => c'.quiet = true ∧ codeAny (model prog w) A c' R s') (fun e s' => R (.error e) s') s := by
  unfold Builtin.List.listExtendWith
  refine wpAny_bind (wpAny_typeOf (T := "set") hS.hs.typeIs ?_)
  have h1 : Builtin.List.listSameRef (.ref S) (.ref a) = false := by simp [Builtin.List.listSameRef, hne]
  rw [if_neg (by rw [h1]; decide)]
  refine wpAny_bind (iter_walks (A := A.in1) hh hS hsz fun I fp order St h' d hp hfl hI hIm hfp W st hk => ?_)
  have hltS := Heap.lt_size hL
  have hSf : S ∉ fp := fun hm => by
    rcases hfp S hm with e | e
    · exact hne e
    · exact absurd (Nat.lt_of_lt_of_le hltS e) (Nat.lt_irrefl _)
  have hol : order.length = es.size := by rw [hp.length_eq, List.length_map, Array.length_toList]
  have key : ∀ (h2 : Heap) (c1 tk : Nat), St 0 h2 → (∀ b o, b ≠ S → s.heap.get? b = some o → h2.get? b = some o) → h2.get? S = some { cls := .type "list", data := .seq #[] c1 } →
      codeAny (model prog w) A (.builtin "list.extend.loop" ⟨[.ref S, .ref I, res], []⟩) R { s with heap := h2, toks := tk, drawn := d } := by
    intro h2 c1 tk hst hk2 hS1
    refine codeAny_extend_loopS W.toS hsz S hSf res es.size 0 _ #[] c1 rfl (Nat.zero_le _) hst hS1 (ItemsOf.nil _) fun s' acc' c' hm hS' hacc => ?_
    rw [Moved.eq_with hm]
    refine hR s'.heap d s'.toks acc' order c' (fun b o hb e => hm.heap b o (fun hmem => ?_) (hk2 b o hb e)) hS' hp ?_
    · rcases List.mem_cons.mp hmem with e' | hmem
      · exact hb e'
      · rw [List.mem_singleton.mp hmem] at e
        exact absurd (Heap.lt_size e) (Nat.not_lt.mpr hI)
    · apply List.ext_getElem?
      intro i
      rw [Array.getElem?_toList]
      cases q : acc'[i]? with
      | none =>
        have : acc'.size ≤ i := by
          rcases Nat.lt_or_ge i acc'.size with z | z
          · rw [Array.getElem?_eq_getElem z] at q; cases q
          · exact z
        rw [hacc.1] at this
        rw [List.getElem?_eq_none (by omega)]
      | some v => exact (hacc.2 i v q).symm
  refine wpAny_bind (wpAny_holding (hint_set (s := { s with heap := h', drawn := d }) (SetIs.typeIs (s := { s with heap := h', drawn := d }) (hS.hs.at fun o e => hk a o e)) ?_))
  have hS1 := hk _ _ hL
  refine wpAny_ite_split (fun _ => ?_) (fun _ => wpAny_pure ⟨plainId_quiet PySem.F.plain_extend_loop _, key _ c0 _ st (fun b o _ e => hk b o e) hS1⟩)
  refine wpAny_bind (wpAny_rule ?_)
  refine wpAny_bind ?_
  show wpAny _ _ (updateSeq S (·.push .none) >>= fun _ => updateSeq S (·.pop)) _ _ _
  refine wpAny_bind (wpAny_updateSeq hS1 rfl ?_)
  have hS2 := Heap.get?_update_self (Obj.mapSeq (·.push Value.none)) hS1 rfl
  refine wpAny_updateSeq (hz := by seq_fits) hS2 rfl ?_
  have hS3 := Heap.get?_update_self (Obj.mapSeq (·.pop)) hS2 rfl
  refine wpAny_pure ⟨plainId_quiet PySem.F.plain_extend_loop _, key _ _ _ ?_ (fun b o hb e => ?_) hS3⟩
  · refine W.frame 0 _ _ st fun b hb o e => ?_
    have hbS : b ≠ S := fun h => hSf (h ▸ hb)
    exact (Heap.get?_update_other _ _ (Ne.symm hbS)).trans ((Heap.get?_update_other _ _ (Ne.symm hbS)).trans e)
  · exact (Heap.get?_update_other _ _ (Ne.symm hb)).trans ((Heap.get?_update_other _ _ (Ne.symm hb)).trans (hk b o e))

theorem collect_set (hh : A.handled = none) {a : Addr} {es : Array (Int × Value)} {ep : Nat} {t : SetTable} {R : List Value → Shared → Prop} (hS : SI prog w s a es ep t) (hsz : es.size ≤ sizeLine)
    (h : ∀ h' d tk (order : List Value), s.heap.objs.size < h'.objs.size → (∀ b o, s.heap.get? b = some o → h'.get? b = some o) → List.Perm order (es.toList.map (·.2)) → R order { s with heap := h', toks := tk, drawn := d }) :
    wpAny (model prog w) A (collect (.ref a)) R E s := by
  have hlt : @LT.lt Nat _ a s.heap.objs.size := hS.hs.lt
  unfold collect
  refine wpAny_bind (wpAny_runValue (codeAny_builtin entry_proto_collect' ?_))
  rw [Around.under_plainId PySem.F.plain_proto_collect _]
  show wpAny _ A.in1 (newList [] >>= fun l => again (.builtin "list.__iadd__" ⟨[l, .ref a], []⟩)) _ _ s
  refine wpAny_bind (wpAny_newObj_type ?_)
  refine wpAny_pure ⟨plainId_quiet PySem.F.plain_list_iadd _, codeAny_builtin entry_list_iadd' ?_⟩
  rw [Around.under_plainId PySem.F.plain_list_iadd _]
  have hS1 : (s.heap.push { cls := .type "list", data := .seq ([] : List Value).toArray }).get? s.heap.objs.size = some { cls := .type "list", data := .seq #[] } := Heap.get?_push_size _ rfl
  show wpAny _ A.in1 (Builtin.List.listExtendWith (.ref s.heap.objs.size) (.ref a) (.ref s.heap.objs.size)) _ _ _
  have S' : SI prog w { s with heap := s.heap.push { cls := .type "list", data := .seq ([] : List Value).toArray } } a es ep t := ⟨hS.hs.at fun o e => Heap.get?_push_of_some _ e, hS.fit, hS.inv, hS.led⟩
  have key := extend_set (A := A) (R := fun (q : Result) (s' : Shared) => ∃ (h' : Heap) (d : Drawn) (tk : Nat) (acc : Array Value) (order : List Value) (c' : Nat), q = .ok (.ret (.ref s.heap.objs.size)) ∧ s' = { s with heap := h', toks := tk, drawn := d } ∧
      (∀ b o, s.heap.get? b = some o → h'.get? b = some o) ∧ h'.get? s.heap.objs.size = some { cls := .type "list", dict := none, data := .seq acc c', slots := #[] } ∧ List.Perm order (es.toList.map (·.2)) ∧ acc.toList = order)
    hh S' hsz (Nat.ne_of_gt hlt) (.ref s.heap.objs.size) 0 hS1
    (fun h' d tk acc order c' hk hL hp ha => ⟨h', d, tk, acc, order, c', rfl, rfl, fun b o e => hk b o (Nat.ne_of_lt (Heap.lt_size e)) (Heap.get?_push_of_some _ e), hL, hp, ha⟩)
  refine wpAny_mono key (fun fin s' x => ?_) fun e s' x => ?_
  · cases fin with
    | done f =>
      obtain ⟨h', d, tk, acc, order, c', e, rfl, hk, hL, hp, ha⟩ := x
      cases e
      show wpAny _ A (load s.heap.objs.size >>= _) _ _ _
      refine wpAny_bind (wpAny_load hL ?_)
      refine wpAny_pure ?_
      rw [ha]
      exact h h' d tk order (Heap.lt_size hL) hk hp
    | again c1 =>
      refine ⟨x.1, codeAny_mono x.2 fun q s2 y => ?_⟩
      obtain ⟨h', d, tk, acc, order, c', rfl, rfl, hk, hL, hp, ha⟩ := y
      show wpAny _ A (load s.heap.objs.size >>= _) _ _ _
      refine wpAny_bind (wpAny_load hL ?_)
      refine wpAny_pure ?_
      rw [ha]
      exact h h' d tk order (Heap.lt_size hL) hk hp
  · obtain ⟨_, _, _, _, _, _, e', _⟩ := x
    cases e'
theorem ints_perm : ∀ {us vs : List Value}, List.Perm us vs → ∀ {ns : List Int}, IntsAre vs ns → ∃ ms, IntsAre us ms ∧ List.Perm ms ns := by
  intro us vs hp
  induction hp with
  | nil => intro ns h; cases h; exact ⟨[], .nil, .nil⟩
  | cons x _ ih =>
    intro ns h
    cases h with
    | cons n t r =>
      obtain ⟨ms, h1, h2⟩ := ih r
      exact ⟨n :: ms, .cons n t h1, h2.cons _⟩
  | swap x y l =>
    intro ns h
    cases h with
    | cons n t r =>
      cases r with
      | cons n' t' r' => exact ⟨_, .cons _ _ (.cons _ _ r'), List.Perm.swap _ _ _⟩
  | trans _ _ ih1 ih2 =>
    intro ns h
    obtain ⟨ms, h1, h2⟩ := ih2 h
    obtain ⟨ms', h3, h4⟩ := ih1 h1
    exact ⟨ms', h3, h4.trans h2⟩
theorem sorted_set (hh : A.handled = none) {a : Addr} {es : Array (Int × Value)} {ep : Nat} {t : SetTable} {ns : List Int} {Q : Value → Shared → Prop} (hS : SI prog w s a es ep t) (hI : IntsAre (es.toList.map (·.2)) ns) (h64 : ns.length < 64)
    (h : ∀ (D : Addr) (h' : Heap) (d : Drawn) (tk : Nat) (out : Array Value) (ms : List Int) (c : Nat), s.heap.objs.size ≤ D → (∀ b o, s.heap.get? b = some o → h'.get? b = some o) → h'.get? D = some { cls := .type "list", data := .seq out c } → IntsAre out.toList ms → ms.Perm ns → ms.Pairwise (· ≤ ·) →
      Q (.ref D) { s with heap := h', toks := tk, drawn := d }) :
    wpAny (model prog w) A (call (.builtin "sorted") [.ref a]) Q E s := by
  have hl : es.size = ns.length := by rw [← IntsAre.length hI, List.length_map, Array.length_toList]
  have hsz : es.size ≤ sizeLine := by rw [hl, sizeLine_eq]; omega
  refine call_function_entry kind_sorted plain_sorted entry_sorted (args_sorted1 _) ?_
  unfold Builtin.«sorted»
  refine wpAny_bind (m := checkCount "sorted" 1 1 _) (wpAny_pure ?_)
  refine wpAny_bind (collect_set (A := A.in1) hh hS hsz fun h' d tk order hlt hk hp => ?_)
  obtain ⟨ms, hms, hmp⟩ := ints_perm hp hI
  have hol : order.length = ns.length := by rw [IntsAre.length hms, hmp.length_eq]
  refine wpAny_bind (wpAny_newList ?_ (by rw [hol, ← hl]; exact hsz))
  have hD : (h'.push (seqObj "list" order.toArray 0)).get? h'.objs.size = some (seqObj "list" order.toArray 0) := Heap.get?_push_size _ rfl
  refine wpAny_bind (wpAny_holding (wpAny_call_entry slot_list_sort ⟨_, hD, rfl⟩ entry_list_sort (list_sort_tree hD hms (by omega) fun out ms' a1 a2 a3 => ⟨_, rfl, ?_⟩) (args_list_sort _)))
  obtain ⟨c, hc⟩ := sortedHeap_at (out := out) hD
  refine wpAny_pure ⟨_, rfl, h h'.objs.size _ d tk out ms' c (Nat.le_of_lt hlt) (fun b o e => ?_) hc a1 (a2.trans hmp) a3⟩
  have hb := Heap.lt_size (hk b o e)
  rw [sortedHeap_old (Nat.ne_of_lt hb) (by rw [size_push']; exact Nat.lt_succ_of_lt hb)]
  exact Heap.get?_push_of_some _ (hk b o e)
end
end SF


set_option Elab.async false
set_option linter.all false
set_option maxRecDepth 100000
set_option maxHeartbeats 4000000
namespace SF
open PySem PySem.Calls PyProof.Rows

/-- a set of ints, with what its walk asks -/
def SetL (prog : Program) (w : World) (h : Heap) (a : Addr) (us : List Int) : Prop :=
  ∃ es ep t, SetIs h a es ep t ∧ t.fits es.size = true ∧ TInv t ∧ (w.params.followText "set-order" = true ∨ t.led = true) ∧ ElemsOf (intKind prog w) es.toList ∧ IntsAre (es.toList.map (·.2)) us ∧ us.Nodup
theorem SetL.at {prog : Program} {w : World} {h h' : Heap} {a : Addr} {us : List Int} (x : SetL prog w h a us) (e : ∀ o, h.get? a = some o → h'.get? a = some o) : SetL prog w h' a us := by
  obtain ⟨es, ep, t, hs, r⟩ := x
  exact ⟨es, ep, t, hs.at e, r⟩
theorem ints_mem : ∀ {vs : List Value} {us : List Int} {k : Int}, IntsAre vs us → (k ∈ us ↔ ∃ v ∈ vs, Value.isInt k v = true)
  | _, _, k, .nil => by simp
  | _, _, k, .cons n t r => by
    have ih := ints_mem (k := k) r
    rw [List.mem_cons, ih]
    constructor
    · rintro (e | ⟨v, hv, e⟩)
      · subst e
        exact ⟨_, List.mem_cons_self, by simp [Value.isInt]⟩
      · exact ⟨v, List.mem_cons_of_mem _ hv, e⟩
    · rintro ⟨v, hv, e⟩
      rcases List.mem_cons.mp hv with z | z
      · subst z
        exact .inl (by have q : n = k := by simpa [Value.isInt] using e
                       exact q.symm)
      · exact .inr ⟨v, z, e⟩
theorem ints_snoc : ∀ {vs : List Value} {us : List Int} (k : Int) (t : Tok), IntsAre vs us → IntsAre (vs ++ [.int k t]) (us ++ [k])
  | _, _, k, t, .nil => .cons k t .nil
  | _, _, k, t, .cons n t' r => .cons n t' (ints_snoc k t r)
section
variable {prog : Program} {w : World} {A : Around} {E : Value → Shared → Prop} {s : Shared}

theorem store_L {h : Heap} {a : Addr} {es es' : Array (Int × Value)} {ep : Nat} {t t' : SetTable} {us : List Int} (hs : SetIs h a es ep t) (hf : t'.fits es'.size = true) (hi : TInv t') (hl : w.params.followText "set-order" = true ∨ t'.led = true)
    (hel : ElemsOf (intKind prog w) es'.toList) (hI : IntsAre (es'.toList.map (·.2)) us) (hn : us.Nodup) : SetIs (h.update a (Obj.putSet es' t')) a es' (ep + 1) t' ∧ SetL prog w (h.update a (Obj.putSet es' t')) a us := by
  obtain ⟨o, ho, hex, hd⟩ := hs
  have hg : (h.update a (Obj.putSet es' t')).get? a = some { o with data := .set es' (ep + 1) t' } := by
    have z := Heap.get?_update_self (Obj.putSet es' t') ho (by rw [putSet_of es' t' hd]; rfl)
    rw [putSet_of es' t' hd] at z
    exact z
  have q : SetIs (h.update a (Obj.putSet es' t')) a es' (ep + 1) t' := ⟨_, hg, hex, rfl⟩
  exact ⟨q, es', ep + 1, t', q, hf, hi, hl, hel, hI, hn⟩
theorem perm_push {es es' : Array (Int × Value)} {c : Int} {x : Value} (hp : List.Perm es'.toList (es.push (c, x)).toList) : List.Perm (es'.toList.map (·.2)) (es.toList.map (·.2) ++ [x]) := by
  refine (hp.map _).trans ?_
  rw [Array.toList_push, List.map_append]
  exact List.Perm.refl _
theorem off_inv {t : SetTable} (h : TInv t) : TInv { t with plain := false } := ⟨h.nod, fun z => by cases z⟩
theorem add_int {a : Addr} {us : List Int} {k : Int} {tk : Tok} {Q : Bool → Shared → Prop} (hS : SetL prog w s.heap a us) (hroom : us.length + 1 < scanBound)
    (h : ∀ (b : Bool) (h' : Heap) (us' : List Int), Heap.SameBut a s.heap h' → SetL prog w h' a us' → (∀ j, j ∈ us' ↔ j ∈ us ∨ j = k) → us'.length ≤ us.length + 1 → Q b { s with heap := h' }) :
    wpAny (model prog w) A (setAddHashed a (.int k tk) ((intKind prog w).hash k)) Q E s := by
  obtain ⟨es, ep, t, hs, hf, hi, hl, hel, hI, hn⟩ := id hS
  obtain ⟨o, ho, hex, hd⟩ := id hs
  have hsz : es.size = us.length := by rw [← IntsAre.length hI, List.length_map, Array.length_toList]
  have hmem : k ∈ us ↔ ∃ e ∈ es.toList, (intKind prog w).is k e.2 = true := by
    rw [ints_mem hI]
    constructor
    · rintro ⟨v, hv, e⟩
      obtain ⟨p, hp, rfl⟩ := List.mem_map.mp hv
      exact ⟨p, hp, e⟩
    · rintro ⟨p, hp, e⟩
      exact ⟨p.2, List.mem_map.mpr ⟨p, hp, rfl⟩, e⟩
  unfold setAddHashed setAddHashedIn
  refine wpAny_holding (wpAny_bind (wpAny_setState_of ho hd hf ?_))
  dsimp only
  rw [byScan_of (knd := intKind prog w) (x := .int k tk) rfl (by omega) hel]
  simp only [↓reduceIte]
  unfold setAddByScan
  refine wpAny_bind ?_
  refine wpAny_bind (wpAny_rule ?_)
  refine wpAny_bind (wpAny_setScan_of (knd := intKind prog w) (intKind_is _ _ _ _) ho hd hf hel ?_)
  cases hr : List.findIdx? (fun e => (intKind prog w).is k e.2) es.toList with
  | some j =>
    dsimp only
    obtain ⟨hj, hpj, _⟩ := List.findIdx?_eq_some_iff_getElem.mp hr
    have hk : k ∈ us := hmem.mpr ⟨es.toList[j], List.getElem_mem hj, hpj⟩
    refine wpAny_pure (wpAny_pure ?_)
    exact h false s.heap us (Heap.SameBut.refl a s.heap) hS (fun i => ⟨.inl, fun z => z.elim id fun e => e ▸ hk⟩) (Nat.le_succ _)
  | none =>
    dsimp only
    have hk : k ∉ us := fun z => by
      obtain ⟨e, he, q⟩ := hmem.mp z
      have := List.findIdx?_eq_none_iff.mp hr e he
      rw [q] at this
      cases this
    have hperm := layNew_perm t es ((intKind prog w).hash k) (.int k tk)
    have hfits := layNew_fits t es ((intKind prog w).hash k) (.int k tk)
    have hinv := layNew_inv es ((intKind prog w).hash k) (.int k tk) hi
    generalize hL : layNew t es ((intKind prog w).hash k) (.int k tk) = L at hperm hfits hinv ⊢
    obtain ⟨es1, t1, wd, gave⟩ := L
    dsimp only at hperm hfits hinv ⊢
    have hel1 : ElemsOf (intKind prog w) es1.toList := by
      have z := hperm
      rw [Array.toList_push] at z
      exact (hel.push (intKind_is _ _ _ _) rfl).perm z
    obtain ⟨us1, hI1, hp1⟩ := ints_perm (perm_push hperm) (ints_snoc k tk hI)
    have hn1 : us1.Nodup := hp1.nodup_iff.mpr (by
      rw [List.nodup_append]
      exact ⟨hn, by simp, fun x hx y hy => by rw [List.mem_singleton.mp hy]; rintro rfl; exact hk hx⟩)
    have hl1 : us1.length = us.length + 1 := by rw [hp1.length_eq, List.length_append]; rfl
    have hm1 : ∀ j, j ∈ us1 ↔ j ∈ us ∨ j = k := fun j => by rw [hp1.mem_iff, List.mem_append, List.mem_singleton]
    have hsz1 : es1.size = us1.length := by rw [← IntsAre.length hI1, List.length_map, Array.length_toList]
    have hb1 : es1.size < scanBound := by omega
    have hgw : ∀ (b : Bool) {s₁ : Shared} {Q' : Unit → Shared → Prop}, Q' () s₁ → wpAny (model prog w) A (match b with | true => rule "set.scan.the-table-gave-way" | false => pure ()) Q' E s₁ :=
      fun b s₁ Q' hq => by cases b <;> first | exact wpAny_pure hq | exact wpAny_rule hq
    refine wpAny_bind (hgw _ ?_)
    -- the store, and perhaps a table laid anew
    have tail : ∀ t2 : SetTable, t2.fits es1.size = true → TInv t2 → (w.params.followText "set-order" = true ∨ t2.led = true) → ∀ (g : Bool → Sem Unit) (wd' : Bool) (R : Option Bool → Shared → Prop),
        (∀ (b : Bool) (s₁ : Shared) (Q' : Unit → Shared → Prop), Q' () s₁ → wpAny (model prog w) A (g b) Q' E s₁) → (∀ h' us', Heap.SameBut a s.heap h' → SetL prog w h' a us' → us'.Perm us1 → R (some true) { s with heap := h' }) →
        wpAny (model prog w) A (storeSet a es1 t2 >>= fun _ => if (!wd' && t2.tooFull) = true then (g (relayAll t2 es1 (SetTable.grown es1.size)).2.2 >>= fun _ => storeSet a (relayAll t2 es1 (SetTable.grown es1.size)).1 (relayAll t2 es1 (SetTable.grown es1.size)).2.1 >>= fun _ => pure (some true)) else pure (some true)) R E s := by
      intro t2 f2 i2 l2 g wd' R hg hR
      refine wpAny_bind (wpAny_storeSet_of ho hd ?_ (fits_of_scanBound hb1))
      obtain ⟨q1, q2⟩ := store_L (prog := prog) (w := w) hs f2 i2 l2 hel1 hI1 hn1
      have sb1 := Heap.SameBut.update s.heap a (Obj.putSet es1 t2)
      split
      · have rp := relayAll_perm t2 es1 (SetTable.grown es1.size)
        have rf := relayAll_fits t2 es1 (SetTable.grown es1.size)
        have ri := relayAll_inv (t := t2) es1 (SetTable.grown es1.size)
        generalize relayAll t2 es1 (SetTable.grown es1.size) = Rl at rp rf ri ⊢
        obtain ⟨es2, t3, gave2⟩ := Rl
        dsimp only at rp rf ri ⊢
        obtain ⟨us2, hI2, hp2⟩ := ints_perm (rp.map (·.2)) hI1
        refine wpAny_bind (hg _ _ _ ?_)
        obtain ⟨o1, ho1, hex1, hd1⟩ := id q1
        have e2 : es2.size = es1.size := by rw [← Array.length_toList, rp.length_eq, Array.length_toList]
        refine wpAny_bind (wpAny_storeSet_of ho1 hd1 ?_ (fits_of_scanBound (by rw [e2]; exact hb1)))
        obtain ⟨_, q3⟩ := store_L (prog := prog) (w := w) q1 rf ri.1 (l2.imp id fun z => ri.2.trans z) (hel1.perm rp) hI2 (hp2.nodup_iff.mpr hn1)
        exact wpAny_pure (hR _ us2 (sb1.trans (Heap.SameBut.update _ a _)) q3 hp2)
      · exact wpAny_pure (hR _ us1 sb1 q2 (List.Perm.refl _))
    have fin : ∀ h' us', Heap.SameBut a s.heap h' → SetL prog w h' a us' → us'.Perm us1 → Q true { s with heap := h' } := fun h' us' x1 x2 x3 =>
      h true h' us' x1 x2 (fun j => by rw [x3.mem_iff]; exact hm1 j) (by rw [x3.length_eq, hl1]; exact Nat.le_refl _)
    have led1 : w.params.followText "set-order" = true ∨ t1.led = true := hl.imp id fun z => hinv.2.trans z
    split
    · refine wpAny_bind ?_
      rw [hashByValue_scannable 8 (x := .int k tk) rfl]
      refine wpAny_pure ?_
      refine tail _ ?_ ?_ ?_ _ wd _ ?_ fun h' us' x1 x2 x3 => ?_
      · split
        · exact hfits
        · exact SetTable.fits_plain_off hfits
      · split
        · exact hinv.1
        · exact off_inv hinv.1
      · split
        · exact led1
        · exact led1
      · intro b s₁ Q' hq; cases b <;> first | exact wpAny_pure hq | exact wpAny_rule hq
      · exact wpAny_pure (fin h' us' x1 x2 x3)
    · refine wpAny_bind (wpAny_pure ?_)
      simp only [↓reduceIte]
      refine tail _ hfits hinv.1 led1 _ wd _ ?_ fun h' us' x1 x2 x3 => ?_
      · intro b s₁ Q' hq; cases b <;> first | exact wpAny_pure hq | exact wpAny_rule hq
      · exact wpAny_pure (fin h' us' x1 x2 x3)
/-- set.update over a walk of ints -/
theorem update_loop {R : Result → Shared → Prop} {I : Addr} {fp wr : List Addr} {G : Array GenState → Array GenState → Prop} {n : Nat} {P : Nat → Value → Prop} {St : Nat → Shared → Prop} (W : WalksS prog w A.in1 I fp wr G n P St) (S : Addr) (hSf : S ∉ fp)
    (val : Nat → Int) (hval : ∀ i v, P i v → ∃ t, v = .int (val i) t) (hb : n + 1 < scanBound) :
    ∀ (k i : Nat) (s : Shared) (us : List Int), n - i = k → i ≤ n → St i s → SetL prog w s.heap S us → us.length ≤ i → (∀ j, j ∈ us ↔ ∃ m, m < i ∧ val m = j) →
      (∀ s' us', Moved (S :: wr) G s s' → SetL prog w s'.heap S us' → us'.length ≤ n → (∀ j, j ∈ us' ↔ ∃ m, m < n ∧ val m = j) → R (.ok (.ret .none)) s') →
      codeAny (model prog w) A (.builtin "set.update.loop" ⟨[.ref S, .ref I], []⟩) R s := by
  have hSw : S ∉ wr := fun h => hSf (W.sub _ h)
  have hsub : ∀ b ∈ wr, b ∈ S :: wr := fun b hb => List.mem_cons_of_mem _ hb
  intro k
  induction k with
  | zero =>
    intro i s us hk hi hst hS hlen hmem hR
    have hin : i = n := by omega
    subst hin
    refine codeAny_builtin PyProof.Rows.F.entry_set_update_loop ?_
    rw [Around.under_plainId PyProof.Rows.F.plain_set_update_loop _]
    show wpAny _ A.in1 (pyNext (.ref I) >>= _) _ _ s
    refine wpAny_bind (W.done s _ _ hst fun s' hm => ?_)
    show wpAny _ A.in1 (ret Value.none) _ _ s'
    exact wpAny_pure (hR s' us (hm.mono hsub) (hS.at fun o e => hm.heap S o hSw e) hlen hmem)
  | succ k ih =>
    intro i s us hk hi hst hS hlen hmem hR
    have hlt : i < n := by omega
    refine codeAny_builtin PyProof.Rows.F.entry_set_update_loop ?_
    rw [Around.under_plainId PyProof.Rows.F.plain_set_update_loop _]
    show wpAny _ A.in1 (pyNext (.ref I) >>= _) _ _ s
    refine wpAny_bind (W.item i s _ _ hlt hst fun v s' hP hst' hm => ?_)
    obtain ⟨t, rfl⟩ := hval i v hP
    have hS' : SetL prog w s'.heap S us := hS.at fun o e => hm.heap S o hSw e
    show wpAny _ A.in1 (holding [Value.int (val i) t] (setAdd S (.int (val i) t)) >>= _) _ _ s'
    refine wpAny_bind (wpAny_holding ?_)
    unfold setAdd
    refine wpAny_holding ?_
    refine wpAny_bind ((intKind prog w).pyHash (k := val i) (intKind_is _ _ _ _) ?_)
    refine add_int (s := { s' with toks := s'.toks + 1 }) hS' (by omega) fun b h' us' hsb hS2 hm2 hl2 => ?_
    refine wpAny_pure ⟨plainId_quiet PyProof.Rows.F.plain_set_update_loop _, ih (i + 1) _ us' (by omega) hlt (W.frame _ s' _ _ hst' (Nat.le_succ _) fun b hb o e => ?_) hS2 (by omega) (fun j => ?_) fun s'' us'' hm'' hS'' hl'' hmem'' => ?_⟩
    · rw [hsb.2 b (fun h : b = S => hSf (by rw [← h]; exact hb))]; exact e
    · rw [hm2, hmem]
      constructor
      · rintro (⟨m, h1, h2⟩ | e)
        · exact ⟨m, by omega, h2⟩
        · exact ⟨i, by omega, e.symm⟩
      · rintro ⟨m, h1, h2⟩
        rcases Nat.lt_or_ge m i with q | q
        · exact .inl ⟨m, q, h2⟩
        · have e : m = i := by omega
          subst e
          exact .inr h2.symm
    · refine hR s'' us'' (Moved.trans W.gtrans ((hm.mono hsub).then_heap (Nat.le_succ _) fun b o hb e => ?_) hm'') hS'' hl'' hmem''
      rw [hsb.2 b (fun h : b = S => hb (by rw [h]; exact List.mem_cons_self))]; exact e
theorem new_set (a : Value) {Q₁ : Value → Shared → Prop}
    (h : Q₁ (.ref s.heap.objs.size) { s with heap := s.heap.push { cls := .type "set", dict := none, data := .set #[] 0 (.fresh 0 0 (!w.params.followText "set-order")) } }) :
    codeAny (model prog w) A (.call (.builtin "set.__new__") ⟨[.type "set", a], []⟩) (wants Q₁ E) s := by
  refine codeAny_of_tree ?_
  show wpAny _ A.in1 (do checkBuiltinCall "set.__new__" ⟨[.type "set", a], []⟩; again (.builtin "set.__new__" ⟨[.type "set", a], []⟩)) _ _ s
  refine wpAny_bind (wpAny_of_eq (PySem.F.newCall_set_1 a) (wpAny_pure ⟨plainId_quiet PySem.F.plain_set_new _, codeAny_builtin PySem.F.entry_set_new ?_⟩))
  rw [Around.under_plainId PySem.F.plain_set_new _]
  unfold Builtin.«set.__new__» Builtin.Frozenset.newClass
  have hsub := sub_set_self
  obtain ⟨hp, g, d, tk, os⟩ := s
  dsimp only
  wp_walk
  refine wpAny_askSetting (wpAny_pure ?_)
  dsimp only
  simp only [newObj]
  refine wpAny_bind (wpAny_alloc (wpAny_pure ?_))
  exact wpAny_pure h
set_option maxHeartbeats 8000000 in
theorem call_set {l : Addr} {items : Array Value} {ns : List Int} {Q : Value → Shared → Prop} (hh : A.handled = none) (hl : s.heap.IsList l items) (hi : IntsAre items.toList ns) (hb : items.size + 1 < scanBound)
    (h : ∀ (h' : Heap) (tk : Nat) (us : List Int), SetL prog w h' s.heap.objs.size us → us.length ≤ ns.length → (∀ j, j ∈ us ↔ j ∈ ns) → (∀ b o, b < s.heap.objs.size → s.heap.get? b = some o → h'.get? b = some o) → Q (.ref s.heap.objs.size) { s with heap := h', toks := tk }) :
    wpAny (model prog w) A (call (.type "set") [.ref l]) Q E s := by
  obtain ⟨c, tl, hmro⟩ := PySem.F.called_set.mro
  have hmade := PySem.F.called_set.made
  have hsub := PySem.F.called_set.sub
  refine wpAny_call (codeAny_of_tree ?_)
  show wpAny _ _ (callAny (.type "set") _) _ _ _
  refine wpAny_pure ⟨Code.quiet_builtin _ (by decide +kernel), codeAny_builtin PySem.F.entry_type_call ?_⟩
  rw [Around.under_plain (weight_type_call_type "set" [.ref l] []) rfl]
  have h1 := PySem.F.called_set.notType
  have h2 := PySem.F.called_set.canCreate
  have hct := PySem.F.typeCall_set_1 (.ref l)
  generalize hled : (!w.params.followText "set-order") = led
  repeat (any_goals (first | assumption | wp_step))
  refine codeAny_mono (new_set (prog := prog) (w := w) (.ref l) (E := E) (Q₁ := fun obj s₁ => obj = .ref s.heap.objs.size ∧ s₁ = { s with heap := s.heap.push { cls := .type "set", dict := none, data := .set #[] 0 (.fresh 0 0 led) } }) (by rw [hled]; exact ⟨rfl, rfl⟩)) fun r s₁ hr => ?_
  have hld : w.params.followText "set-order" = true ∨ led = true := by
    cases q : w.params.followText "set-order" with
    | true => exact .inl rfl
    | false => rw [q] at hled; exact .inr hled.symm
  cases r with
  | error e => exact hr
  | ok fl =>
    cases fl with
    | next => exact hr.elim
    | brk => exact hr.elim
    | cont => exact hr.elim
    | ret obj =>
      obtain ⟨rfl, rfl⟩ := hr
      have hS : (s.heap.push { cls := .type "set", dict := none, data := .set #[] 0 (.fresh 0 0 led) }).get? s.heap.objs.size = some { cls := .type "set", dict := none, data := .set #[] 0 (.fresh 0 0 led) } := Heap.get?_push_size _ rfl
      have hT : Shared.TypeIs { s with heap := s.heap.push { cls := .type "set", dict := none, data := .set #[] 0 (.fresh 0 0 led) } } (.ref s.heap.objs.size) "set" := ⟨_, hS, rfl⟩
      have hli := PySem.F.called_set.init.lookup
      have hbi := PySem.F.called_set.init.bind (.ref s.heap.objs.size)
      repeat (any_goals (first | assumption | wp_step))
      refine codeAny_mono (codeAny_call_builtin (R := wants (fun r s₂ => r = .none ∧ ∃ h' tk us, s₂ = { s with heap := h', toks := tk } ∧ SetL prog w h' s.heap.objs.size us ∧ us.length ≤ ns.length ∧ (∀ j, j ∈ us ↔ j ∈ ns) ∧
          (∀ b o, b < s.heap.objs.size → s.heap.get? b = some o → h'.get? b = some o)) E) PySem.F.called_set.init.plain PySem.F.entry_set_init (check_set_init_1 hT ?_)) fun r₂ s₂ hr₂ => ?_
      · obtain ⟨ol, hol, hcl, nl, hdl⟩ := hl
        obtain ⟨ocls, odict, odata, oslots⟩ := ol
        simp only at hcl hdl
        subst hcl; subst hdl
        have hol' : (s.heap.push { cls := .type "set", dict := none, data := .set #[] 0 (.fresh 0 0 led) }).get? l = some { cls := .type "list", dict := odict, data := .seq items nl, slots := oslots } := Heap.get?_push_of_some _ hol
        have hsls := PySem.F.sub_list_set
        have hslf := PySem.F.sub_list_frozenset
        have hne : (Value.type "list" == Value.type "dict") = false := by decide
        have hl1 : (s.heap.push { cls := .type "set", dict := none, data := .set #[] 0 (.fresh 0 0 led) }).IsList l items := ⟨_, hol', rfl, nl, rfl⟩
        unfold Builtin.«set.__init__» noKeywords Builtin.Frozenset.updateFrom
        generalize hPI : pyIter = PI
        wp_walk
        subst hPI
        refine wpAny_pyIter_list hl1 ?_
        refine wpAny_bind (wpAny_runValue ?_)
        have hlS : l < s.heap.objs.size := Heap.lt_size hol
        have hh3 : A.in1.in1.in1.handled = none := by simp [hh]
        have hneI : l ≠ (s.heap.push { cls := .type "set", dict := none, data := .set #[] 0 (.fresh 0 0 led) }).objs.size := by
          rw [Heap.size_push]; exact Nat.ne_of_lt (Nat.lt_succ_of_lt hlS)
        have hSf : s.heap.objs.size ∉ [(s.heap.push { cls := .type "set", dict := none, data := .set #[] 0 (.fresh 0 0 led) }).objs.size, l] := by
          rw [Heap.size_push]; simp only [List.mem_cons, List.mem_singleton, List.not_mem_nil, or_false, not_or]
          exact ⟨Nat.ne_of_lt (Nat.lt_succ_self _), Nat.ne_of_gt hlS⟩
        have hval : ∀ (i : Nat) (v : Value), items[i]? = some v → ∃ t, v = .int ((fun i => ns.getD i 0) i) t := fun i v hv =>
          IntsAre.int_at hi i v (by rw [Array.getElem?_toList]; exact hv)
        have hnl : ns.length = items.size := by rw [← IntsAre.length hi, Array.length_toList]
        refine update_loop ((Walks.list hh3 _ l hneI items).toS) s.heap.objs.size hSf (fun i => ns.getD i 0) hval hb (items.size - 0) 0 _ [] (by omega) (Nat.zero_le _)
          ⟨⟨_, Heap.get?_push_size _ rfl, rfl, rfl⟩, (hl1.push _)⟩ ?hS0 (Nat.zero_le _) (fun j => by simp) ?hR
        case hS0 =>
          have hget : ((s.heap.push { cls := .type "set", dict := none, data := .set #[] 0 (.fresh 0 0 led) }).push { cls := .type "list_iterator", data := .fields #[.ref l, .int 0 0] }).get? s.heap.objs.size
              = some { cls := .type "set", dict := none, data := .set #[] 0 (.fresh 0 0 led) } := Heap.get?_push_of_some _ hS
          exact ⟨#[], 0, .fresh 0 0 led, ⟨_, hget, ⟨rfl, rfl, rfl⟩, rfl⟩, by rfl, ⟨rfl, fun _ i k _ hk => by simp [SetTable.fresh] at hk⟩, hld, fun e he => by simp at he, .nil, List.nodup_nil⟩
        case hR =>
          intro s' us hm hS' hlen hmem
          obtain ⟨h', g', d', tk', os'⟩ := s'
          have eg : g' = s.gens := hm.gens
          have ed : d' = s.drawn := hm.drawn
          have eo : os' = s.os := hm.os
          subst eg; subst ed; subst eo
          show wpAny _ _ _ _ _ _
          refine wpAny_pure ?_
          show wpAny _ _ (ret Value.none) _ _ _
          refine wpAny_pure ⟨rfl, h', tk', us, rfl, hS', by omega, fun j => ?_, fun b o hb e => ?_⟩
          · rw [hmem]
            constructor
            · rintro ⟨m, h1, h2⟩
              have hm' : m < ns.length := by omega
              rw [← h2]
              show ns.getD m 0 ∈ ns
              rw [List.getD_eq_getElem?_getD, List.getElem?_eq_getElem hm']
              exact List.getElem_mem hm'
            · intro hj
              obtain ⟨m, hm', e⟩ := List.getElem_of_mem hj
              refine ⟨m, by omega, ?_⟩
              show ns.getD m 0 = j
              rw [List.getD_eq_getElem?_getD, List.getElem?_eq_getElem hm']
              exact e
          have hb1 : b ≠ s.heap.objs.size := Nat.ne_of_lt hb
          have hb2 : b ≠ (s.heap.push { cls := .type "set", dict := none, data := .set #[] 0 (.fresh 0 0 led) }).objs.size := by
            rw [Heap.size_push]; exact Nat.ne_of_lt (Nat.lt_succ_of_lt hb)
          exact hm.heap b o (by simp only [List.mem_cons, List.mem_singleton, List.not_mem_nil, or_false, not_or]; exact ⟨hb1, hb2⟩) (Heap.get?_push_of_some _ (Heap.get?_push_of_some _ e))
      · cases r₂ with
        | error e => exact hr₂
        | ok fl₂ =>
          cases fl₂ with
          | ret r =>
            obtain ⟨rfl, h', tk, us, rfl, hS', h1', h2', hk'⟩ := hr₂
            repeat (any_goals (first | assumption | wp_step))
            exact h _ _ us hS' h1' h2' hk'
          | _ => exact hr₂.elim
end
end SF


set_option Elab.async false
set_option linter.all false
set_option maxRecDepth 100000
set_option maxHeartbeats 4000000
namespace L2
open PySem PySem.Spec PyProof.Rows

/-! ### sets of ints: made of a list, sorted -/
def setO (P : Program) (w : World) (l : Addr) (us : List Int) : HO := .ext fun h => SF.SetL P w h l us
theorem SetL_there {P : Program} {w : World} {h : Heap} {l : Addr} {us : List Int} (x : SF.SetL P w h l us) : ∃ o, h.get? l = some o := by
  obtain ⟨_, _, _, ⟨o, ho, _⟩, _⟩ := x
  exact ⟨o, ho⟩
section
variable {X : Cx}
theorem call_set_of (hc : X.calm = true) : CallR X (.type "set") (fun xs H Q => ∃ (p : Addr) (ns : List Int), xs = [.ref p] ∧ SqL X.K H p (ns.map V.int) ∧ ns.length < 4000 ∧ ∀ (l : Addr) (us : List Int), H l = none → us.length ≤ ns.length → us.Nodup → (∀ j, j ∈ us ↔ j ∈ ns) → Q (.ref l) (upd H l (setO X.prog X.w l us))) := by
  intro pins s σ H xs us0 Q I r h
  obtain ⟨p, ns, rfl, hp, hz, q⟩ := h
  obtain ⟨u, rfl, ru⟩ := vals1 r
  cases ru
  obtain ⟨its, hv, pl, _⟩ := I.list hp
  have hi := intsAre_of hv
  have hl : its.length = ns.length := IntsAre.length hi
  refine SF.call_set (I.ok.hd hc) (items := its.toArray) (ns := ns) pl.isList (by simpa using hi) (by rw [List.size_toArray, hl]; unfold scanBound; omega) fun h' tk us hS h1 h2 hk => ?_
  have hn : us.Nodup := by obtain ⟨_, _, _, _, _, _, _, _, _, hn⟩ := hS; exact hn
  refine ⟨.ref s.heap.objs.size, upd H s.heap.objs.size (setO X.prog X.w s.heap.objs.size us), I.laid (fun b o e => hk b o (Heap.lt_size e) e) (Nat.le_refl _) ?_, rfl, q _ us I.fresh h1 hn h2⟩
  exact ⟨hS, SetL_there hS, fun h1 h2 x e => SF.SetL.at x e⟩
theorem call_sorted_of (hc : X.calm = true) : CallR X (.builtin "sorted") (fun xs H Q => ∃ (p : Addr) (us : List Int), xs = [.ref p] ∧ H p = some (setO X.prog X.w p us) ∧ us.length < 64 ∧ ∀ (l : Addr) (ms : List Int), H l = none → ms.Perm us → ms.Pairwise (· ≤ ·) → Q (.ref l) (upd H l (.lst (ms.map V.int)))) := by
  intro pins s σ H xs us0 Q I r h
  obtain ⟨p, us, rfl, hp, hz, q⟩ := h
  obtain ⟨u, rfl, ru⟩ := vals1 r
  cases ru
  obtain ⟨hS, _, _⟩ := (show ObjOk X.prog X.w H s.heap p (setO X.prog X.w p us) from I.hok p _ hp)
  obtain ⟨es, ep, t, a1, a2, a3, a4, a5, a6, a7⟩ := hS
  refine SF.sorted_set (I.ok.hd hc) (ns := us) ⟨a1, a2, a3, a4⟩ a6 hz fun D h' d tk out ms c hD hk hg hI hperm hpw => ?_
  have hl : ms.length < 64 := by rw [hperm.length_eq]; exact hz
  have nD : H D = none := I.hok.fresh hD
  have new : ObjOk X.prog X.w (upd H D (.lst (ms.map V.int))) h' D (.lst (ms.map V.int)) := ⟨by rw [List.length_map, sizeLine_eq]; omega, out.toList, c, vals_ints hI, by rw [hg]⟩
  refine ⟨.ref D, upd H D (.lst (ms.map V.int)), I.call (g' := s.gens) (d' := d) (t' := tk) (ch := []) (Un.laid hk hD nD) (I.hok.laid hk hD new) I.bare (fun b z => absurd z (by simp)), rfl, q D ms nD hperm hpw⟩
/-! ### isinstance against a built-in type -/
theorem call_isinst : CallR X (.builtin "isinstance") (fun xs H Q => ∃ (x : V) (n : String) (t : Value) (b : Bool), xs = [x, .ty n] ∧ TyOf X.K H x t ∧ PySem.W.kitOne X.K t (.type n) = some b ∧ Q (.bl b) H) := by
  intro pins s σ H xs us Q I r h
  obtain ⟨x, n, t, b, rfl, ht, hk, q⟩ := h
  obtain ⟨u, v, rfl, ru, rv⟩ := vals2 r
  cases rv
  exact isinst_ok I ru ht hk fun tk => ⟨.bl b, H, I.tok tk, rfl, q⟩
/-! ### lists that differ -/
def cmpV (a b : V) : Prop := (∃ p, a = .ref p ∧ b = .ref p) ∨ (∃ i j, a = .int i ∧ b = .int j) ∨ ∃ i j, a = .str i ∧ b = .str j
theorem cmpV_at {A : Around} {s : Shared} {a b : V} {u v : Value} (h : cmpV a b) (ra : RelV a u) (rb : RelV b v) : SeqAt.EqAt A s u v (decide (a = b)) := by
  rcases h with ⟨p, rfl, rfl⟩ | ⟨i, j, rfl, rfl⟩ | ⟨i, j, rfl, rfl⟩
  · cases ra
    cases rb
    rw [decide_eq_true rfl]
    exact SeqAt.EqAt.same _
  · obtain ⟨t, rfl⟩ := ra
    obtain ⟨t', rfl⟩ := rb
    rw [dec_int]
    exact SeqAt.EqAt.int_int _ _ _ _
  · obtain ⟨t, rfl⟩ := ra
    obtain ⟨t', rfl⟩ := rb
    rw [dec_str]
    exact SeqAt.EqAt.str_str _ _ _ _
theorem all_eq {xs ys : List V} (h : xs.length = ys.length) : ((List.range xs.length).all fun i => decide (xs[i]? = ys[i]?)) = decide (xs = ys) := by
  rw [Bool.eq_iff_iff, List.all_eq_true, decide_eq_true_iff]
  constructor
  · intro q
    apply List.ext_getElem?
    intro i
    rcases Nat.lt_or_ge i xs.length with z | z
    · exact of_decide_eq_true (q i (List.mem_range.mpr z))
    · rw [List.getElem?_eq_none z, List.getElem?_eq_none (by omega)]
  · rintro rfl i _
    simp
end
end L2


set_option Elab.async false
set_option linter.all false
set_option maxRecDepth 100000
set_option maxHeartbeats 4000000
namespace L2
open PySem PySem.Spec PyProof.Rows
section
variable {X : Cx}
end
end L2


set_option Elab.async false
set_option linter.all false
set_option maxRecDepth 100000
set_option maxHeartbeats 4000000
namespace L2
open PySem PySem.W PySem.Spec PySem.Calls PyProof.Rows
/-! ### a dict keyed by None and ints, its values all True -/
section
variable {X : Cx} {pos pos' : Pos} {o i value : Expr} {td ty tv : TE}
/-! ### lists that are alike -/
def rEqL (K : PySem.W.Frag) : R2 := fun x y H Q => ∃ (p q : Addr) (xs ys : List V), x = .ref p ∧ y = .ref q ∧ SqL K H p xs ∧ SqL K H q ys ∧ (∀ (i : Nat) a b, xs[i]? = some a → ys[i]? = some b → cmpV a b ∨ (a = .non ∧ b = .non)) ∧ Q (.bl (decide (xs = ys))) H
theorem op_eqL (hu : X.A.units < cLine) : OpR X (compareOp .Eq) (rEqL X.K) := by
  intro pins s σ H x y v u Q I rx ry h
  obtain ⟨p, q, xs, ys, rfl, rfl, hp, hq, hc, k⟩ := h
  cases rx
  cases ry
  obtain ⟨its, hv, pl, _⟩ := I.list hp
  obtain ⟨its2, hv2, pl2, _⟩ := I.list hq
  have e1 := hv.length
  have e2 := hv2.length
  by_cases hl : xs.length = ys.length
  · have key : SeqAt.RcAt X.A s (.ref p) (.ref q) ((List.range its.toArray.size).all fun i => decide (xs[i]? = ys[i]?)) := by
      refine SeqAt.RcAt.lists pl.isList pl2.isList (by simp; omega) hu fun j h1 h2 => ?_
      have j1 : j < xs.length := by simp at h1; omega
      have j2 : j < ys.length := by simp at h2; omega
      have z1 : xs[j]? = some xs[j] := List.getElem?_eq_getElem j1
      have z2 : ys[j]? = some ys[j] := List.getElem?_eq_getElem j2
      obtain ⟨u1, w1, r1⟩ := hv.get z1
      obtain ⟨u2, w2, r2⟩ := hv2.get z2
      have i1 : its.toArray[j] = u1 := by
        have : its[j]? = some its[j] := List.getElem?_eq_getElem (by omega)
        rw [this] at w1
        simpa using w1
      have i2 : its2.toArray[j] = u2 := by
        have : its2[j]? = some its2[j] := List.getElem?_eq_getElem (by omega)
        rw [this] at w2
        simpa using w2
      rw [i1, i2, z1, z2]
      have e : decide (some xs[j] = some ys[j]) = decide (xs[j] = ys[j]) := by simp
      rw [e]
      rcases hc j _ _ z1 z2 with hc | ⟨ha, hb⟩
      · exact cmpV_at hc r1 r2
      · rw [ha] at r1 ⊢
        rw [hb] at r2 ⊢
        have q1 : u1 = Value.none := r1
        have q2 : u2 = Value.none := r2
        subst q1 q2
        rw [decide_eq_true rfl]
        exact SeqAt.EqAt.same _
    rw [List.size_toArray, ← e1, all_eq hl] at key
    exact key _ _ _ _ ⟨.bl (decide (xs = ys)), H, I, rfl, k⟩
  · have key : SeqAt.RcAt X.A s (.ref p) (.ref q) false := SeqAt.RcAt.lists_lengths pl.isList pl2.isList (by simp; omega) hu
    rw [decide_eq_false (fun z => hl (by rw [z]))] at k
    exact key _ _ _ _ ⟨.bl false, H, I, rfl, k⟩
end
end L2


set_option Elab.async false
set_option linter.all false
set_option maxRecDepth 100000
set_option maxHeartbeats 4000000
namespace L2
open PySem PySem.Spec PyProof.Rows
section
variable {X : Cx} {pins : List (Addr × Obj)} {σ : St} {H : Hp} {s : Shared} {h' : Heap}
/-- records of ours have turned, and a new object came -/
theorem Inv.turnedNew {t' : Nat} {its : List Addr} {a : Addr} {o : HO} (I : Inv X pins σ H s) (k : ∀ b u, b ∉ its → s.heap.get? b = some u → h'.get? b = some u) (hf : ∀ b ∈ its, FpOk X pins H b)
    (hp : s.heap.objs.size ≤ a) (new : ObjOk X.prog X.w (upd H a o) h' a o) : Inv X pins σ (upd H a o) { s with heap := h', toks := t' } := by
  have hn : H a = none := I.hok.fresh hp
  have nit : ∀ b u, H b = some u → b ∉ its := fun b u e z => by rw [(hf b z).1] at e; cases e
  have nea : ∀ b u, s.heap.get? b = some u → b ≠ a := fun b u e => Nat.ne_of_lt (Nat.lt_of_lt_of_le (Heap.lt_size e) hp)
  refine I.step (g' := s.gens) (d' := s.drawn) (ch := its) (fun b hb => ?_) (fun b o _ _ hc e _ => k b o hc e) (fun b o _ _ hc e _ => ⟨o.slots, k b o hc e⟩) (fun b u _ e n => ?_)
    (fun b o hc e => ⟨o, k b o hc e⟩) (fun b xs e => ?_) (fun b u v e => ?_) (fun b ps e => ⟨#[], ?_⟩) (fun m hm => ?_) (fun b u e => ?_) I.bare
  · obtain ⟨_, f1, f2, f3, f4, f5⟩ := hf b hb
    exact ⟨f3, f1, f4, f5⟩
  · rw [upd_ne (nea b u e)]; exact n
  · rw [upd_ne (ne_of_none e hn)]; exact e
  · rw [upd_ne (ne_of_none e hn)]; exact e
  · rw [upd_ne (ne_of_none e hn), e]; simp
  · obtain ⟨o, es, ep, ho, r⟩ := hm
    exact ⟨o, es, ep, k _ o (fun z => (hf _ z).2.1 rfl) ho, r⟩
  · by_cases hb : b = a
    · subst hb
      rw [upd_same] at e
      cases e
      exact new
    · rw [upd_ne hb] at e
      refine (I.hok b u e).stay (fun c v hc q => k c v ?_ q) (fun c q => by rw [upd_ne (ne_of_none q hn)]; exact q) fun c xs q => by rw [upd_ne (ne_of_none q hn)]; exact q
      rcases hc with z | z
      · rw [z]; exact nit b u e
      · exact nit c _ z
end
/-- i and the list's item there, as a new pair -/
def Ite (K : PySem.W.Frag) (a : Addr) : It :=
  ⟨fun i H => ∃ xs x, SqL K H a xs ∧ xs[i]? = some x,
   fun i H x H' => ∃ t y, H t = none ∧ x = .ref t ∧ H' = upd H t (.tup [.int i, y]) ∧ ∀ xs, SqL K H a xs → xs[i]? = some y,
   fun i H => ∃ xs, SqL K H a xs ∧ xs.length ≤ i⟩
theorem turn_enum {P : Program} {w : World} {K : PySem.W.Frag} {elts : List Expr} {x1} {pos : Pos} (a e it : Addr) (hne : e ≠ it) :
    Turn P w K (.Tuple elts x1 pos) (Ite K a) [e, it] e (fun i h => (∃ old, IsEnum h e it i old) ∧ h.IsListIter it a i) where
  mem := by simp
  obj := fun i h st b hb => by
    obtain ⟨⟨old, he⟩, o, eo, c, d⟩ := st
    rcases List.mem_cons.mp hb with rfl | hb
    · exact ⟨_, he, fun v z => by
        have z' : Data.fields _ = Data.cell v := z
        cases z'⟩
    · rw [List.mem_singleton.mp hb]
      exact ⟨o, eo, fun v z => by rw [d] at z; cases z⟩
  keep := fun i h h' st k => ⟨st.1.elim fun old he => ⟨old, k e (by simp) _ he⟩, st.2.at fun o eo => k it (by simp) o eo⟩
  item := by
    intro X hP hw hK hc i pins s σ H E I hf st hg
    subst hP hw hK
    obtain ⟨xs, x, hq, hx⟩ := hg
    obtain ⟨⟨old, he⟩, hit⟩ := st
    obtain ⟨its, rv, p, hz⟩ := I.list hq
    obtain ⟨u, hu, ru⟩ := rv.get hx
    refine wpAny_pyNext_enum_item he hit p.isList (x := u) (by simpa using hu) hne fun h1 he1 hit1 ht1 hz1 k1 => ?_
    refine ⟨_, rfl, wpAny_letOwnedTupleGo_enum he1 fun h2 he2 hs2 => ?_⟩
    have hne2 : s.heap.objs.size ≠ e := Nat.ne_of_gt (Heap.lt_size he)
    have ht2 := (hs2.2 s.heap.objs.size hne2).trans ht1
    have hk : ∀ b o, b ∉ [e, it] → s.heap.get? b = some o → h2.get? b = some o := fun b o hb e' => by
      have hb' : b ≠ e ∧ b ≠ it := by simpa using hb
      exact (hs2.2 b hb'.1).trans (k1 b o hb'.1 hb'.2 e')
    have hfr : H s.heap.objs.size = none := I.hok.fresh (Nat.le_refl _)
    refine ⟨.ref s.heap.objs.size, upd H s.heap.objs.size (.tup [.int i, x]), I.turnedNew (t' := s.toks + 1) hk hf (Nat.le_refl _) ?_, rfl, ⟨_, x, hfr, rfl, rfl, fun ys hy => by rw [I.list_inj hy hq]; exact hx⟩, ⟨⟨u, ?_⟩, ?_⟩, fun b hb => ?_⟩
    · exact ⟨by show 2 ≤ sizeLine; decide, [.int i s.toks, u], .cons ⟨_, rfl⟩ (.cons ru .nil), ⟨_, ht2, rfl, _, rfl⟩⟩
    · exact he2
    · obtain ⟨o, e1, e2⟩ := hit1
      exact ⟨o, (hs2.2 it (Ne.symm hne)).trans e1, e2⟩
    · have : b ≠ s.heap.objs.size := by
        rcases List.mem_cons.mp hb with rfl | hb
        · exact Ne.symm hne2
        · rw [List.mem_singleton.mp hb]
          obtain ⟨o, e1, _⟩ := hit
          exact Nat.ne_of_lt (Heap.lt_size e1)
      rw [upd_ne this]
      exact (hf b hb).1
  done := by
    intro X hP hw hK hc i pins s σ H E I hf st hg
    subst hP hw hK
    obtain ⟨xs, hq, hx⟩ := hg
    obtain ⟨⟨old, he⟩, hit⟩ := st
    obtain ⟨its, rv, p, hz⟩ := I.list hq
    obtain ⟨f0, f1, f2, f3, f4, f5⟩ := hf it (by simp)
    have hl := rv.length
    exact wpAny_pyNext_enum_end (I.ok.hd hc) he hit p.isList (by simp; omega) fun h' eb => ⟨rfl, I.turned (t' := s.toks) (fun b o hb e => eb b o hb e) f0 f1 f3 f4 f5⟩
  self := fun _ _ _ _ _ st h => st.1.elim fun _ he => wpAny_pyIter_enum he h
section
variable {X : Cx}
def iEnum (K : PySem.W.Frag) (ta : TA) : TI := fun σ H R => ta σ H fun vs H1 => ∃ a, vs = [.ref a] ∧ (∃ xs, SqL K H1 a xs) ∧ R (Ite K a) H1
theorem bt_enum : bootBuiltins "enumerate" = some (.type "enumerate") := by decide +kernel
theorem pi_enum {a : Expr} {ta : TA} {p pos : Pos} {elts : List Expr} {x1} {tpos : Pos} (hg : Gl X "enumerate") (hm : X.mg "enumerate" = none) (ha : PA X [a] ta) (hs : starEach [a] X.env = [(false, eval a X.env)] := by rfl) :
    PI X (.Tuple elts x1 tpos) (.Call (.Name "enumerate" p) [a] [] pos) (iEnum X.K ta) := by
  intro pins s σ H R I h
  refine Call_ (ld_blt I hg hm bt_enum (PyProof.Rows.callWith_type1 (thn (ha pos pins s σ H _ I h) fun us s1 ⟨vs, H1, I1, r1, q1⟩ => ?_) hs rfl))
  obtain ⟨a, e, ⟨xs, hq⟩, q⟩ := q1
  subst e
  obtain ⟨u, rfl, ru⟩ := vals1 r1
  cases ru
  obtain ⟨its, rv, p, hz⟩ := I1.list hq
  refine call_enumerate_list p.isList fun h' he hit hsz hk => ?_
  refine wpAny_pyIter_enum he ?_
  refine ⟨s1.heap.objs.size + 1, [s1.heap.objs.size + 1, s1.heap.objs.size], _, _, H1, rfl, I1.kept (t' := s1.toks) hk, turn_enum a _ _ (Nat.succ_ne_self _), ⟨⟨_, he⟩, hit⟩, fun b hb => ?_, q⟩
  have hb' : s1.heap.objs.size ≤ b := by
    rcases List.mem_cons.mp hb with rfl | hb
    · exact Nat.le_succ _
    · rw [List.mem_singleton.mp hb]; exact Nat.le_refl _
  exact I1.fpOk hb' (I1.hok.fresh hb')
/-- over enumerate of a list that the body leaves as it is -/
theorem for_enum {K : PySem.W.Frag} {a : Addr} {xs : List V} {g : TG} {tb : TS} {D : Ends} {σ : St} {H : Hp} (Pv : Nat → St → Hp → Prop) (h0 : Pv 0 σ H) (hl : ∀ i σ H, i ≤ xs.length → Pv i σ H → SqL K H a xs)
    (hs : ∀ i x σ H t, xs[i]? = some x → H t = none → Pv i σ H → g (.ref t) σ (upd H t (.tup [.int i, x])) fun σ2 H2 => tb { D with nx := Pv (i + 1), ct := Pv (i + 1), bk := D.nx } σ2 H2) (hd : ∀ σ H, Pv xs.length σ H → D.nx σ H) :
    ∃ W : Nat → Nat → St → Hp → Prop, (∃ m, W 0 m σ H) ∧ ∀ i m σ H, W i m σ H →
      ((Ite K a).stop i H ∧ D.nx σ H) ∨ ((Ite K a).go i H ∧ ∃ N : St → Hp → Prop, (∀ σ' H', N σ' H' → ∃ m', m' < m ∧ W (i + 1) m' σ' H') ∧ ∀ x H', (Ite K a).yld i H x H' → g x σ H' fun σ2 H2 => tb { D with nx := N, ct := N, bk := D.nx } σ2 H2) := by
  refine ⟨fun i m σ H => m = xs.length - i ∧ i ≤ xs.length ∧ Pv i σ H, ⟨xs.length, by simp, Nat.zero_le _, h0⟩, ?_⟩
  rintro i m σ H ⟨rfl, hi, p⟩
  have q := hl i σ H hi p
  by_cases hlt : i < xs.length
  · refine .inr ⟨⟨xs, xs[i], q, by simp [hlt]⟩, Pv (i + 1), fun σ' H' p' => ⟨xs.length - (i + 1), by omega, rfl, hlt, p'⟩, fun x H' y => ?_⟩
    obtain ⟨t, y, hn, e1, e2, hy⟩ := y
    subst e1 e2
    exact hs i y σ _ t (hy xs q) hn p
  · have e : i = xs.length := by omega
    subst e
    exact .inl ⟨⟨xs, q, Nat.le_refl _⟩, hd σ H p⟩
end
end L2


set_option Elab.async false
set_option linter.all false
set_option maxRecDepth 100000
set_option maxHeartbeats 4000000
namespace L2
open PySem PySem.W PySem.Spec PySem.Calls PyProof.Rows
/-! ### a dict that is walked: frozen while it is so -/
section
variable {X : Cx} {pins : List (Addr × Obj)} {σ : St} {H : Hp} {s : Shared} {a : Addr} {kvs : List (Key × V)}
end
section
variable {X : Cx}
/-! ### loops and comprehensions over them -/
end
end L2


set_option Elab.async false
set_option linter.all false
set_option maxRecDepth 100000
set_option maxHeartbeats 4000000
namespace L2
open PySem PySem.W PySem.Spec PySem.Calls PyProof.Rows
/-! ### == of a list of ints, None, lists, tuples and dicts: what is alike -/
section
variable {X : Cx} {pins : List (Addr × Obj)} {σ : St} {H : Hp} {s : Shared} {A : Around}
end
end L2


set_option Elab.async false
set_option linter.all false
set_option maxRecDepth 100000
set_option maxHeartbeats 4000000
namespace L2
open PySem PySem.W PySem.Spec PySem.Calls PyProof.Rows
section
variable {prog : Program} {w : World} {K : Type} [DecidableEq K] {knd : KeyKind prog w K} {A : Around} {R : Result → Shared → Prop}
end
end L2


set_option Elab.async false
set_option linter.all false
set_option maxRecDepth 100000
set_option maxHeartbeats 4000000
namespace L2
open PySem PySem.W PySem.Spec PySem.Calls PyProof.Rows
/-! ### d.update(e): other keys -/
/-! ### x in range(n) -/
end L2


set_option Elab.async false
set_option linter.all false
set_option maxRecDepth 100000
set_option maxHeartbeats 4000000
namespace L2
open PySem PySem.Spec PyProof.Rows
/-! ### the call of what an expression tells -/
section
variable {X : Cx} {k : Nat} {e a : Expr} {es : List Expr} {pos : Pos} {te : TE} {t : TA}
end
end L2


set_option Elab.async false
set_option linter.all false
set_option maxRecDepth 100000
set_option maxHeartbeats 4000000
namespace L2
open PySem PySem.Spec PyProof.Rows
/-- a dict of the top, keyed by texts: what it holds at x -/
def KHas (K : PySem.W.Frag) (P : Params) (a : Addr) (x : Str) (r : Option V) : Prop :=
  ∃ (es : Array DictEntry) (n : Nat), K.lookup a = some ⟨.type "dict", none, .dict es n, #[]⟩ ∧ PySem.W.KeysLit P es.toList ∧ (a == sysModules) = false ∧ ∃ q, PySem.W.nsIn K a x = some q ∧ RelO r q
def tKGet (K : PySem.W.Frag) (P : Params) (td ty : TE) : TE := fun σ H Q => td σ H fun x H1 => ty σ H1 fun y H2 => ∃ a k v, x = .ref a ∧ y = .str k ∧ KHas K P a k (some v) ∧ Q v H2
section
variable {X : Cx} {o i : Expr} {pos : Pos} {td ty : TE}
theorem pe_kget (ho : PE X o td) (hi : PE X i ty) (hs : NoSl i) : PE X (.Subscript o i pos) (tKGet X.K X.w.params td ty) := by
  intro pins s σ H Q I h
  refine subD_of PySem.F.slot_dict_getitem.lookup hs (thn (ho pins s σ H _ I h) fun u s1 ⟨x, H1, I1, rx, q1⟩ => thn (hi pins s1 σ H1 _ I1 q1) fun iv s2 ⟨y, H2, I2, ry, a, k, v, ex, ey, g, q2⟩ => ?_)
  subst ex ey
  obtain rfl : u = Value.ref a := rx
  obtain ⟨t, rfl⟩ := ry
  obtain ⟨es, n, hl, hk, hm, q, hq, rq⟩ := g
  obtain ⟨w', hw, rw'⟩ := RelO.some_of (v := v) (o := q) rq
  subst hw
  have mo := PySem.W.mapOf_K (prog := X.prog) (w := X.w) I2.kIn hl hk
  exact ⟨mo.typeIs, wpAny_getItem_of (strKind_is X.prog X.w k t) mo (PySem.W.find_K hl hq) ⟨v, H2, I2.tok _, rw', q2⟩⟩
end
end L2


set_option Elab.async false
set_option linter.all false
set_option maxRecDepth 100000
set_option maxHeartbeats 4000000
namespace L2
open PySem PySem.Spec PyProof.Rows
/-! ### d.get(k, x) of a dict of the top -/
def tKGet2 (K : PySem.W.Frag) (P : Params) (td ty tx : TE) : TE := fun σ H Q => td σ H fun x H1 => ∃ a, x = .ref a ∧ (∃ es n, K.lookup a = some ⟨.type "dict", none, .dict es n, #[]⟩) ∧ ty σ H1 fun y H2 => tx σ H2 fun z H3 => ∃ k r, y = .str k ∧ KHas K P a k r ∧ Q (r.getD z) H3
section
variable {X : Cx} {o e f : Expr} {apos cpos : Pos} {td ty tx : TE}
theorem pe_kget2 (ho : PE X o td) (he : PE X e ty) (hf : PE X f tx) (m : M2 X o "get" apos e f cpos) : PE X (.Call (.Attribute o "get" apos) [e, f] [] cpos) (tKGet2 X.K X.w.params td ty tx) := by
  intro pins s σ H Q I h
  refine wpAny_Call_method m.base m.few m.line PySem.F.plainAttrs_dict PySem.F.slot_dict_get PySem.F.type_dict_get (thn (ho pins s σ H _ I h) fun u s1 ⟨x, H1, I1, rx, a, ex, ⟨es, n, hl⟩, q1⟩ => ?_)
  subst ex
  obtain rfl : u = Value.ref a := rx
  have ga := I1.kIn _ _ hl
  refine ⟨⟨_, ga, rfl⟩, fun b q => ?_, ?_⟩
  · cases q
    exact ⟨_, ga, rfl⟩
  rw [m.trees]
  refine Calls.callWith_builtin rfl (Calls.evalArgs_plain (Calls.spliced_cons (thn (he pins s1 σ H1 _ I1 q1) fun iv s2 ⟨y, H2, I2, ry, q2⟩ =>
    Calls.spliced_cons (thn (hf pins s2 σ H2 _ I2 q2) fun fv s3 ⟨z, H3, I3, rz, k, r, ey, g, q3⟩ => Calls.spliced_nil ?_))))
  subst ey
  obtain ⟨t, rfl⟩ := ry
  obtain ⟨es, n, hl, hk, hm, q, hq, rq⟩ := g
  have mo := PySem.W.mapOf_K (prog := X.prog) (w := X.w) I3.kIn hl hk
  refine call_meetsIn PySem.F.slot_dict_get mo.typeIs PySem.F.entry_dict_get (PySem.F.args_dict_get_3 _ _ _) (meets_dict_get_default (strKind X.prog X.w) a (strKind_is X.prog X.w k t) hm fv) ⟨_, mo, ?_⟩
  rw [PySem.W.find_K hl hq]
  exact ⟨r.getD z, H3, I3.tok _, rq.getD rz, q3⟩
end
end L2


set_option Elab.async false
set_option linter.all false
set_option maxRecDepth 100000
set_option maxHeartbeats 4000000
namespace L2
open PySem PySem.Spec PyProof.Rows
/-! ### t * n -/
end L2


set_option Elab.async false
set_option linter.all false
set_option maxRecDepth 100000
set_option maxHeartbeats 4000000
namespace L2
open PySem PySem.Spec PyProof.Rows
theorem comp_enum {K : PySem.W.Frag} {a : Addr} {xs : List V} {g : TG} {tt : TT} {te : TE} {R : Hp → Prop} {D : Addr} {σ0 : St} {H0 : Hp} (Pv : Nat → St → List V → Hp → Prop) (h0 : Pv 0 σ0 [] H0) (hl : ∀ i σ ys H, i ≤ xs.length → Pv i σ ys H → SqL K H a xs)
    (hs : ∀ i x σ ys H t, xs[i]? = some x → H t = none → Pv i σ ys H → g (.ref t) σ (upd H t (.tup [.int i, x])) fun σ2 H2 => tt σ2 H2 fun b H3 =>
      if b = true then te σ2 H3 fun v H4 => H4 D = some (.lst ys) ∧ ys.length < sizeLine ∧ Pv (i + 1) σ2 (ys ++ [v]) (upd H4 D (.lst (ys ++ [v]))) else Pv (i + 1) σ2 ys H3)
    (hd : ∀ σ ys H, Pv xs.length σ ys H → R H) :
    ∃ W : Nat → Nat → St → List V → Hp → Prop, (∃ m, W 0 m σ0 [] H0) ∧ ∀ i m σ ys H, W i m σ ys H →
      ((Ite K a).stop i H ∧ R H) ∨ ((Ite K a).go i H ∧ ∃ N : St → List V → Hp → Prop, (∀ σ' ys' H', N σ' ys' H' → ∃ m', m' < m ∧ W (i + 1) m' σ' ys' H') ∧ ∀ x H', (Ite K a).yld i H x H' → g x σ H' fun σ2 H2 => tt σ2 H2 fun b H3 =>
        if b = true then te σ2 H3 fun v H4 => H4 D = some (.lst ys) ∧ ys.length < sizeLine ∧ N σ2 (ys ++ [v]) (upd H4 D (.lst (ys ++ [v]))) else N σ2 ys H3) := by
  refine ⟨fun i m σ ys H => m = xs.length - i ∧ i ≤ xs.length ∧ Pv i σ ys H, ⟨xs.length, by simp, Nat.zero_le _, h0⟩, ?_⟩
  rintro i m σ ys H ⟨rfl, hi, p⟩
  have q := hl i σ ys H hi p
  by_cases hlt : i < xs.length
  · refine .inr ⟨⟨xs, xs[i], q, by simp [hlt]⟩, Pv (i + 1), fun σ' ys' H' p' => ⟨xs.length - (i + 1), by omega, rfl, hlt, p'⟩, fun x H' y => ?_⟩
    obtain ⟨t, y, hn, e1, e2, hy⟩ := y
    subst e1 e2
    exact hs i y σ ys _ t (hy xs q) hn p
  · have e : i = xs.length := by omega
    subst e
    exact .inl ⟨⟨xs, q, Nat.le_refl _⟩, hd σ ys H p⟩
end L2


set_option Elab.async false
set_option linter.all false
namespace L2
open PySem PySem.Spec PyProof.Rows
/-! ### a block cut at a place: what is true there -/
def tMid (t u : TS) : TS := fun D σ H => ∃ J : St → Hp → Prop, t { D with nx := J } σ H ∧ ∀ σ' H', J σ' H' → u D σ' H'
theorem pss_mid {X : Cx} {st : Stmt} {rest : List Stmt} {t u : TS} (h1 : PS X st t) (h2 : PSs X rest u) : PSs X (st :: rest) (tMid t u) := by
  intro pins s σ H D I h
  obtain ⟨J, h, hJ⟩ := h
  refine wpAny_execs_cons (thn (h1 pins s σ H { D with nx := J } I h) fun f s1 q => ?_)
  cases f with
  | next =>
    obtain ⟨σ', H', I', q⟩ := q
    exact h2 pins s1 σ' H' D I' (hJ _ _ q)
  | ret v => exact q
  | brk => exact q
  | cont => exact q
end L2


set_option Elab.async false
set_option linter.all false
namespace L2
open PySem PySem.Spec PyProof.Rows
/-! ### texts put together: told by one function of the names -/
section
variable {X : Cx}
end
end L2
namespace L2
open PySem PySem.Spec PyProof.Rows
/-! ### what they come to -/
section
variable {σ : St}
end
end L2
namespace L2
open PySem PySem.Spec PyProof.Rows
/-! ### statements with such lists: shut off (else Lean runs through the display at each look) -/
structure PSx (X : Cx) (st : Stmt) (t : TS) : Prop where
  ps : PS X st t
structure PSsx (X : Cx) (b : List Stmt) (t : TS) : Prop where
  ps : PSs X b t
section
variable {X : Cx}
theorem psx_of {st : Stmt} {t : TS} (h : PS X st t) : PSx X st t := ⟨h⟩
theorem psx_if {c : Expr} {a b : List Stmt} {tc : TT} {t u : TS} {pos : Pos} (hc : PT X c tc) (ha : PSsx X a t) (hb : PSsx X b u) : PSx X (.If c a b pos) (tIfS tc t u) := ⟨ps_if hc ha.ps hb.ps⟩
theorem pssx_nil {t : TS} (h : PSs X [] t) : PSsx X [] t := ⟨h⟩
theorem pssx_cons {st : Stmt} {b : List Stmt} {t u : TS} (h : PSx X st t) (k : PSsx X b u) : PSsx X (st :: b) (tSeq t u) := ⟨pss_cons h.ps k.ps⟩
theorem pssx_mid {st : Stmt} {b : List Stmt} {t u : TS} (h : PSx X st t) (k : PSsx X b u) : PSsx X (st :: b) (tMid t u) := ⟨pss_mid h.ps k.ps⟩
theorem pssx_one {st : Stmt} {t : TS} (h : PSx X st t) : PSsx X [st] t := ⟨pss_one h.ps⟩
theorem wrapX {b : List Stmt} {t : TS} {R : TS → Prop} (h : PSsx X b t) (hr : R t) : ∃ t, PSs X b t ∧ R t := ⟨t, h.ps, hr⟩
end
end L2
namespace L2
open PySem PySem.Spec PyProof.Rows
/-! ### whole numbers put together, and their texts -/
section
variable {X : Cx}
end
end L2


set_option Elab.async false
set_option linter.all false
set_option maxRecDepth 100000
set_option maxHeartbeats 4000000
namespace L2
open PySem PySem.Spec PyProof.Rows
section
variable {X : Cx}
end
end L2


set_option Elab.async false
set_option linter.all false
set_option maxRecDepth 100000
set_option maxHeartbeats 4000000
namespace L2
open PySem PySem.Spec PyProof.Rows
section
variable {X : Cx}
end
end L2


set_option Elab.async false
set_option linter.all false
set_option maxRecDepth 100000
set_option maxHeartbeats 4000000
namespace L2
open PySem PySem.Spec PyProof.Rows
/-! ### things as data, of any depth; == and != of two of them -/
inductive Da where
  | non | bl (b : Bool) | int (i : Int) | str (s : Str) | tup (l : List Da) | lst (l : List Da)
mutual
def Da.beq : Da → Da → Bool
  | .non, .non => true
  | .bl a, .bl b => a == b
  | .int a, .int b => decide (a = b)
  | .str a, .str b => decide (a = b)
  | .tup a, .tup b => Da.beqs a b
  | .lst a, .lst b => Da.beqs a b
  | _, _ => false
def Da.beqs : List Da → List Da → Bool
  | [], [] => true
  | a :: r, b :: t => Da.beq a b && Da.beqs r t
  | _, _ => false
end
mutual
theorem Da.beq_iff : ∀ a b : Da, Da.beq a b = true ↔ a = b
  | .non, b => by cases b <;> simp [Da.beq]
  | .bl x, b => by cases b <;> simp [Da.beq]
  | .int x, b => by cases b <;> simp [Da.beq]
  | .str x, b => by cases b <;> simp [Da.beq]
  | .tup x, b => by
    cases b <;> simp [Da.beq]
    exact Da.beqs_iff _ _
  | .lst x, b => by
    cases b <;> simp [Da.beq]
    exact Da.beqs_iff _ _
theorem Da.beqs_iff : ∀ a b : List Da, Da.beqs a b = true ↔ a = b
  | [], b => by cases b <;> simp [Da.beqs]
  | x :: r, [] => by simp [Da.beqs]
  | x :: r, y :: t => by
    simp [Da.beqs]
    rw [Da.beq_iff x y, Da.beqs_iff r t]
end
instance : DecidableEq Da := fun a b => decidable_of_iff _ (Da.beq_iff a b)
/-- v is the thing that d tells -/
inductive DaAt (K : PySem.W.Frag) (H : Hp) : V → Da → Prop
  | non : DaAt K H .non .non
  | bl (b : Bool) : DaAt K H (.bl b) (.bl b)
  | int (i : Int) : DaAt K H (.int i) (.int i)
  | str (x : Str) : DaAt K H (.str x) (.str x)
  | tup {p : Addr} {xs : List V} {ds : List Da} : SqT K H p xs → xs.length = ds.length → (∀ (i : Nat) x d, xs[i]? = some x → ds[i]? = some d → DaAt K H x d) → DaAt K H (.ref p) (.tup ds)
  | lst {p : Addr} {xs : List V} {ds : List Da} : SqL K H p xs → xs.length = ds.length → (∀ (i : Nat) x d, xs[i]? = some x → ds[i]? = some d → DaAt K H x d) → DaAt K H (.ref p) (.lst ds)
/-- no truth within -/
inductive Da.Nb : Nat → Da → Prop
  | non {n} : Da.Nb n .non
  | int {n i} : Da.Nb n (.int i)
  | str {n i} : Da.Nb n (.str i)
  | tup {n l} : (∀ d ∈ l, Da.Nb n d) → Da.Nb (n + 1) (.tup l)
  | lst {n l} : (∀ d ∈ l, Da.Nb n d) → Da.Nb (n + 1) (.lst l)
theorem beqs_range : ∀ (a b : List Da), a.length = b.length → ((List.range a.length).all fun i => decide (a[i]? = b[i]?)) = decide (a = b) := fun a b h => by
  by_cases e : a = b
  · subst e
    simp
  · rw [decide_eq_false e]
    rw [Bool.eq_false_iff]
    intro z
    apply e
    apply List.ext_getElem? 
    intro i
    by_cases hi : i < a.length
    · have := (List.all_eq_true.mp z) i (List.mem_range.mpr hi)
      exact of_decide_eq_true this
    · rw [List.getElem?_eq_none (by omega), List.getElem?_eq_none (by omega)]
section
variable {X : Cx} {pins : List (Addr × Obj)} {σ : St} {H : Hp} {s : Shared}
theorem arr_at {its : List Value} {xs : List V} (r : Vals xs its) {j : Nat} (h : j < its.toArray.size) : ∃ x, xs[j]? = some x ∧ RelV x its.toArray[j] := by
  have l := r.length
  have j1 : j < xs.length := by simp at h; omega
  have z1 : xs[j]? = some xs[j] := List.getElem?_eq_getElem j1
  obtain ⟨u1, w1, q1⟩ := r.get z1
  have e1 : its.toArray[j] = u1 := by
    have : its[j]? = some its[j] := List.getElem?_eq_getElem (by omega)
    rw [this] at w1
    simpa using w1
  exact ⟨_, z1, by rw [e1]; exact q1⟩
theorem not_both {p : Addr} {i1 i2 : Array Value} (t1 : s.heap.IsTuple p i1) (t2 : s.heap.IsList p i2) : False := by
  obtain ⟨o, e, c1, n, d⟩ := t1
  obtain ⟨o', e', c2, n', d'⟩ := t2
  rw [e] at e'; cases e'
  rw [c1] at c2
  exact absurd c2 (by decide)
theorem da_one (I : Inv X pins σ H s) {x : V} {a b : Da} (ha : DaAt X.K H x a) (hb : DaAt X.K H x b) : a = b := by
  induction ha generalizing b with
  | non => cases hb; rfl
  | bl _ => cases hb; rfl
  | int _ => cases hb; rfl
  | str _ => cases hb; rfl
  | @tup p xs ds hp hl hd ih =>
    cases hb with
    | @tup q ys es hq hl2 hd2 =>
      have exy : xs = ys := I.tuple_inj hp hq
      subst exy
      refine congrArg Da.tup ?_
      apply List.ext_getElem (by omega)
      intro j h1 h2
      have g0 : xs[j]? = some xs[j] := List.getElem?_eq_getElem (by omega)
      have g1 : ds[j]? = some ds[j] := List.getElem?_eq_getElem h1
      have g2 : es[j]? = some es[j] := List.getElem?_eq_getElem h2
      exact ih j _ _ g0 g1 (hd2 j _ _ g0 g2)
    | @lst q ys es hq hl2 hd2 =>
      obtain ⟨i1, r1, t1, _⟩ := I.tuple hp
      obtain ⟨i2, r2, t2, _⟩ := I.list hq
      exact (not_both t1 t2.isList).elim
  | @lst p xs ds hp hl hd ih =>
    cases hb with
    | @lst q ys es hq hl2 hd2 =>
      have exy : xs = ys := I.list_inj hp hq
      subst exy
      refine congrArg Da.lst ?_
      apply List.ext_getElem (by omega)
      intro j h1 h2
      have g0 : xs[j]? = some xs[j] := List.getElem?_eq_getElem (by omega)
      have g1 : ds[j]? = some ds[j] := List.getElem?_eq_getElem h1
      have g2 : es[j]? = some es[j] := List.getElem?_eq_getElem h2
      exact ih j _ _ g0 g1 (hd2 j _ _ g0 g2)
    | @tup q ys es hq hl2 hd2 =>
      obtain ⟨i1, r1, t1, _⟩ := I.tuple hq
      obtain ⟨i2, r2, t2, _⟩ := I.list hp
      exact (not_both t1 t2.isList).elim
/-- two rows of things, side by side -/
theorem rows_at {A : Around} {m : Nat} {xs ys : List V} {ds es : List Da} {i1 i2 : List Value} (r1 : Vals xs i1) (r2 : Vals ys i2) (hl : xs.length = ds.length) (hl2 : ys.length = es.length)
    (ih : ∀ (j : Nat) x d y e u v, xs[j]? = some x → ds[j]? = some d → ys[j]? = some y → es[j]? = some e → RelV x u → RelV y v → SeqAt.EqAt A s u v (decide (d = e)))
    (j : Nat) (h1 : j < i1.toArray.size) (h2 : j < i2.toArray.size) : SeqAt.EqAt A s i1.toArray[j] i2.toArray[j] (decide (ds[j]? = es[j]?)) := by
  obtain ⟨x1, z1, q1⟩ := arr_at r1 h1
  obtain ⟨x2, z2, q2⟩ := arr_at r2 h2
  have k1 := (List.getElem?_eq_some_iff.mp z1).1
  have k2 := (List.getElem?_eq_some_iff.mp z2).1
  have g1 : ds[j]? = some (ds[j]'(by omega)) := List.getElem?_eq_getElem (by omega)
  have g2 : es[j]? = some (es[j]'(by omega)) := List.getElem?_eq_getElem (by omega)
  have r := ih j x1 _ x2 _ _ _ z1 g1 z2 g2 q1 q2
  have e : decide (ds[j]? = es[j]?) = decide (ds[j]'(by omega) = es[j]'(by omega)) := by rw [g1, g2]; simp
  rw [e]
  exact r
theorem tup_b {xs ys : List V} {ds es : List Da} {i1 i2 : List Value} (r1 : Vals xs i1) (r2 : Vals ys i2) (hl : xs.length = ds.length) (hl2 : ys.length = es.length) :
    ((List.range (min i1.toArray.size i2.toArray.size)).all (fun j => decide (ds[j]? = es[j]?)) && i1.toArray.size == i2.toArray.size) = decide (ds = es) := by
  have l1 := r1.length
  have l2 := r2.length
  by_cases z : ds.length = es.length
  · have y := beqs_range ds es z
    have s1 : i1.toArray.size = ds.length := by simp; omega
    have s2 : i2.toArray.size = ds.length := by simp; omega
    rw [s1, s2, Nat.min_self, y]
    simp
  · rw [decide_eq_false (fun y => z (by rw [y]))]
    have : (i1.toArray.size == i2.toArray.size) = false := by simp; omega
    rw [this, Bool.and_false]
theorem lst_b {xs ys : List V} {ds es : List Da} {i1 i2 : List Value} (r1 : Vals xs i1) (r2 : Vals ys i2) (hl : xs.length = ds.length) (hl2 : ys.length = es.length) (z : ds.length = es.length) :
    ((List.range i1.toArray.size).all (fun j => decide (ds[j]? = es[j]?))) = decide (ds = es) := by
  have l1 := r1.length
  have s1 : i1.toArray.size = ds.length := by simp; omega
  rw [s1, beqs_range ds es z]
theorem dec_tup (ds es : List Da) : decide (Da.tup ds = Da.tup es) = decide (ds = es) := decide_eq_decide.mpr ⟨Da.tup.inj, congrArg _⟩
theorem dec_lst (ds es : List Da) : decide (Da.lst ds = Da.lst es) = decide (ds = es) := decide_eq_decide.mpr ⟨Da.lst.inj, congrArg _⟩
theorem da_at {A : Around} {n : Nat} (hu : A.units + n < cLine) (I : Inv X pins σ H s) {x y : V} {a b : Da} (ha : DaAt X.K H x a) (hb : DaAt X.K H y b) (na : a.Nb n) (nb : b.Nb n) {u v : Value} (ru : RelV x u) (rv : RelV y v) : SeqAt.EqAt A s u v (decide (a = b)) := by
  induction ha generalizing A n y b u v with
  | non =>
    obtain rfl : u = Value.none := ru
    cases hb with
    | non => obtain rfl : v = Value.none := rv; exact SeqAt.EqAt.same _
    | bl _ => cases nb
    | int j => obtain ⟨t, rfl⟩ := rv; exact SeqAt.EqAt.none_int _ _
    | str j => obtain ⟨t, rfl⟩ := rv; exact SeqAt.EqAt.none_str _ _
    | tup hq => cases rv; obtain ⟨its, r1, p1, _⟩ := I.tuple hq; exact SeqAt.EqAt.none_tuple p1 (by omega)
    | lst hq => cases rv; obtain ⟨its, r1, p1, _⟩ := I.list hq; exact SeqAt.EqAt.none_list p1.isList (by omega)
  | bl _ => cases na
  | int i =>
    obtain ⟨t0, rfl⟩ := ru
    cases hb with
    | non => obtain rfl : v = Value.none := rv; exact SeqAt.EqAt.int_none _ _
    | bl _ => cases nb
    | int j =>
      obtain ⟨t, rfl⟩ := rv
      have := SeqAt.EqAt.int_int (A := A) (s := s) i t0 j t
      have e : (i == j) = decide (Da.int i = Da.int j) := by
        by_cases z : i = j
        · subst z; simp
        · rw [decide_eq_false (fun y => z (Da.int.inj y))]; simp [z]
      rwa [e] at this
    | str j => obtain ⟨t, rfl⟩ := rv; exact SeqAt.EqAt.int_str _ _ _ _
    | tup hq => cases rv; obtain ⟨its, r1, p1, _⟩ := I.tuple hq; exact SeqAt.EqAt.int_tuple _ _ p1 (by omega)
    | lst hq => cases rv; obtain ⟨its, r1, p1, _⟩ := I.list hq; exact SeqAt.EqAt.int_list _ _ p1.isList (by omega)
  | str i =>
    obtain ⟨t0, rfl⟩ := ru
    cases hb with
    | non => obtain rfl : v = Value.none := rv; exact SeqAt.EqAt.str_none _ _
    | bl _ => cases nb
    | int j => obtain ⟨t, rfl⟩ := rv; exact SeqAt.EqAt.str_int _ _ _ _
    | str j =>
      obtain ⟨t, rfl⟩ := rv
      have := SeqAt.EqAt.str_str (A := A) (s := s) i t0 j t
      have e : (i == j) = decide (Da.str i = Da.str j) := by
        by_cases z : i = j
        · subst z; simp
        · rw [decide_eq_false (fun y => z (Da.str.inj y))]; simp [z]
      rwa [e] at this
    | tup hq => cases rv; obtain ⟨its, r1, p1, _⟩ := I.tuple hq; exact SeqAt.EqAt.str_tuple _ _ p1 (by omega)
    | lst hq => cases rv; obtain ⟨its, r1, p1, _⟩ := I.list hq; exact SeqAt.EqAt.str_list _ _ p1.isList (by omega)
  | @tup p xs ds hp hl hd ih =>
    cases ru
    obtain ⟨i1, r1, t1, _⟩ := I.tuple hp
    cases hb with
    | non => obtain rfl : v = Value.none := rv; exact SeqAt.EqAt.tuple_none t1 (by omega)
    | bl _ => cases nb
    | int j => obtain ⟨t, rfl⟩ := rv; exact SeqAt.EqAt.tuple_int _ _ t1 (by omega)
    | str j => obtain ⟨t, rfl⟩ := rv; exact SeqAt.EqAt.tuple_str _ _ t1 (by omega)
    | @tup q ys es hq hl2 hd2 =>
      cases rv
      by_cases c : p = q
      · subst c
        have := da_one I (DaAt.tup hp hl hd) (DaAt.tup hq hl2 hd2)
        rw [decide_eq_true this]
        exact SeqAt.EqAt.same _
      cases na with
      | @tup m l na =>
      cases nb with
      | @tup m l nb =>
      obtain ⟨i2, r2, t2, _⟩ := I.tuple hq
      have key := SeqAt.RcAt.tuples (A := A) (s := s) (e := fun j => decide (ds[j]? = es[j]?)) t1 t2 (by omega) (rows_at (m := m) r1 r2 hl hl2 fun j x d y e u v h1 h2 h3 h4 ru rv =>
        ih j x d h1 h2 (A := A.in1) (n := m) (by show A.units + 1 + m < cLine; omega) (hd2 j y e h3 h4) (na _ (List.mem_of_getElem? h2)) (nb _ (List.mem_of_getElem? h4)) ru rv)
      rw [tup_b r1 r2 hl hl2] at key
      rw [dec_tup]
      exact SeqAt.EqAt.of_refs c key
    | @lst q ys es hq hl2 hd2 =>
      cases rv
      obtain ⟨i2, r2, t2, _⟩ := I.list hq
      by_cases c : p = q
      · subst c
        exact (not_both t1 t2.isList).elim
      · exact SeqAt.EqAt.of_refs c (SeqAt.RcAt.tuple_list t1 t2.isList (by omega))
  | @lst p xs ds hp hl hd ih =>
    cases ru
    obtain ⟨i1, r1, t1, _⟩ := I.list hp
    cases hb with
    | non => obtain rfl : v = Value.none := rv; exact SeqAt.EqAt.list_none t1.isList (by omega)
    | bl _ => cases nb
    | int j => obtain ⟨t, rfl⟩ := rv; exact SeqAt.EqAt.list_int _ _ t1.isList (by omega)
    | str j => obtain ⟨t, rfl⟩ := rv; exact SeqAt.EqAt.list_str _ _ t1.isList (by omega)
    | @lst q ys es hq hl2 hd2 =>
      cases rv
      by_cases c : p = q
      · subst c
        have := da_one I (DaAt.lst hp hl hd) (DaAt.lst hq hl2 hd2)
        rw [decide_eq_true this]
        exact SeqAt.EqAt.same _
      cases na with
      | @lst m l na =>
      cases nb with
      | @lst m l nb =>
      obtain ⟨i2, r2, t2, _⟩ := I.list hq
      have l1 := r1.length
      have l2 := r2.length
      rw [dec_lst]
      by_cases z : ds.length = es.length
      · have key := SeqAt.RcAt.lists (A := A) (s := s) (e := fun j => decide (ds[j]? = es[j]?)) t1.isList t2.isList (by simp; omega) (by omega) (rows_at (m := m) r1 r2 hl hl2 fun j x d y e u v h1 h2 h3 h4 ru rv =>
          ih j x d h1 h2 (A := A.in1) (n := m) (by show A.units + 1 + m < cLine; omega) (hd2 j y e h3 h4) (na _ (List.mem_of_getElem? h2)) (nb _ (List.mem_of_getElem? h4)) ru rv)
        rw [lst_b r1 r2 hl hl2 z] at key
        exact SeqAt.EqAt.of_refs c key
      · rw [decide_eq_false (fun y => z (by rw [y]))]
        exact SeqAt.EqAt.of_refs c (SeqAt.RcAt.lists_lengths t1.isList t2.isList (by simp; omega) (by omega))
    | @tup q ys es hq hl2 hd2 =>
      cases rv
      obtain ⟨i2, r2, t2, _⟩ := I.tuple hq
      by_cases c : p = q
      · subst c
        exact (not_both t2 t1.isList).elim
      · exact SeqAt.EqAt.of_refs c (SeqAt.RcAt.list_tuple t1.isList t2 (by omega))
end
/-- a list or a tuple and another -/
def rEqA (K : PySem.W.Frag) (ne : Bool) : R2 := fun x y H Q => ∃ (n : Nat) (p q : Addr) (a b : Da), x = .ref p ∧ y = .ref q ∧ DaAt K H x a ∧ DaAt K H y b ∧ a.Nb n ∧ b.Nb n ∧ n ≤ 6 ∧ Q (.bl (ne ^^ decide (a = b))) H
section
variable {X : Cx}
theorem op_eqA (hu : X.A.units + 6 < cLine) : OpR X (compareOp .Eq) (rEqA X.K false) := by
  intro pins s σ H x y v u Q I rx ry h
  obtain ⟨n, p, q, a, b, rfl, rfl, ha, hb, na, nb, hn, k⟩ := h
  cases rx
  cases ry
  rw [Bool.false_xor] at k
  cases ha with
  | @tup p xs ds hp hl hd =>
    obtain ⟨i1, r1, t1, _⟩ := I.tuple hp
    cases hb with
    | @tup q ys es hq hl2 hd2 =>
      cases na with
      | @tup m l na =>
      cases nb with
      | @tup m l nb =>
      obtain ⟨i2, r2, t2, _⟩ := I.tuple hq
      have key := SeqAt.RcAt.tuples (A := X.A) (s := s) (e := fun j => decide (ds[j]? = es[j]?)) t1 t2 (by omega) (rows_at (m := m) r1 r2 hl hl2 fun j x d y e u v h1 h2 h3 h4 ru rv =>
        da_at (A := X.A.in1) (n := m) (by show X.A.units + 1 + m < cLine; omega) I (hd j x d h1 h2) (hd2 j y e h3 h4) (na _ (List.mem_of_getElem? h2)) (nb _ (List.mem_of_getElem? h4)) ru rv)
      rw [tup_b r1 r2 hl hl2] at key
      rw [dec_tup] at k
      exact key _ _ _ _ ⟨.bl _, H, I, rfl, k⟩
    | @lst q ys es hq hl2 hd2 =>
      obtain ⟨i2, r2, t2, _⟩ := I.list hq
      exact (SeqAt.RcAt.tuple_list (A := X.A) t1 t2.isList (by omega)) _ _ _ _ ⟨.bl _, H, I, rfl, k⟩
  | @lst p xs ds hp hl hd =>
    obtain ⟨i1, r1, t1, _⟩ := I.list hp
    cases hb with
    | @lst q ys es hq hl2 hd2 =>
      cases na with
      | @lst m l na =>
      cases nb with
      | @lst m l nb =>
      obtain ⟨i2, r2, t2, _⟩ := I.list hq
      have l1 := r1.length
      have l2 := r2.length
      rw [dec_lst] at k
      by_cases z : ds.length = es.length
      · have key := SeqAt.RcAt.lists (A := X.A) (s := s) (e := fun j => decide (ds[j]? = es[j]?)) t1.isList t2.isList (by simp; omega) (by omega) (rows_at (m := m) r1 r2 hl hl2 fun j x d y e u v h1 h2 h3 h4 ru rv =>
          da_at (A := X.A.in1) (n := m) (by show X.A.units + 1 + m < cLine; omega) I (hd j x d h1 h2) (hd2 j y e h3 h4) (na _ (List.mem_of_getElem? h2)) (nb _ (List.mem_of_getElem? h4)) ru rv)
        rw [lst_b r1 r2 hl hl2 z] at key
        exact key _ _ _ _ ⟨.bl _, H, I, rfl, k⟩
      · rw [decide_eq_false (fun y => z (by rw [y]))] at k
        exact (SeqAt.RcAt.lists_lengths (A := X.A) t1.isList t2.isList (by simp; omega) (by omega)) _ _ _ _ ⟨.bl _, H, I, rfl, k⟩
    | @tup q ys es hq hl2 hd2 =>
      obtain ⟨i2, r2, t2, _⟩ := I.tuple hq
      exact (SeqAt.RcAt.list_tuple (A := X.A) t1.isList t2 (by omega)) _ _ _ _ ⟨.bl _, H, I, rfl, k⟩
theorem op_neA (hu : X.A.units + 6 < cLine) : OpR X (compareOp .NotEq) (rEqA X.K true) := by
  intro pins s σ H x y v u Q I rx ry h
  obtain ⟨n, p, q, a, b, rfl, rfl, ha, hb, na, nb, hn, k⟩ := h
  cases rx
  cases ry
  rw [Bool.true_xor] at k
  cases ha with
  | @tup p xs ds hp hl hd =>
    obtain ⟨i1, r1, t1, _⟩ := I.tuple hp
    cases hb with
    | @tup q ys es hq hl2 hd2 =>
      cases na with
      | @tup m l na =>
      cases nb with
      | @tup m l nb =>
      obtain ⟨i2, r2, t2, _⟩ := I.tuple hq
      have key := SeqAt.RcNeAt.tuples (A := X.A) (s := s) (e := fun j => decide (ds[j]? = es[j]?)) t1 t2 (by omega) (rows_at (m := m) r1 r2 hl hl2 fun j x d y e u v h1 h2 h3 h4 ru rv =>
        da_at (A := X.A.in1) (n := m) (by show X.A.units + 1 + m < cLine; omega) I (hd j x d h1 h2) (hd2 j y e h3 h4) (na _ (List.mem_of_getElem? h2)) (nb _ (List.mem_of_getElem? h4)) ru rv)
      rw [tup_b r1 r2 hl hl2] at key
      rw [dec_tup] at k
      exact key _ _ _ _ ⟨.bl _, H, I, rfl, k⟩
    | @lst q ys es hq hl2 hd2 =>
      obtain ⟨i2, r2, t2, _⟩ := I.list hq
      exact (SeqAt.RcNeAt.tuple_list (A := X.A) t1 t2.isList (by omega)) _ _ _ _ ⟨.bl _, H, I, rfl, k⟩
  | @lst p xs ds hp hl hd =>
    obtain ⟨i1, r1, t1, _⟩ := I.list hp
    cases hb with
    | @lst q ys es hq hl2 hd2 =>
      cases na with
      | @lst m l na =>
      cases nb with
      | @lst m l nb =>
      obtain ⟨i2, r2, t2, _⟩ := I.list hq
      have l1 := r1.length
      have l2 := r2.length
      rw [dec_lst] at k
      by_cases z : ds.length = es.length
      · have key := SeqAt.RcNeAt.lists (A := X.A) (s := s) (e := fun j => decide (ds[j]? = es[j]?)) t1.isList t2.isList (by simp; omega) (by omega) (rows_at (m := m) r1 r2 hl hl2 fun j x d y e u v h1 h2 h3 h4 ru rv =>
          da_at (A := X.A.in1) (n := m) (by show X.A.units + 1 + m < cLine; omega) I (hd j x d h1 h2) (hd2 j y e h3 h4) (na _ (List.mem_of_getElem? h2)) (nb _ (List.mem_of_getElem? h4)) ru rv)
        rw [lst_b r1 r2 hl hl2 z] at key
        exact key _ _ _ _ ⟨.bl _, H, I, rfl, k⟩
      · rw [decide_eq_false (fun y => z (by rw [y]))] at k
        exact (SeqAt.RcNeAt.lists_lengths (A := X.A) t1.isList t2.isList (by simp; omega) (by omega)) _ _ _ _ ⟨.bl _, H, I, rfl, k⟩
    | @tup q ys es hq hl2 hd2 =>
      obtain ⟨i2, r2, t2, _⟩ := I.tuple hq
      exact (SeqAt.RcNeAt.list_tuple (A := X.A) t1.isList t2 (by omega)) _ _ _ _ ⟨.bl _, H, I, rfl, k⟩
end
end L2


set_option Elab.async false
set_option linter.all false
set_option maxRecDepth 100000
set_option maxHeartbeats 4000000
namespace L2
open PySem PySem.Spec PyProof.Rows
section
variable {X : Cx}
/-! ### sorted(list of ints), list.remove(int) -/
theorem call_sorted_l : CallR X (.builtin "sorted") (fun xs H Q => ∃ (p : Addr) (ns : List Int), xs = [.ref p] ∧ SqL X.K H p (ns.map V.int) ∧ ns.length < 64 ∧ ∀ (l : Addr) (ms : List Int), H l = none → ms.Perm ns → ms.Pairwise (· ≤ ·) → Q (.ref l) (upd H l (.lst (ms.map V.int)))) := by
  intro pins s σ H xs us0 Q I r h
  obtain ⟨p, ns, rfl, hp, hz, q⟩ := h
  obtain ⟨u, rfl, ru⟩ := vals1 r
  cases ru
  obtain ⟨its, hv, pl, _⟩ := I.list hp
  have hi := intsAre_of hv
  have hl : its.length = ns.length := IntsAre.length hi
  refine sorted_ints pl.isList hi (by omega) fun out ms a1 a2 a3 => ?_
  obtain ⟨e, he⟩ := sortedAll_at s.heap its out
  have nD : H (s.heap.objs.size + 1) = none := I.hok.fresh (Nat.le_succ _)
  have hlm : ms.length < 64 := by rw [a2.length_eq]; exact hz
  refine ⟨.ref (s.heap.objs.size + 1), upd H (s.heap.objs.size + 1) (.lst (ms.map V.int)), I.laid (fun b o e => sortedAll_old e) (Nat.le_succ _) ?_, rfl, q _ ms nD a2 a3⟩
  exact ⟨by rw [List.length_map, sizeLine_eq]; omega, out.toList, e, vals_ints a1, he⟩
end
end L2


set_option Elab.async false
set_option linter.all false
set_option maxRecDepth 100000
set_option maxHeartbeats 4000000
namespace L2
open PySem PySem.W PySem.Spec PySem.Calls PyProof.Rows
/-! ### a heap with some of its objects taken away -/
def lessObj (S : List Addr) (i : Nat) (o : Obj) : Obj := if i ∈ S then { o with data := .freed } else o
def less (h : Heap) (S : List Addr) : Heap := { h with objs := h.objs.mapIdx (lessObj S) }
theorem less_in {h : Heap} {S : List Addr} {b : Addr} (hb : b ∈ S) : (less h S).get? b = none := by
  unfold Heap.get? less
  simp only [Array.getElem?_mapIdx]
  cases e : h.objs[b]? with
  | none => rfl
  | some o =>
    simp only [Option.map_some, lessObj, if_pos hb]
theorem less_out {h : Heap} {S : List Addr} {b : Addr} (hb : b ∉ S) : (less h S).get? b = h.get? b := by
  unfold Heap.get? less
  simp only [Array.getElem?_mapIdx]
  cases e : h.objs[b]? with
  | none => rfl
  | some o =>
    simp only [Option.map_some, lessObj, if_neg hb]
theorem less_stays {h : Heap} {S : List Addr} : (less h S).StaysIn h := fun b o e => by
  by_cases hb : b ∈ S
  · rw [less_in hb] at e; cases e
  · rwa [less_out hb] at e
theorem less_funs {h base : Heap} {S : List Addr} : ∀ {l : List Env}, h.FunFrames base l → (∀ b ∈ frs l, b ∈ S) → h.FunFrames (less h S) l
  | [], _, _ => trivial
  | env :: r, ⟨hk, ⟨L, o, hf, hn, ho, hd⟩, hr⟩, hs => by
    have e : frs (env :: r) = L :: frs r := by unfold frs; rw [List.filterMap_cons, hf]
    rw [e] at hs
    exact ⟨hk, ⟨L, o, hf, less_in (hs L (by simp)), ho, hd⟩, less_funs hr fun b hb => hs b (by simp [hb])⟩
/-! ### how an exception lies behind a call -/
theorem ObjOk.some_ {P : Program} {w : World} {H : Hp} {h : Heap} {a : Addr} {o : HO} (x : ObjOk P w H h a o) : ∃ u, h.get? a = some u := by
  cases o with
  | lst xs => obtain ⟨_, _, _, _, e⟩ := x; exact ⟨_, e⟩
  | tup xs => obtain ⟨_, _, _, ob, e, _⟩ := x; exact ⟨_, e⟩
  | dK kvs => obtain ⟨_, _, _, _, o, _, _, e, _⟩ := x; exact ⟨_, e⟩
  | dT kvs => obtain ⟨_, _, _, _, o, _, _, e, _⟩ := x; exact ⟨_, e⟩
  | set S n => obtain ⟨o, _, _, _, e, _⟩ := x; exact ⟨_, e⟩
  | ins C dx fs => obtain ⟨_, _, _, e, _⟩ := x; exact ⟨_, e⟩
  | own y => exact x
  | xd fs => obtain ⟨_, ⟨_, _, _, e, _⟩, _⟩ := x; exact ⟨_, e⟩
  | rng lo hi => obtain ⟨_, _, _, e⟩ := x; exact ⟨_, e⟩
  | frz ob u => obtain ⟨e, _⟩ := x; exact ⟨_, e⟩
  | tbl ps => exact ⟨_, (show h.get? a = some _ from x)⟩
  | met f y => exact ⟨_, (show h.get? a = some _ from x)⟩
  | ext φ => exact x.2.1
/-- an own class of exceptions without an __init__ of its own, as the top has written it -/
structure XCls (K : PySem.W.Frag) (C : Addr) (bmB : List Value) (newId : String) : Prop where
  isIn : excIn K C bmB newId = true
theorem XCls.obj {K : PySem.W.Frag} {C : Addr} {bmB : List Value} {newId : String} {h₀ : Heap} (c : XCls K C bmB newId) (X : K.In h₀) : ∃ bm N nm q bs hdct sn sub ab col dd k0 k1 k2 k3 k5 mN,
      h₀.get? C = some (excClassObj nm q C N bs bm hdct sn sub ab col dd k0 k1 k2 k3 k5 newId) ∧ h₀.Ns N mN ∧ mN (Str.ofString "__init__") = none ∧ OwnTail h₀ bmB bm := by
  have q := c.isIn
  unfold excIn at q
  split at q
  · rename_i dd cd sl ho
    split at q
    · rename_i C' bm k0 k1 k2 k3 n k5 hm hs
      simp only [Bool.and_eq_true, beq_iff_eq, Bool.not_eq_true'] at q
      obtain ⟨⟨⟨⟨⟨rfl, rfl⟩, hdel⟩, ht⟩, hok⟩, hni⟩ := q
      obtain ⟨nm, bs, mro, ns, qn, hd, sn, sub, ab, col, del⟩ := cd
      dsimp only at hm hdel hok hni
      subst hm hdel
      have hsl : sl = #[k0, k1, k2, k3, some (.builtin n), k5] := by
        obtain ⟨l⟩ := sl
        simp only at hs
        rw [hs]
      subst hsl
      exact ⟨bm, ns, nm, qn, bs, hd, sn, sub, ab, col, dd, k0, k1, k2, k3, k5, _, X _ _ ho, .of_isNs (isNs_of_in X hok), nsMap_none_of_in X hok hni, tail_of_in X ht⟩
    · cases q
  · cases q
section
variable {P : Program} {w : World} {K : PySem.W.Frag} {mg : Str → Option Value} {base : Heap} {N : List Str} {qual : Str} {scope : Scope} {f : Addr} {cd : Value} {A : Around} {outer : List Env} {s₀ : Shared} {H₀ : Hp} {E : XK}
end
end L2


set_option Elab.async false
set_option linter.all false
set_option maxRecDepth 100000
set_option maxHeartbeats 4000000
namespace L2
open PySem PySem.W PySem.Spec PySem.Calls PyProof.Rows
/-- a def by its body, exceptions and all -/
theorem Fun.okX {P : Program} {w : World} {K : PySem.W.Frag} {mg : Str → Option Value} {base : Heap} {CX : CXT} {x qual : Str} {st : Stmt} {f : Addr} {fd : FuncData} {N ps : List Str} {k : Nat} {sp : Sp} (F : Fun K x qual st f fd) (S : FnScope N ps (defScope st)) (len : ∀ vs H Q E, sp vs H Q E → vs.length = ps.length)
    (hbody : ∀ (cdv : Value) (A : Around) (outer : List Env) (s : Shared) (H : Hp) (vs : List V) (Q : VK) (E : XK), Room k (A.deeper (envOfC qual (defScope st) s.heap.objs.size f cdv)) → sp vs H Q E →
      ∃ t, PSs (cxOf CX P w K mg base N qual (defScope st) f cdv A outer s H E) (defBody st) t ∧ t { nx := fun _ H' => Q .non H', rt := Q } (start N vs) H) : FnOk P w K mg base CX (k + 1) f fd ps sp := by
  obtain ⟨oc, od, kV, doc, pm, an, cdv, ct, osl, rfl, lk, hcd⟩ := F.ex
  exact fn_of lk hcd S len fun A outer s H vs Q E hr hsp => hbody cdv A outer s H vs Q E hr hsp
section
variable {X : Cx} {pins : List (Addr × Obj)} {σ : St}
end
end L2


set_option Elab.async false
set_option linter.all false
set_option maxRecDepth 100000
set_option maxHeartbeats 4000000
namespace L2
open PySem PySem.W PySem.Spec PySem.Calls PyProof.Rows
section
variable {X : Cx} {pins : List (Addr × Obj)} {σ : St} {H : Hp} {s : Shared}
end
end L2


set_option Elab.async false
set_option linter.all false
set_option maxRecDepth 100000
set_option maxHeartbeats 4000000
namespace L2
open PySem PySem.W PySem.Spec PySem.Calls PyProof.Rows
section
variable {X : Cx} {k : Nat} {f C cR : Addr} {fd : FuncData} {ps : List Str} {sp : Sp} {dvs : List V} {ds : List Value} {x m n : Str} {np pos apos p2 p3 p4 : Pos} {o : Expr} {ta : TE} {ts : TS} {i : Nat} {b₀ : Stmt} {suite : List Stmt} {L : Addr}
end
end L2


set_option Elab.async false
set_option linter.all false
set_option maxRecDepth 100000
set_option maxHeartbeats 4000000
namespace L2
open PySem PySem.W PySem.Spec PySem.Calls PyProof.Rows PySem.Builtin PySem.Builtin.ObjectAttr PySem.Builtin.Getset_descriptor
section
variable {prog : Program} {w : World} {A : Around} {E : Value → Shared → Prop} {s : Shared} {K : PySem.W.Frag} {x C : Addr}
/-- what the top tells of a class of exceptions, for reading __class__ -/
structure XRead (K : PySem.W.Frag) (C : Addr) : Prop where
  ga : findIn K (.ref C) "__getattribute__" = some (some (.builtin "BaseException.__getattribute__"))
  gh : findIn K (.ref C) "__getattr__" = some none
  cl : findIn K (.ref C) "__class__" = some (some (.builtin "object.__class__"))
  gt : specialIn K (.builtin "object.__class__") "__get__" = some (some (.builtin "getset_descriptor.__get__"))
  tk : takesIn K (.builtin "object.__class__") = some true
  ob : mroIn K C (.type "object") = some true
  bx : mroIn K C (.type "BaseException") = some true
  ci : (clsIn K C).isSome = true
end
end L2


set_option Elab.async false
set_option linter.all false
set_option maxRecDepth 100000
set_option maxHeartbeats 4000000
namespace L2
open PySem PySem.W PySem.Spec PySem.Calls PyProof.Rows
section
variable {X : Cx} {C : Addr} {Bn : String}
end
end L2


set_option Elab.async false
set_option linter.all false
set_option maxRecDepth 100000
set_option maxHeartbeats 4000000
namespace L2
open PySem PySem.W PySem.Spec PySem.Calls PyProof.Rows
/-! ### exceptions with attributes of their own: their dict stays while they fly -/
def Dct (h : Heap) (e : Addr) (od : Option Addr) : Prop := ∃ o, h.get? e = some o ∧ o.dict = od
theorem dict_mapFields (o : Obj) (f : Array Value → Array Value) : (Obj.mapFields f o).dict = o.dict := by
  unfold Obj.mapFields
  split <;> rfl
section
variable {M : Model} {A : Around} {XE : Value → Shared → Prop} {s : Shared} {B : Heap} {env : Env} {outer l : List Env} {L e : Addr} {cls a0 fl : Value} {od : Option Addr} {Q : Unit → Shared → Prop}
theorem noRec {h : Heap} {e b : Addr} {oe o : Obj} {vs : Array Value} (he : h.get? e = some oe) (hd : oe.data = .fields vs) (hb : h.get? b = some o) (n : ∀ vs, o.data ≠ .fields vs) : b ≠ e := fun z => by
  subst z
  cases he.symm.trans hb
  exact n vs hd
theorem entryD {oe : Obj} {vs : Array Value} {head : Value} {hn : Bool} (fr : A.frames = some (env :: outer)) (fu : s.heap.FunFrames B (env :: outer)) (hf : env.frame = some L) (he : s.heap.get? e = some oe) (st : B.StaysIn s.heap) (ne : B.get? e = none)
    (hd : oe.data = .fields vs) (sz : 1 < vs.size) (h0 : vs[0]? = some a0) (k : ∀ h', Heap.NotedW B (env :: outer) e oe.cls a0 (rawInt L) s.heap h' → Dct h' e oe.dict → Q () { s with heap := h' }) :
    wpAny M A (do
      let a ← frameOf env
      let pl ← entryPlaceOf L hn
      let b ← EntryCells.newEntry head a .none (rawInt L) .none pl
      setField (.ref e) 1 b) Q XE s := by
  have nf : e ∉ frs (env :: outer) := fun z => by
    obtain ⟨_, o, ho, n⟩ := fu.mem z
    cases he.symm.trans ho
    exact n vs hd
  refine wpAny_bind (wpAny_frameOf_fun fr fu hf fun g kg => ?_)
  have e1 : g.get? e = some oe := (kg.2.1 e nf).trans he
  have key : ∀ (tb : Obj) (ts : Array Value), tb.data = .fields ts → ts[3]? = some (rawInt L) → wpAny M A (setField (.ref e) 1 (.ref g.objs.size)) Q XE { s with heap := g.push tb } := fun tb ts td t3 => by
    have e2 := Heap.get?_push_of_some tb e1
    have nT : g.objs.size ≠ e := Nat.ne_of_gt (Heap.lt_size e1)
    have d3 := Obj.data_mapFields hd (·.setIfInBounds 1 (Value.ref g.objs.size))
    have e3 := Heap.get?_update_self (Obj.mapFields (·.setIfInBounds 1 (Value.ref g.objs.size))) e2 (Obj.isFreed_of_fields d3)
    have hT : (g.push tb).get? g.objs.size = some tb := Heap.get?_push_size g (Obj.isFreed_of_fields td)
    have hT3 := (Heap.get?_update_other (g.push tb) (Obj.mapFields (·.setIfInBounds 1 (Value.ref g.objs.size))) nT.symm).trans hT
    have keep : ∀ b o, b ≠ e → g.get? b = some o → ((g.push tb).update e (Obj.mapFields (·.setIfInBounds 1 (Value.ref g.objs.size)))).get? b = some o := fun b o n hb => (Heap.get?_update_other _ _ n.symm).trans (Heap.get?_push_of_some _ hb)
    have stg : B.StaysIn g := fun b o hb => (kg.2.1 b fun z => by
      have := (fu.mem z).1
      rw [hb] at this
      cases this).trans (st b o hb)
    refine wpAny_setField e2 hd sz (k _ ⟨fun b o hb => keep b o (fun z => by rw [z, ne] at hb; cases hb) (stg b o hb), fu.of_keeps fun b o hb n => ?_, ?_, fun b o hb n => ?_⟩ ⟨_, e3, dict_mapFields _ _⟩)
    · obtain ⟨sl, hs⟩ := kg.2.2 b o hb
      exact ⟨_, keep b _ (noRec he hd hb n) hs, rfl⟩
    · exact ⟨_, _, g.objs.size, _, _, e3, ⟨Obj.cls_mapFields _ _, by rw [Array.getElem?_setIfInBounds_ne (by decide)]; exact h0⟩, d3, by simp [sz], stg.fresh, nT, hT3, td, t3⟩
    · obtain ⟨sl, hs⟩ := kg.2.2 b o hb
      exact ⟨sl, keep b _ (noRec he hd hb n) hs⟩
  refine wpAny_bind (wpAny_entryPlaceOf fun pl hp => ?_)
  unfold EntryCells.newEntry newFields
  refine wpAny_bind (wpAny_newObj_type ?_ (hp.sizeOk5 _ _ _ _ _))
  exact key _ _ rfl (by first | (simp; done) | (rcases hp with rfl | ⟨_, _, _, _, _, _, _, rfl⟩ <;> simp))
theorem noteFirstD {oe : Obj} {vs : Array Value} (fr : A.frames = some (env :: outer)) (fu : s.heap.FunFrames B (env :: outer)) (hf : env.frame = some L) (he : s.heap.get? e = some oe) (st : B.StaysIn s.heap) (ne : B.get? e = none)
    (hd : oe.data = .fields vs) (h1 : vs[1]? = some .none) (h0 : vs[0]? = some a0) (k : ∀ h', Heap.NotedW B (env :: outer) e oe.cls a0 (rawInt L) s.heap h' → Dct h' e oe.dict → Q () { s with heap := h' }) :
    wpAny M A (noteFrame (.ref e) env) Q XE s := by
  unfold noteFrame
  simp only [hf]
  refine wpAny_bind (wpAny_field he hd h1 ?_)
  rw [if_neg (by decide)]
  exact entryD fr fu hf he st ne hd (Array.getElem?_eq_some_iff.mp h1).1 h0 k
theorem flightD (st : B.StaysIn s.heap) (fu : s.heap.FunFrames B l) (tr : s.heap.TracedAtW B e cls a0 fl) (dc : Dct s.heap e od)
    (k : ∀ h', B.StaysIn h' → h'.FunFrames B l → h'.TracedW B e cls a0 → (∀ b o, s.heap.get? b = some o → (∀ vs, o.data ≠ .fields vs) → h'.get? b = some o) → Dct h' e od → Q () { s with heap := h' }) : wpAny M A (setFlight (.ref e) none) Q XE s := by
  obtain ⟨oe, vs, T, oT, ts, he, hc, hd, h1, nT, Te, hT, dT, h3⟩ := tr
  obtain ⟨oe', he', hod⟩ := dc
  cases he.symm.trans he'
  have sz : 3 < ts.size := (Array.getElem?_eq_some_iff.mp h3).1
  have oth : ∀ b, b ≠ T → (s.heap.update T (Obj.mapFields (·.setIfInBounds 3 ((none : Option Addr).elim Value.none fun f => rawInt f)))).get? b = s.heap.get? b := fun b n => Heap.get?_update_other _ _ n.symm
  unfold setFlight
  refine wpAny_bind (wpAny_field he hd h1 ?_)
  rw [if_pos (by simp)]
  refine wpAny_setField hT dT sz (k _ (fun b o hb => (oth b fun z => by
    rw [z, nT] at hb
    cases hb).trans (st b o hb)) (fu.of_keeps fun b o hb n => ⟨o, (oth b (noRec hT dT hb n)).trans hb, rfl⟩) ?_ (fun b o hb n => (oth b (noRec hT dT hb n)).trans hb) ⟨oe, (oth e Te.symm).trans he, hod⟩)
  exact ⟨oe, vs, T, _, _, (oth e Te.symm).trans he, hc, hd, h1, nT, Te, Heap.get?_update_self _ hT (Obj.isFreed_of_fields (Obj.data_mapFields dT _)), Obj.data_mapFields dT _, by simp [sz]⟩
/-- it leaves the frame in which it was made -/
theorem leavesD {oe : Obj} {vs : Array Value} (fr : A.frames = some (env :: outer)) (fu : s.heap.FunFrames B (env :: outer)) (hf : env.frame = some L) (he : s.heap.get? e = some oe) (st : B.StaysIn s.heap) (ne : B.get? e = none)
    (hd : oe.data = .fields vs) (h1 : vs[1]? = some .none) (h0 : vs[0]? = some a0) (k : ∀ h', B.FlyingW outer e oe.cls a0 h' → s.heap.UpToSlots h' → Dct h' e oe.dict → Q () { s with heap := h' }) : wpAny M A (leaving env (.ref e)) Q XE s := by
  unfold leaving
  refine wpAny_bind (noteFirstD fr fu hf he st ne hd h1 h0 fun h1 q dc => ?_)
  exact flightD (s := { s with heap := h1 }) q.1 q.2.1 q.2.2.1 dc fun h2 a b c d dc2 => k h2 ⟨a, ne, b.2.2, c⟩ (Heap.UpToSlots.trans q.2.2.2 fun b o hb n => ⟨o.slots, d b o hb n⟩) dc2
end
end L2


set_option Elab.async false
set_option linter.all false
set_option maxRecDepth 100000
set_option maxHeartbeats 4000000
namespace L2
open PySem PySem.W PySem.Spec PySem.Calls PyProof.Rows
/-! ### own exceptions with an __init__ of their own: made, told of, written to, read -/
abbrev vmVE : List Value := [.type "ValueError", .type "Exception", .type "BaseException", .type "object"]
/-- an exception's object, its arguments at t -/
abbrev eO (C t : Addr) (od : Option Addr) : Obj := { cls := .ref C, dict := od, data := .fields #[.ref t, .none, .none, .none, .bool false, .none] }
/-- the class C, an own one right under the own class R, that under ValueError; its __init__ is its own, R has none -/
structure XIni (K : PySem.W.Frag) (C R fI : Addr) : Prop where
  lk : ∃ dd nm bs ns qn sn sub ab col k0 k1 k2 k3 k5, K.lookup C = some ⟨.type "type", dd, .cls ⟨nm, bs, .ref C :: .ref R :: vmVE, ns, qn, true, sn, sub, ab, col, false⟩, #[k0, k1, k2, k3, some (.builtin "ValueError.__new__"), k5]⟩
  ini : findIn K (.ref C) "__init__" = some (some (.ref fI))
  fn : typeIn K (.ref fI) = some (.type "function")
  row : XCls K R vmVE "ValueError.__new__"
  rtl : mroIn K R (.type "object") = some true
  sa : findIn K (.ref C) "__setattr__" = some (some (.builtin "object.__setattr__"))
  na : takerIn K C "at" = some none
  nat : findIn K (.ref C) "at" = some none
  hd : hasDictIn K C = true
  rd : XRead K C
  sg : specialIn K (.ref R) "__getattribute__" = some (some (.builtin "type.__getattribute__"))
  rr : readsIn K R (.type "type") = true
  fi : findCls K (.ref R) (.type "type") "__init__" = some (.val (.builtin "ValueError.__init__"))
section
variable {K : PySem.W.Frag} {C R fI : Addr} {h : Heap}
theorem XIni.obj (c : XIni K C R fI) (X : K.In h) : ∃ N nm q bs sn sub ab col dd k0 k1 k2 k3 k5, h.get? C = some (excClassObj nm q C N bs (.ref R :: vmVE) true sn sub ab col dd k0 k1 k2 k3 k5 "ValueError.__new__") := by
  obtain ⟨dd, nm, bs, ns, qn, sn, sub, ab, col, k0, k1, k2, k3, k5, e⟩ := c.lk
  exact ⟨ns, nm, qn, bs, sn, sub, ab, col, dd, k0, k1, k2, k3, k5, X _ _ e⟩
theorem XIni.tail (c : XIni K C R fI) (X : K.In h) : OwnTail h vmVE (.ref R :: vmVE) := by
  obtain ⟨bm, N, nm, q, bs, hdct, sn, sub, ab, col, dd, k0, k1, k2, k3, k5, mN, hR, hN, hni, _⟩ := c.row.obj X
  exact .own hR hN hni .base
variable {prog : Program} {w : World} {A : Around} {XE : Value → Shared → Prop} {s : Shared}
theorem type_call_ini (c : XIni K C R fI) (X : K.In s.heap) {rest : List Value} {Q : Fin → Shared → Prop} (hz : rest.length ≤ sizeLine)
    (k : wpAny (model prog w) A (call (.ref fI) (.ref (s.heap.objs.size + 1) :: rest)) (fun r s' => r = .none ∧ Q (.done (.ret (.ref (s.heap.objs.size + 1)))) s') XE { s with heap := (s.heap.push { cls := .type "tuple", data := .seq rest.toArray }).push (eO C s.heap.objs.size none) }) :
    wpAny (model prog w) A (Builtin.«type.__call__» ⟨.ref C :: rest, []⟩) Q XE s := by
  obtain ⟨N, nm, q, bs, sn, sub, ab, col, dd, k0, k1, k2, k3, k5, hC⟩ := c.obj X
  have T := c.tail X
  have F := PySem.F.excBase_ValueError
  obtain ⟨h, g, d, t, os⟩ := s
  dsimp only at hC T X k ⊢
  repeat (first | with_reducible refine wpAny_loadPart_at hC ?_ | with_reducible refine wpAny_madeBy_exc hC ?_ | wp_step)
  refine codeAny_call_builtin_code (Code.quiet_builtin _ F.quiet) (wpAny_check_new_subT F T hC ?_)
  refine codeAny_exc_new_subT F T hC ?_ hz
  show wpAny _ _ _ _ _ _
  have kp : ∀ b o, h.get? b = some o → ((h.push { cls := .type "tuple", data := .seq rest.toArray }).push (eO C h.objs.size none)).get? b = some o := fun b o e => Heap.get?_push_of_some _ (Heap.get?_push_of_some _ e)
  have X1 := X.keeps kp
  have hC1 := kp _ _ hC
  have he : ((h.push { cls := .type "tuple", data := .seq rest.toArray }).push (eO C h.objs.size none)).get? (h.objs.size + 1) = some (eO C h.objs.size none) := by heap_get
  have hcC : (Value.ref C :: .ref R :: vmVE).contains (.ref C) = true := by simp
  unfold isInstance
  repeat (first | with_reducible refine wpAny_loadPart_at he ?_ | (with_reducible refine wpAny_isSubtype_exc hC1 ?_; rw [hcC]) | wp_step)
  show wpAny _ _ (typeLookup (.ref C) _) _ _ _
  refine (looks_findIn X1 c.ini).here ?_
  refine wpAny_holding (wpAny_bind ?_)
  unfold bindSpecial
  refine wpAny_bind ((looks_typeIn X1 c.fn).here ?_)
  rw [if_pos (by decide)]
  refine wpAny_pure (wpAny_bind (wpAny_mono k (fun r s' hr => ?_) fun _ _ x => x))
  obtain ⟨rfl, hQ⟩ := hr
  wp_walk
  exact hQ
theorem call_ini (c : XIni K C R fI) (X : K.In s.heap) {rest : List Value} {Q : Value → Shared → Prop} (hz : rest.length ≤ sizeLine)
    (k : wpAny (model prog w) (A.under (.builtin "type.__call__" ⟨.ref C :: rest, []⟩)) (call (.ref fI) (.ref (s.heap.objs.size + 1) :: rest)) (fun r s' => r = .none ∧ Q (.ref (s.heap.objs.size + 1)) s') XE { s with heap := (s.heap.push { cls := .type "tuple", data := .seq rest.toArray }).push (eO C s.heap.objs.size none) }) :
    wpAny (model prog w) A (call (.ref C) rest) Q XE s := by
  obtain ⟨N, nm, q, bs, sn, sub, ab, col, dd, k0, k1, k2, k3, k5, hC⟩ := c.obj X
  have f1 := tc_lookup
  have f2 := tc_bind (.ref C)
  have hT : s.TypeIs (.ref C) "type" := ⟨_, hC, rfl⟩
  refine wpAny_call (codeAny_of_tree ?_)
  show wpAny _ _ (callAny (.ref C) _) _ _ _
  have k2 := fun Q' k' => type_call_ini (prog := prog) (w := w) (A := A.under (.builtin "type.__call__" ⟨.ref C :: rest, []⟩)) (XE := XE) c X (rest := rest) (Q := Q') hz k'
  obtain ⟨h, g, d, t, os⟩ := s
  dsimp only at hC hT X k k2 ⊢
  repeat (any_goals (first | assumption | with_reducible refine wpAny_loadPart_at hC ?_ | wp_step))
  refine ⟨rfl, ?_⟩
  exact codeAny_call_builtin_at (Code.quiet_builtin _ (by decide +kernel)) entry_typeCall (wpAny_check_type_call_sub hC (k2 _ k))
theorem base_ini (c : XIni K C R fI) (X : K.In s.heap) {e t : Addr} {m : Value} {Q : Value → Shared → Prop} (he : s.heap.get? e = some (eO C t none))
    (k : ∀ h', (∀ b o, b ≠ e → s.heap.get? b = some o → h'.get? b = some o) → h'.get? e = some (eO C s.heap.objs.size none) → Q .none { s with heap := h' }) :
    wpAny (model prog w) A (call (.builtin "ValueError.__init__") [.ref e, m]) Q XE s := by
  obtain ⟨N, nm, q, bs, sn, sub, ab, col, dd, k0, k1, k2, k3, k5, hC⟩ := c.obj X
  have T := c.tail X
  have F := PySem.F.excBase_ValueError
  obtain ⟨h, g, d, tk, os⟩ := s
  dsimp only at hC T X k he ⊢
  refine wpAny_call (codeAny_call_builtin F.init.plain F.initEntry (wpAny_check_init_subT F T hC he rfl ?_))
  have he2 := Heap.get?_push_of_some { cls := .type "tuple", data := .seq #[m] } he
  repeat (first | with_reducible refine wpAny_setField he2 rfl (by decide) ?_ | wp_step)
  refine k _ (fun b o n hb => ?_) ?_
  · rw [Heap.get?_update_other _ _ (Ne.symm n)]
    exact Heap.get?_push_of_some _ hb
  · rw [Heap.get?_update_self _ he2 rfl]
    rfl
/-- x.at = v, the first attribute of an own exception -/
theorem set_at (c : XIni K C R fI) (X : K.In s.heap) {e t : Addr} {v : Value} {Q : Unit → Shared → Prop} (he : s.heap.get? e = some (eO C t none))
    (k : ∀ h' tk', (∀ b o, b ≠ e → s.heap.get? b = some o → h'.get? b = some o) → h'.get? e = some (eO C t (some s.heap.objs.size)) → h'.Ns1 s.heap.objs.size (fun y => if y = "at" then some v else none) → Q () { s with heap := h', toks := tk' }) :
    wpAny (model prog w) A (setAttr (.ref e) "at" v) Q XE s := by
  obtain ⟨N, nm, q, bs, sn, sub, ab, col, dd, k0, k1, k2, k3, k5, hC⟩ := c.obj X
  have SF := PySem.F.store_ValueError
  have J : InstAt s.heap e (eO C t none) C none := ⟨he, rfl, rfl, True.intro⟩
  refine set_plain X J c.sa ?_
  have hm : Looks (model prog w) s.heap (mroOf (.ref C)) (.ref C :: .ref R :: vmVE) := (Looks.ld hC).andThen .now
  have sub' : Looks (model prog w) s.heap (isInstance (.ref e) (.type "object")) true := J.type.andThen (looks_mroIn X c.rd.ob)
  refine codeAny_call_builtin SF.slot.plain SF.entry (@check_slot (model prog w) _ _ { s with toks := s.toks + 1 } "object.__setattr__" "object" "__setattr__" (.ref e) [.str "at" s.toks, v] [] _ SF.kind SF.split sub' (SF.args (.ref e) (.str "at" s.toks) v) ?_)
  rw [osa_eq, refuse_eq]
  refine wpAny_bind (wpAny_bind (Looks.here (s := { s with toks := s.toks + 1 }) J.type (wpAny_bind (Looks.here (s := { s with toks := s.toks + 1 }) hm ?_))))
  rw [refuseLoop_ref, refuseLoop_ref, SF.passes]
  refine wpAny_pure (wpAny_bind (Looks.here (s := { s with toks := s.toks + 1 }) J.type (wpAny_bind (Looks.here (s := { s with toks := s.toks + 1 }) (looks_findIn X c.nat) ?_))))
  refine wpAny_bind (wpAny_pure ?_)
  have hc : clsIn K C = some ⟨nm, bs, .ref C :: .ref R :: vmVE, N, q, true, sn, sub, ab, col, false⟩ := by
    obtain ⟨dd', nm', bs', ns', qn', sn', sub', ab', col', k0', k1', k2', k3', k5', e'⟩ := c.lk
    have := X _ _ e'
    rw [hC] at this
    cases this
    unfold clsIn
    rw [e']
  refine wpAny_bind (wpAny_pure (wpAny_bind (wpAny_bind (wpAny_loadPart he (wpAny_bind (Looks.here (s := { s with toks := s.toks + 1 }) (looks_clsIn X hc) ?_))))))
  rw [if_neg (by simp)]
  show wpAny _ _ (if (!true || !typeHasDict (Value.ref C)) = true then pure none else _) _ _ _
  rw [if_neg (by simp [typeHasDict])]
  have hs0 : e ≠ s.heap.objs.size := Nat.ne_of_lt (Heap.lt_size he)
  have he1 := Heap.get?_push_of_some { cls := .type "dict", data := .dict #[] } he
  refine wpAny_bind (wpAny_alloc' ?_)
  refine wpAny_bind (wpAny_update' he1 ?_)
  refine wpAny_pure ?_
  have he2 : ((s.heap.push { cls := .type "dict", data := .dict #[] }).update e fun o => { cls := o.cls, dict := some s.heap.objs.size, data := o.data, slots := o.slots }).get? e = some (eO C t (some s.heap.objs.size)) := Heap.get?_update_self _ he1 rfl
  have hd2 : ((s.heap.push { cls := .type "dict", data := .dict #[] }).update e fun o => { cls := o.cls, dict := some s.heap.objs.size, data := o.data, slots := o.slots }).get? s.heap.objs.size = some { cls := .type "dict", data := .dict #[] } :=
    (Heap.get?_update_ne _ _ _ _ hs0.symm).trans (Heap.get?_push_at rfl rfl)
  have kp : ∀ b o, b ≠ e → s.heap.get? b = some o → ((s.heap.push { cls := .type "dict", data := .dict #[] }).update e fun o => { cls := o.cls, dict := some s.heap.objs.size, data := o.data, slots := o.slots }).get? b = some o := fun b o n hb =>
    (Heap.get?_update_ne _ _ _ _ n).trans (Heap.get?_push_of_some _ hb)
  generalize ((s.heap.push { cls := .type "dict", data := .dict #[] }).update e fun o => { cls := o.cls, dict := some s.heap.objs.size, data := o.data, slots := o.slots }) = h2 at he2 hd2 kp ⊢
  have nd : h2.Ns s.heap.objs.size (fun _ => none) := ⟨_, #[], _, hd2, rfl, fun e he => absurd he (by simp), fun _ => rfl⟩
  show wpAny _ _ (Builtin.ObjectAttr.storeInDict s.heap.objs.size (.str "at" s.toks) "at" v) _ _ _
  unfold Builtin.ObjectAttr.storeInDict Builtin.ObjectAttr.newKeyGuard
  refine wpAny_bind (wpAny_pure (wpAny_bind (wpAny_nsSet1 (Heap.Ns1.of_empty nd) fun h3 hn3 hs3 => ?_)))
  obtain ⟨oD, esD, epD, hoD, hdD, hcD⟩ := hn3.count (Within.cons "at" v Within.nil)
  refine wpAny_bind (wpAny_lookBehind hoD (by rw [hdD]; exact pastItsLine_dict (Nat.le_trans hcD (by rw [List.length_cons, List.length_nil, sizeLine_eq]; omega))) ?_)
  refine wpAny_pure ?_
  exact k h3 _ (fun b o n hb => (hs3.2 b (Nat.ne_of_lt (Heap.lt_size hb))).trans (kp b o n hb)) ((hs3.2 e hs0).trans he2) hn3
end
end L2


set_option Elab.async false
set_option linter.all false
set_option maxRecDepth 100000
set_option maxHeartbeats 4000000
namespace L2
open PySem PySem.W PySem.Spec PySem.Calls PyProof.Rows
/-- an own exception being made: as yet without attributes, or with the dict d -/
def excM (e C : Addr) : HO := .ext fun h => ∃ t, h.get? e = some (eO C t none)
def excN (e C d : Addr) : HO := .ext fun h => ∃ t, h.get? e = some (eO C t (some d))
theorem excM_ok {P : Program} {w : World} {H : Hp} {h : Heap} {e C t : Addr} (x : h.get? e = some (eO C t none)) : ObjOk P w H h e (excM e C) :=
  ⟨⟨t, x⟩, ⟨_, x⟩, fun h1 h2 ⟨t', a⟩ k => ⟨t', k _ a⟩⟩
theorem excN_ok {P : Program} {w : World} {H : Hp} {h : Heap} {e C t d : Addr} (x : h.get? e = some (eO C t (some d))) : ObjOk P w H h e (excN e C d) :=
  ⟨⟨t, x⟩, ⟨_, x⟩, fun h1 h2 ⟨t', a⟩ k => ⟨t', k _ a⟩⟩
section
variable {X : Cx} {C R fI : Addr} {x : Str} {e v2 : Expr} {es : List Expr} {t : TA} {te : TE} {np apos pos p1 p2 p3 : Pos} {cc : Str} {j : Nat}
/-- f'..{e}', e a number -/
def tFstr (te : TE) : TE := fun σ H Q => te σ H fun v H1 => ∃ i : Int, v = .int i ∧ i.natAbs < 10 ^ 12 ∧ ∀ u : Str, Q (.str u) H1
theorem pe_fstr (he : PE X e te) (hc : cc.length ≤ 1000) : PE X (.JoinedStr [.Constant (.str cc) j p1, .FormattedValue e (-1) none p2] p3) (tFstr te) := by
  intro pins s σ H Q I h
  refine JoinedStr_many (joinParts_cons (Constant_str ⟨?_, joinParts_cons (FormattedValue_plain (thn (he pins _ σ H _ (I.tok _) h) fun u s1 ⟨v, H1, I1, r1, i, ev, hi, q⟩ => ?_))⟩))
  · rw [strLen_append]
    have : (Str.empty).length = 0 := rfl
    rw [sizeLine_eq]
    omega
  · subst ev
    obtain ⟨tk, rfl⟩ := (show ∃ tk, u = Value.int i tk from r1)
    have hl : i.natAbs.log2 < 1920 := by
      by_cases z : i.natAbs = 0
      · rw [z]; decide
      · refine (Nat.log2_lt z).mpr (Nat.lt_of_lt_of_le hi ?_)
        exact Nat.le_trans (show 10 ^ 12 ≤ 2 ^ 40 by decide) (Nat.pow_le_pow_right (by decide) (by decide))
    refine formatField_int_small hl ⟨?_, joinParts_nil ⟨.str _, H1, I1.tok _, ⟨_, rfl⟩, q _⟩ ?_⟩
    all_goals
      have h10 := int_text_length_le10 (a := i) (k := 12) (by decide) hi
      have h11 : (Str.ofString (toString i)).length = (toString i).length := PySem.ofString_length _
      have h12 : (Str.empty).length = 0 := rfl
      rw [strLen_append, strLen_append, sizeLine_eq, h11]
      omega
/-- RowError.__init__(self, ..) -/
def tXini (C : Addr) (t : TA) : TE := fun σ H Q => t σ H fun vs H1 => ∃ e y, vs = [.ref e, y] ∧ H1 e = some (excM e C) ∧ Q .non (upd H1 e (excM e C))
theorem pe_xini {pl : Sem Bool} (c : XIni X.K C R fI) (hg : Gl X x) (hm : X.mg x = some (.ref R)) (ha : PA X (e :: es) t)
    (ht : eval (.Call (.Attribute (.Name x np) "__init__" apos) (e :: es) [] pos) X.env = (do
      let ov ← eval (.Name x np) X.env
      standAt apos.atName
      let (f, first) ← holding [ov] (getMethod ov "__init__" pl)
      callWith pos f first (backTo pos (starEach (e :: es) X.env)) (backToKw pos (keywordEach [] X.env))) := by rfl)
    (he : starEach (e :: es) X.env = (false, eval e X.env) :: starEach es X.env := by rfl) (hpl : (backTo pos (starEach es X.env)).any (·.1) = false := by rfl) (hdb : (x == ("__debug__" : Str)) = false := by decide) :
    PE X (.Call (.Attribute (.Name x np) "__init__" apos) (e :: es) [] pos) (tXini C t) := by
  intro pins s σ H Q I h
  refine methodCall_KW (pl := pl) (ld_glob I hg hm ?_ hdb) ht
  refine method_cls I.kIn c.sg (cls_value I.kIn c.rr c.fi rfl ?_)
  refine callWith_builtin1 (thn (ha pos pins _ σ H _ (I.tok _) h) fun us s1 ⟨vs, H1, I1, r1, e0, y, ev, hx, q⟩ => ?_) he hpl
  subst ev
  cases r1 with
  | cons r1 r2 =>
    cases r2 with
    | cons r2 r3 =>
      cases r3
      obtain rfl : _ = Value.ref e0 := r1
      obtain ⟨t0, ht0⟩ := (I1.hok e0 _ hx).1
      exact base_ini c I1.kIn ht0 fun h' kp e2 => ⟨.non, _, I1.write (x := e0) (e := e0) (t' := s1.toks) (by rw [hx]; exact True.intro) (.inl rfl) kp ⟨_, e2⟩ (excM_ok e2), rfl, q⟩
/-- self.at = e -/
def sXat (C : Addr) (ta tv : TE) : TS := fun D σ H => tv σ H fun y H1 => ta σ H1 fun z H2 => ∃ e0, z = .ref e0 ∧ H2 e0 = some (excM e0 C) ∧ ∀ d, H2 d = none → d ≠ e0 → D.nx σ (upd (upd H2 d (.xd [("at", y)])) e0 (excN e0 C d))
theorem RelO_at {y : V} {u : Value} (r : RelV y u) (f : Str) : RelO (([("at", y)] : List (Str × V)).lookup f) (if f = "at" then some u else none) := by
  by_cases h : f = "at"
  · subst h
    rw [if_pos rfl, List.lookup_cons_self]
    exact r
  · rw [if_neg h, List.lookup_cons, show (f == ("at" : Str)) = false from beq_eq_false_iff_ne.mpr h]
    exact True.intro
theorem ps_xat {o value : Expr} {ta tv : TE} {pos' : Pos} (c : XIni X.K C R fI) (ha : PE X o ta) (hv : PE X value tv) (hs : swapsWith value (some (.Attribute o "at" pos')) pos.line X.env = pure false) : PS X (.Assign [.Attribute o "at" pos'] value pos) (sXat C ta tv) := by
  intro pins s σ H D I h
  refine plainObj_wpAny_Assign_Attribute (thn (hv pins s σ H _ I h) fun u s1 ⟨y, H1, I1, ry, q⟩ => thn (ha pins s1 σ H1 _ I1 q) fun ov s2 ⟨z, H2, I2, rz, e0, ez, hx, q2⟩ => ?_) hs
  subst ez
  obtain rfl : ov = Value.ref e0 := rz
  obtain ⟨t0, ht0⟩ := (I2.hok e0 _ hx).1
  refine set_at c I2.kIn ht0 fun h' tk kp e2 ns => ?_
  have n0 : s2.heap.objs.size ≠ e0 := Nat.ne_of_gt (Heap.lt_size ht0)
  obtain ⟨oD, esD, epD, hoD, rD⟩ := id ns
  have fr : oD.isFreed = false := (Heap.get?_some_iff.mp hoD).2
  have g1 : (s2.heap.push oD).get? s2.heap.objs.size = some oD := Heap.get?_push_size s2.heap fr
  have I3 := I2.laid (a := s2.heap.objs.size) (o := .xd [("at", y)]) (h' := s2.heap.push oD) (t' := tk) (fun b u e => Heap.get?_push_of_some _ e) (Nat.le_refl _) ⟨_, ⟨oD, esD, epD, g1, rD⟩, RelO_at ry⟩
  have I4 := I3.write (x := e0) (e := e0) (o := excN e0 C s2.heap.objs.size) (h' := h') (t' := tk) (by rw [upd_ne n0.symm, hx]; exact True.intro) (.inl rfl) (fun b u n e => ?_) ⟨_, e2⟩ (excN_ok e2)
  · exact ⟨σ, _, I4, q2 _ I2.fresh n0⟩
  · by_cases hb : b = s2.heap.objs.size
    · subst hb
      rw [g1] at e
      cases e
      exact hoD
    · refine kp b u n ?_
      rw [← e]
      exact (Heap.get?_push_ne _ _ _ hb).symm
end
end L2


set_option Elab.async false
set_option linter.all false
set_option maxRecDepth 100000
set_option maxHeartbeats 4000000
namespace L2
open PySem PySem.W PySem.Spec PySem.Calls PyProof.Rows
/-- what the __init__ of such a class does -/
def spXI (C : Addr) : Sp := fun vs H Q _ => ∃ (e : Addr) (i : Int), vs = [.ref e, .int i] ∧ H e = some (excM e C) ∧ i.natAbs < 10 ^ 12 ∧ ∀ d, H d = none → d ≠ e → Q .non (upd (upd H d (.xd [("at", .int i)])) e (excN e C d))
theorem upd3 {H : Hp} {e d : Addr} {a b c : HO} (n : d ≠ e) : upd (upd (upd H e a) d b) e c = upd (upd H d b) e c := by
  funext x
  unfold upd
  by_cases h : x = e
  · simp [h]
  · by_cases h2 : x = d
    · simp [h, h2]
    · simp [h, h2]
/-- a heap without e -/
def rm (H : Hp) (e : Addr) : Hp := fun c => if c = e then none else H c
theorem rm_ne {H : Hp} {e c : Addr} (h : c ≠ e) : rm H e c = H c := by
  unfold rm
  rw [if_neg h]
theorem rm_same {H : Hp} {e : Addr} : rm H e e = none := by
  unfold rm
  rw [if_pos rfl]
theorem rm_upd2 {H : Hp} {e d : Addr} {a b : HO} (n : d ≠ e) (he : H e = none) : rm (upd (upd H d a) e b) e = upd H d a := by
  funext x
  by_cases h : x = e
  · subst h
    rw [rm_same, upd_ne n.symm, he]
  · rw [rm_ne h, upd_ne h]
/-- it flies over B; B has all that stood at the call (but the callers' frames) and all that is tracked; od its dict -/
def CX2 (P : Program) (w : World) : CXT := fun outer H s E e s' => ∃ (ea : Addr) (cls a0 : Value) (od : Option Addr) (H' : Hp) (B : Heap), e = .ref ea ∧ B.FlyingW outer ea cls a0 s'.heap ∧ Dct s'.heap ea od ∧
  (∀ b o, s.heap.get? b = some o → b ∉ frs outer → ∃ o', B.get? b = some o') ∧ (∀ b o, H' b = some o → ∃ o', B.get? b = some o') ∧
  s'.os = s.os ∧ AllBare s'.gens ∧ Un (frs outer) [] H H' s.heap s'.heap ∧ HOk P w H' s'.heap ∧ E cls od H'
section
variable {X : Cx} {C R f : Addr} {fd : FuncData} {k : Nat}
/-- C(i), its __init__ run -/
theorem run_mkx {pins : List (Addr × Obj)} {σ : St} {H : Hp} {s : Shared} {i : Int} {us : List Value} {Q : VK} {XE : Value → Shared → Prop} (c : XIni X.K C R f) (F : FnOk X.prog X.w X.K X.mg X.base CX0 k f fd ["self", "at"] (spXI C)) (hr : Room (k + 1) X.A) (hb : Binds X.K fd ["self", "at"] []) (I : Inv X pins σ H s) (r : Vals [.int i] us) (hi : i.natAbs < 10 ^ 12)
    (h : ∀ e d, s.heap.objs.size ≤ e → H e = none → H d = none → d ≠ e → Q (.ref e) (upd (upd H d (.xd [("at", .int i)])) e (excN e C d))) : wpAny (model X.prog X.w) X.A (call (.ref C) us) (EP X pins σ Q) XE s := by
  have hz : us.length ≤ sizeLine := by
    rw [← r.length, sizeLine_eq]
    show 1 ≤ 16777216
    decide
  have I1 := I.kept (t' := s.toks) (h' := s.heap.push { cls := .type "tuple", data := .seq us.toArray }) (fun b u e => Heap.get?_push_of_some _ e)
  have he : ((s.heap.push { cls := .type "tuple", data := .seq us.toArray }).push (eO C s.heap.objs.size none)).get? (s.heap.objs.size + 1) = some (eO C s.heap.objs.size none) := by heap_get
  have I2 := I1.laid (a := s.heap.objs.size + 1) (o := excM (s.heap.objs.size + 1) C) (t' := s.toks) (h' := (s.heap.push { cls := .type "tuple", data := .seq us.toArray }).push (eO C s.heap.objs.size none)) (fun b u e => Heap.get?_push_of_some _ e) (Nat.le_of_eq (Heap.size_push _ _)) (excM_ok he)
  have hn : H (s.heap.objs.size + 1) = none := I.hok.fresh (Nat.le_succ _)
  have r2 : Vals (V.ref (s.heap.objs.size + 1) :: [V.int i]) (Value.ref (s.heap.objs.size + 1) :: us) := .cons rfl r
  have hl : (Value.ref (s.heap.objs.size + 1) :: us ++ []).length = ["self", "at"].length := by
    have e := r2.length
    rw [List.append_nil]
    exact e.symm
  have hq : spXI C [V.ref (s.heap.objs.size + 1), V.int i] (upd H (s.heap.objs.size + 1) (excM (s.heap.objs.size + 1) C)) (fun v H2 => v = .non ∧ Q (.ref (s.heap.objs.size + 1)) H2) E0 := by
    refine ⟨_, i, rfl, upd_same, hi, fun d hd ne => ⟨rfl, ?_⟩⟩
    rw [upd3 ne]
    rw [upd_ne ne] at hd
    exact h _ d (Nat.le_succ _) hn hd ne
  refine call_ini c I.kIn hz (wpAny_call (codeAny_mono (F.run _ X.stack _ _ ⟨Value.ref (s.heap.objs.size + 1) :: us, []⟩ (Value.ref (s.heap.objs.size + 1) :: us) _ _ E0 (hr.make C us []) (I2.env0.make C us []) (by have := hb _ (Value.ref (s.heap.objs.size + 1) :: us) I2.kIn hl; rw [List.append_nil] at this; exact this) r2 hq) fun r s' hq' => ?_))
  cases r with
  | error e => exact False.elim hq'
  | ok fl =>
    cases fl with
    | ret u =>
      obtain ⟨v, H', I3, rv, ev, q3⟩ := I2.after hq'
      subst ev
      exact ⟨rv, ⟨V.ref (s.heap.objs.size + 1), H', I3, rfl, q3⟩⟩
    | next => exact False.elim hq'
    | brk => exact False.elim hq'
    | cont => exact False.elim hq'
theorem raise_made {M : Model} {A : Around} {XE : Value → Shared → Prop} {K : PySem.W.Frag} {s : Shared} {env : Env} {z : Sem Value} {Q : Flow → Shared → Prop} (c : XIni K C R f) (hh : A.handled = none)
    (h : wpAny M A z (fun v s1 => ∃ e t od, v = .ref e ∧ K.In s1.heap ∧ s1.heap.get? e = some (eO C t od) ∧ XE (.ref e) s1) XE s) : wpAny M A (raiseStmt env (some z) none) Q XE s := by
  have hcB : (Value.ref C :: .ref R :: vmVE).contains (.type "BaseException") = true := by simp
  unfold raiseStmt
  refine wpAny_bind (wpAny_mono h (fun v s1 h1 => ?_) fun _ _ x => x)
  obtain ⟨e, t, od, rfl, X, he, hE⟩ := h1
  obtain ⟨N, nm, q, bs, sn, sub, ab, col, dd, k0, k1, k2, k3, k5, hC⟩ := c.obj X
  obtain ⟨hp, g, d, tk, os⟩ := s1
  dsimp only at hC he X
  repeat (first | with_reducible refine wpAny_loadPart_at he ?_ | with_reducible refine wpAny_loadPart_at hC ?_ | (with_reducible refine wpAny_isSubtype_exc hC ?_; rw [hcB]) | wp_step)
  exact wpAny_raiseNew_none hh hE
end
end L2


set_option Elab.async false
set_option linter.all false
set_option maxRecDepth 100000
set_option maxHeartbeats 4000000
namespace L2
open PySem PySem.W PySem.Spec PySem.Calls PyProof.Rows
/-- raise C(i) -/
def sRaiseC (C : Addr) (t : TA) (E : XK) : TS := fun _ σ H => t σ H fun vs H1 => ∃ i : Int, vs = [.int i] ∧ i.natAbs < 10 ^ 12 ∧ ∀ d, H1 d = none → E (.ref C) (some d) (upd H1 d (.xd [("at", .int i)]))
section
variable {P : Program} {w : World} {K : PySem.W.Frag} {mg : Str → Option Value} {base : Heap} {N : List Str} {qual : Str} {scope : Scope} {f : Addr} {cd : Value} {A : Around} {outer : List Env} {s₀ : Shared} {H₀ : Hp} {E : XK}
theorem ps_raiseC {C R fI : Addr} {fd : FuncData} {k : Nat} {x : Str} {np cpos pos : Pos} {a : Expr} {as : List Expr} {t : TA} (c : XIni K C R fI) (kp : keepIn K (.ref C) = true) (F : FnOk P w K mg base CX0 k fI fd ["self", "at"] (spXI C)) (hb : Binds K fd ["self", "at"] []) (hr : Room (k + 1) (A.deeper (envOfC qual scope s₀.heap.objs.size f cd))) (hm : mg x = some (.ref C))
    (hg : Gl (cxOf (CX2 P w) P w K mg base N qual scope f cd A outer s₀ H₀ E) x) (ha : PA (cxOf (CX2 P w) P w K mg base N qual scope f cd A outer s₀ H₀ E) (a :: as) t) (hd : (x == ("__debug__" : Str)) = false := by decide)
    (he : starEach (a :: as) (cxOf (CX2 P w) P w K mg base N qual scope f cd A outer s₀ H₀ E).env = (false, eval a (cxOf (CX2 P w) P w K mg base N qual scope f cd A outer s₀ H₀ E).env) :: starEach as (cxOf (CX2 P w) P w K mg base N qual scope f cd A outer s₀ H₀ E).env := by rfl)
    (hpl : (backTo cpos (starEach as (cxOf (CX2 P w) P w K mg base N qual scope f cd A outer s₀ H₀ E).env)).any (·.1) = false := by rfl) :
    PS (cxOf (CX2 P w) P w K mg base N qual scope f cd A outer s₀ H₀ E) (.Raise (some (.Call (.Name x np) (a :: as) [] cpos)) none pos) (sRaiseC C t E) := by
  intro pins s σ H D I h
  have hr' : Room (k + 1) (cxOf (CX2 P w) P w K mg base N qual scope f cd A outer s₀ H₀ E).A := hr
  rw [arm_exec_Raise]
  refine wpAny_bind (wpAny_standAt (raise_made c (I.ok.hd rfl) (wpAny_bind (wpAny_mono (wpAny_Call_Name_kw (ld_glob I hg hm (callWith_K (h₀ := base) I.ok.mod.kin kp (thn (ha cpos pins s σ H _ I h) fun us s1 ⟨vs, H1, I1, r, i, ev, hi, q⟩ => ⟨I1.kIn, ?_⟩) he hpl) hd)) (fun v s3 h3 => wpAny_bind (wpAny_standAt (wpAny_pure h3))) fun _ _ z => z))))
  subst ev
  refine thn (run_mkx (Q := fun v H2 => ∃ e d, v = .ref e ∧ s1.heap.objs.size ≤ e ∧ H1 e = none ∧ H1 d = none ∧ d ≠ e ∧ H2 = upd (upd H1 d (.xd [("at", .int i)])) e (excN e C d)) c F hr' hb I1 r hi fun e d h0 h1 h2 h3 => ⟨e, d, rfl, h0, h1, h2, h3, rfl⟩) fun v s4 hv => ?_
  obtain ⟨vv, H4, I4, rv, e, d, rfl, ge, ne, nd, de, hH4⟩ := hv
  obtain rfl : v = Value.ref e := rv
  have H4e : H4 e = some (excN e C d) := by rw [hH4, upd_same]
  have hrm : rm H4 e = upd H1 d (.xd [("at", .int i)]) := by rw [hH4]; exact rm_upd2 de ne
  obtain ⟨t0, ht0⟩ := (I4.hok e _ H4e).1
  refine ⟨e, t0, some d, rfl, I4.kIn, ht0, ?_⟩
  have bk := I4.bk
  have stk : ∀ {b o}, s₀.heap.get? b = some o → b ∉ frs outer → b ∉ frs ((envOfC qual scope s₀.heap.objs.size f cd) :: outer) := fun {b o} hb nf hx => by
    rcases List.mem_cons.mp (I4.stkSub b hx) with e | e
    · have h1 := Heap.lt_size hb
      have h2 : s₀.heap.objs.size ≤ (envOfC qual scope s₀.heap.objs.size f cd).locals := I4.ok.above
      have e : b = (envOfC qual scope s₀.heap.objs.size f cd).locals := e
      rw [e] at h1
      exact absurd h1 (Nat.not_lt.mpr h2)
    · exact nf e
  have ub : Un (frs outer) [] H₀ H4 s₀.heap s4.heap := I4.base
  have old : ∀ {b o}, s₀.heap.get? b = some o → b ≠ e := fun {b o} hb z => by
    have h1 := Heap.lt_size hb
    have h2 : s₀.heap.objs.size ≤ s1.heap.objs.size := I1.sz
    exact absurd h1 (Nat.not_lt.mpr (Nat.le_trans h2 (z ▸ ge)))
  have hk : ∀ {b o}, H4 b = some o → b ∉ frs ((envOfC qual scope s₀.heap.objs.size f cd) :: outer) := fun {b o} hb hx => by
    have := I4.stkFree b hx
    rw [hb] at this
    cases this
  have nin : ∀ {b}, b ∉ frs ((envOfC qual scope s₀.heap.objs.size f cd) :: outer) → b ≠ e → b ∉ frs ((envOfC qual scope s₀.heap.objs.size f cd) :: outer) ++ [e] := fun {b} h1 h2 h3 => by
    rcases List.mem_append.mp h3 with h | h
    · exact h1 h
    · exact h2 (by simpa using h)
  refine leavesD (B := less s4.heap (frs ((envOfC qual scope s₀.heap.objs.size f cd) :: outer) ++ [e])) (L := (envOfC qual scope s₀.heap.objs.size f cd).locals) I4.ok.frames (less_funs I4.stack fun b h => List.mem_append_left _ h) rfl ht0 less_stays (less_in (by simp)) rfl rfl rfl fun h'' fly up dc => ?_
  have stay : ∀ {b u}, b ∉ frs ((envOfC qual scope s₀.heap.objs.size f cd) :: outer) → b ≠ e → s4.heap.get? b = some u → h''.get? b = some u := fun {b u} hb hn hu => fly.1 b u (by rw [less_out (nin hb hn)]; exact hu)
  have notE : ∀ {b o}, rm H4 e b = some o → b ≠ e ∧ H4 b = some o := fun {b o} hb => by
    by_cases z : b = e
    · rw [z, rm_same] at hb; cases hb
    · exact ⟨z, by rw [rm_ne z] at hb; exact hb⟩
  have keepH : ∀ {b o}, H4 b = some o → (∀ φ, o ≠ .ext φ) → rm H4 e b = some o := fun {b o} hb n => by
    have z : b ≠ e := fun z => by
      rw [z, H4e] at hb
      cases hb
      exact n _ rfl
    rw [rm_ne z]
    exact hb
  have slots : ∀ b o, s₀.heap.get? b = some o → H₀ b = none → b ∈ frs outer → ∃ sl, h''.get? b = some { o with slots := sl } := fun b o e n hb => by
    obtain ⟨sl, e1⟩ := ub.slot b o e n hb (by simp)
    obtain ⟨_, o2, e2, nf⟩ := I4.funs.mem hb
    rw [e1] at e2
    cases e2
    obtain ⟨sl', e3⟩ := up b _ e1 nf
    exact ⟨sl', e3⟩
  refine ⟨e, .ref C, .ref t0, some d, rm H4 e, _, rfl, fly, dc, fun b o hb nf => ?_, fun b o hb => ?_, I4.os, I4.bare, ⟨fun b o e n nf nx => stay (stk e nf) (old e) (ub.keep b o e n nf nx), fun b o e n hb _ => slots b o e n hb, fun b o e n hx => ?_, fun b o e nx => ?_, fun b xs e => keepH (ub.tups b xs e) (by intro _ z; cases z), fun b o u e => keepH (ub.frzs b o u e) (by intro _ z; cases z), fun b ps e => ?_⟩, fun a o ha => ?_, by rw [hrm]; exact q d nd⟩
  · obtain ⟨o', e'⟩ := ub.there b o hb (by simp)
    exact ⟨o', by rw [less_out (nin (stk hb nf) (old hb))]; exact e'⟩
  · obtain ⟨z, hb⟩ := notE hb
    obtain ⟨o', e'⟩ := (I4.hok b o hb).some_
    exact ⟨o', by rw [less_out (nin (hk hb) z)]; exact e'⟩
  · rw [rm_ne (old e)]
    exact ub.free b o e n hx
  · by_cases hb : b ∈ frs outer
    · obtain ⟨_, o2, e2, nf⟩ := I4.funs.mem hb
      obtain ⟨sl', e3⟩ := up b _ e2 nf
      exact ⟨_, e3⟩
    · obtain ⟨o', e'⟩ := ub.there b o e nx
      exact ⟨o', stay (stk e hb) (old e) e'⟩
  · obtain ⟨more, z⟩ := ub.tbls b ps e
    exact ⟨more, keepH z (by intro _ z; cases z)⟩
  · obtain ⟨z, ha⟩ := notE ha
    refine (I4.hok a o ha).stay (fun b u hc q => ?_) (fun c q => keepH q (by intro _ z; cases z)) (fun c xs q => keepH q (by intro _ z; cases z))
    rcases hc with rfl | hc
    · exact stay (hk ha) z q
    · refine stay (hk hc) (fun z => ?_) q
      rw [z, H4e] at hc
      cases hc
end
end L2


set_option Elab.async false
set_option linter.all false
set_option maxRecDepth 100000
set_option maxHeartbeats 4000000
namespace L2
open PySem PySem.W PySem.Spec PySem.Calls PyProof.Rows
section
variable {X : Cx} {pins : List (Addr × Obj)} {σ : St} {H : Hp} {s : Shared}
end
section
variable {X : Cx} {pins : List (Addr × Obj)} {σ : St}
end
section
variable {X : Cx} {k : Nat} {f cR : Addr} {fd : FuncData} {ps : List Str} {sp : Sp} {dvs : List V} {ds : List Value} {x g n : Str} {np gp pos p2 p3 p4 : Pos} {a : Expr} {as : List Expr} {t : TA} {ts : TS} {i : Nat} {b₀ : Stmt} {suite : List Stmt} {L : Addr}
end
end L2


set_option Elab.async false
set_option linter.all false
set_option maxRecDepth 100000
set_option maxHeartbeats 4000000
namespace L2
open PySem PySem.W PySem.Spec PySem.Calls PyProof.Rows
section
variable {X : Cx} {C R fI : Addr} {Bn : String}
end
end L2


set_option Elab.async false
set_option linter.all false
set_option maxRecDepth 100000
set_option maxHeartbeats 4000000
namespace L2
open PySem PySem.W PySem.Spec PySem.Calls PyProof.Rows
/-! ### a try whose one statement has the call of f within: x = f(..), x = g(f(..)), return f(..) -/
section
variable {X : Cx}
end
section
variable {X : Cx} {k : Nat} {f cR : Addr} {fd : FuncData} {ps : List Str} {sp : Sp} {dvs : List V} {ds : List Value} {x n : Str} {np p3 p4 : Pos} {t : TA} {ts : TS} {i : Nat} {st b₀ : Stmt} {suite : List Stmt} {L : Addr} {r : V → TS}
end
end L2


set_option Elab.async false
set_option linter.all false
set_option maxRecDepth 100000
set_option maxHeartbeats 4000000
namespace L2
open PySem PySem.Spec PyProof.Rows
theorem rng_all {f : Nat → Bool} : ∀ (bs : List Bool), (∀ i b, bs[i]? = some b → f i = b) → (List.range bs.length).all f = bs.all id := by
  intro bs h
  rw [Bool.eq_iff_iff, List.all_eq_true, List.all_eq_true]
  constructor
  · intro k b hb
    obtain ⟨i, hi, e⟩ := List.getElem_of_mem hb
    have := k i (List.mem_range.mpr hi)
    rw [h i b (by rw [List.getElem?_eq_getElem hi, e])] at this
    exact this
  · intro k i hi
    have hi := List.mem_range.mp hi
    rw [h i bs[i] (List.getElem?_eq_getElem hi)]
    exact k _ (List.getElem_mem hi)
section
variable {X : Cx}
theorem bl_at {bs : List Bool} {its : List Value} (rv : Vals (bs.map V.bl) its) {i : Nat} {v : Value} (h : its.toArray[i]? = some v) : ∃ b, bs[i]? = some b ∧ v = .bool b := by
  have h : its[i]? = some v := by simpa using h
  have hl := rv.length
  rw [List.length_map] at hl
  have hi : i < bs.length := by
    rw [hl]
    exact (List.getElem?_eq_some_iff.mp h).1
  obtain ⟨u, hu, ru⟩ := rv.get (i := i) (x := V.bl bs[i]) (by rw [List.getElem?_map, List.getElem?_eq_getElem hi]; rfl)
  rw [h] at hu
  cases hu
  exact ⟨bs[i], List.getElem?_eq_getElem hi, ru⟩
theorem call_allB (hc : X.calm = true) : CallR X (.builtin "all") (fun xs H Q => ∃ (a : Addr) (bs : List Bool), xs = [.ref a] ∧ SqL X.K H a (bs.map V.bl) ∧ Q (.bl (bs.all id)) H) := by
  intro pins s σ H xs us Q I r h
  obtain ⟨a, bs, rfl, hq, q⟩ := h
  obtain ⟨u, rfl, ru⟩ := vals1 r
  cases ru
  obtain ⟨its, rv, p, hz⟩ := I.list hq
  have hl := p.isList
  have hlt : a < s.heap.objs.size := by obtain ⟨_, e, _⟩ := hl; exact Heap.lt_size e
  have hlen := rv.length
  rw [List.length_map] at hlen
  refine call_all_walk (wpAny_pyIter_list hl ?_)
  refine ⟨s.heap.objs.size, [s.heap.objs.size, a], [s.heap.objs.size], its.toArray.size, _, _, fun i => (bs[i]?).getD true, rfl, Walks.list (A := X.A.in1) (I.ok.hd hc) _ a (Nat.ne_of_lt hlt) its.toArray,
    ⟨⟨_, Heap.get?_push_size _ rfl, rfl, rfl⟩, hl.push _⟩, fun i v s' Q' E' hP hQ => ?_, fun h' tk hk => ?_⟩
  · obtain ⟨b, e, rfl⟩ := bl_at rv hP
    simp only [e, Option.getD_some] at hQ
    exact wpAny_truthy_bool hQ
  · rw [List.size_toArray, ← hlen, rng_all bs (fun i b e => by rw [e]; rfl)]
    exact ⟨.bl _, H, I.kept (t' := tk) (fun b x e => hk b x (fun hm => by rw [List.mem_singleton.mp hm] at e; exact Nat.lt_irrefl _ (Heap.lt_size e)) (Heap.get?_push_of_some _ e)), rfl, q⟩
end
end L2


set_option Elab.async false
set_option linter.all false
set_option maxRecDepth 100000
set_option maxHeartbeats 4000000
namespace L2
open PySem PySem.Spec PyProof.Rows
section
variable {prog : Program} {w : World} {A : Around} {E : Value → Shared → Prop} {s : Shared}
end
end L2


set_option Elab.async false
set_option linter.all false
set_option maxRecDepth 100000
set_option maxHeartbeats 4000000
namespace L2
open PySem PySem.Spec PyProof.Rows
section
variable {prog : Program} {w : World} {A : Around} {E : Value → Shared → Prop} {s : Shared}
end
section
variable {X : Cx}
end
end L2


set_option Elab.async false
set_option linter.all false
set_option maxRecDepth 100000
set_option maxHeartbeats 4000000
namespace L2
open PySem PySem.Spec PyProof.Rows
theorem comp_tup {K : PySem.W.Frag} {a : Addr} {xs : List V} {g : TG} {tt : TT} {te : TE} {R : Hp → Prop} {D : Addr} {σ0 : St} {H0 : Hp} (Pv : Nat → St → List V → Hp → Prop) (h0 : Pv 0 σ0 [] H0) (hl : ∀ i σ ys H, i ≤ xs.length → Pv i σ ys H → SqT K H a xs)
    (hs : ∀ i x σ ys H, xs[i]? = some x → Pv i σ ys H → g x σ H fun σ2 H2 => tt σ2 H2 fun b H3 =>
      if b = true then te σ2 H3 fun v H4 => H4 D = some (.lst ys) ∧ ys.length < sizeLine ∧ Pv (i + 1) σ2 (ys ++ [v]) (upd H4 D (.lst (ys ++ [v]))) else Pv (i + 1) σ2 ys H3)
    (hd : ∀ σ ys H, Pv xs.length σ ys H → R H) :
    ∃ W : Nat → Nat → St → List V → Hp → Prop, (∃ m, W 0 m σ0 [] H0) ∧ ∀ i m σ ys H, W i m σ ys H →
      ((Itt K a).stop i H ∧ R H) ∨ ((Itt K a).go i H ∧ ∃ N : St → List V → Hp → Prop, (∀ σ' ys' H', N σ' ys' H' → ∃ m', m' < m ∧ W (i + 1) m' σ' ys' H') ∧ ∀ x H', (Itt K a).yld i H x H' → g x σ H' fun σ2 H2 => tt σ2 H2 fun b H3 =>
        if b = true then te σ2 H3 fun v H4 => H4 D = some (.lst ys) ∧ ys.length < sizeLine ∧ N σ2 (ys ++ [v]) (upd H4 D (.lst (ys ++ [v]))) else N σ2 ys H3) := by
  refine ⟨fun i m σ ys H => m = xs.length - i ∧ i ≤ xs.length ∧ Pv i σ ys H, ⟨xs.length, by simp, Nat.zero_le _, h0⟩, ?_⟩
  rintro i m σ ys H ⟨rfl, hi, p⟩
  have q := hl i σ ys H hi p
  by_cases hlt : i < xs.length
  · refine .inr ⟨⟨xs, xs[i], q, by simp [hlt]⟩, Pv (i + 1), fun σ' ys' H' p' => ⟨xs.length - (i + 1), by omega, rfl, hlt, p'⟩, fun x H' y => ?_⟩
    obtain ⟨e, y⟩ := y
    subst e
    exact hs i x σ ys _ (y xs q) p
  · have e : i = xs.length := by omega
    subst e
    exact .inl ⟨⟨xs, q, Nat.le_refl _⟩, hd σ ys H p⟩
end L2


set_option Elab.async false
set_option linter.all false
set_option maxRecDepth 100000
set_option maxHeartbeats 4000000
namespace My
open PySem L2
def top (i : Nat) : Stmt := PySem.Challenge.pw_widenrows_k34_free_boxes_told.main.body.getD i (.Pass ⟨0, 0, 0, 0⟩)
abbrev sGoes : Stmt := top 5
abbrev sTargets : Stmt := top 6
abbrev sWays : Stmt := top 7
abbrev sWhole : Stmt := top 10
abbrev sNum : Stmt := top 11
abbrev sReads : Stmt := top 17
abbrev sWrites : Stmt := top 18
abbrev sNeeds : Stmt := top 19
abbrev sAhead : Stmt := top 20
abbrev sClaim : Stmt := top 21
abbrev sRight : Stmt := top 22
abbrev sFree : Stmt := top 23
abbrev sRAhead : Stmt := top 24
abbrev sRNeed : Stmt := top 25
abbrev sFBox : Stmt := top 26
abbrev sCell : Stmt := top 28
abbrev sDigit : Stmt := top 29
abbrev sRow : Stmt := top 30
abbrev sProg : Stmt := top 31
abbrev sLNeeds : Stmt := top 32
abbrev sLater : Stmt := top 33
abbrev sIsFree : Stmt := top 34
abbrev sPlain : Stmt := top 35
abbrev sPlainDue : Stmt := top 36
abbrev sFormed : Stmt := top 37
abbrev sLaw : Stmt := top 38
theorem bt_list : bootBuiltins "list" = some (.type "list") := by decide +kernel
theorem bt_tuple : bootBuiltins "tuple" = some (.type "tuple") := by decide +kernel
theorem bt_set : bootBuiltins "set" = some (.type "set") := by decide +kernel
theorem bt_bool : bootBuiltins "bool" = some (.type "bool") := by decide +kernel
theorem bt_len : bootBuiltins "len" = some (.builtin "len") := by decide +kernel
theorem bt_sorted : bootBuiltins "sorted" = some (.builtin "sorted") := by decide +kernel
theorem bt_isi : bootBuiltins "isinstance" = some (.builtin "isinstance") := by decide +kernel
theorem at0 {α : Type} (a : α) (r : List α) : atI (a :: r) 0 = some a := atI_nat (j := 0) rfl
theorem at1 {α : Type} (a b : α) (r : List α) : atI (a :: b :: r) 1 = some b := atI_nat (j := 1) rfl
theorem at2 {α : Type} (a b c : α) (r : List α) : atI (a :: b :: c :: r) 2 = some c := atI_nat (j := 2) rfl
theorem strEq {a b : Str} (h : decide (V.str a = V.str b) = true) : a = b := V.str.inj (of_decide_eq_true h)
theorem strNe {a b : Str} (h : ¬ decide (V.str a = V.str b) = true) : ¬ a = b := fun e => h (by rw [e]; exact decide_eq_true rfl)
/-! ### words -/
theorem inV_str (w : Str) : ∀ ss : List Str, inV (.str w) (ss.map V.str) = decide (w ∈ ss)
  | [] => rfl
  | x :: r => by
    have ih := inV_str w r
    unfold inV at ih ⊢
    rw [List.map_cons, List.any_cons, ih]
    show ((x == w) || _) = _
    by_cases h : x = w
    · subst h
      simp
    · have h' : ¬ w = x := fun e => h e.symm
      simp [h, h']
theorem same_new {H : Hp} {l : Addr} {o : HO} (h : H l = none) : Same H (upd H l o) := fun b u e => by
  rw [upd_ne (ne_of_none e h)]
  exact e
theorem bt_int : bootBuiltins "int" = some (.type "int") := by decide +kernel
theorem bt_all : bootBuiltins "all" = some (.builtin "all") := by decide +kernel
theorem bt_max : bootBuiltins "max" = some (.builtin "max") := by decide +kernel
/-! ### small steps of a reading -/
theorem same_put {H H1 : Hp} {l : Addr} {o : HO} (e : Same H H1) (h : H l = none) : Same H (upd H1 l o) := fun b u z => by
  rw [upd_ne (ne_of_none z h)]
  exact e b u z
def all20 : List Str := ["stop", "back", "halt", "set", "more", "copy", "add", "less", "load", "keep", "tell", "see", "put", "take", "jump", "zero", "below", "call", "mark", "table"]
def w2 : List Str := ["copy", "add", "less", "load", "keep"]
def w1 : List Str := ["set", "more", "tell", "see", "put", "take", "zero", "below", "table"]
def w7 : List Str := ["set", "more", "copy", "add", "less", "load", "take"]
def fA : List Str := ["copy", "load"]
def fB : List Str := ["add", "less", "keep"]
def fC : List Str := ["more", "tell", "see", "put", "zero", "below", "table"]
def fD : List Str := ["stop", "back", "halt", "set", "take", "jump", "call", "mark"]
def places : List (Str × List Int) := [("more", [1]), ("copy", [2]), ("add", [1, 2]), ("less", [1, 2]), ("load", [2]), ("keep", [1, 2]), ("tell", [1]), ("see", [1]), ("put", [1]), ("zero", [1]), ("below", [1]), ("table", [1])]
/-- what stands behind a word -/
def ItemsOk (u : Str) (items : List V) : Prop := (u ∈ w2 → ∃ b c : Int, items = [.int b, .int c]) ∧ (u ∈ w1 → ∃ (b : Int) (r : List V), items = .int b :: r)
theorem ItemsOk.one {u : Str} {b : Int} {r : List V} (h : ¬ u ∈ w2) : ItemsOk u (.int b :: r) := ⟨fun z => absurd z h, fun _ => ⟨b, r, rfl⟩⟩
theorem kit_ty {K : PySem.W.Frag} {a b : String} {r : Bool} (h1 : (Value.type a == Value.type b) = false) (h2 : PySem.W.kitMeta b = true) (h3 : (fastBuiltinMro a).map (·.contains (Value.type b)) = some r) : PySem.W.kitOne K (.type a) (.type b) = some r := by
  unfold PySem.W.kitOne
  rw [if_neg (by rw [h1]; decide)]
  show (if PySem.W.kitMeta b = true then (fastBuiltinMro a).map (·.contains (Value.type b)) else none) = some r
  rw [if_pos h2]
  exact h3
theorem kit_eq {K : PySem.W.Frag} {a : String} (h : (Value.type a == Value.type a) = true) : PySem.W.kitOne K (.type a) (.type a) = some true := by
  unfold PySem.W.kitOne
  rw [if_pos h]
theorem k_int_bool {K : PySem.W.Frag} : PySem.W.kitOne K (.type "int") (.type "bool") = some false := kit_ty (by decide) (by decide +kernel) (by decide +kernel)
theorem k_bool_int {K : PySem.W.Frag} : PySem.W.kitOne K (.type "bool") (.type "int") = some true := kit_ty (by decide) (by decide +kernel) (by decide +kernel)
theorem k_int_int {K : PySem.W.Frag} : PySem.W.kitOne K (.type "int") (.type "int") = some true := kit_eq (by decide)
theorem k_bool_bool {K : PySem.W.Frag} : PySem.W.kitOne K (.type "bool") (.type "bool") = some true := kit_eq (by decide)
theorem k_tuple_tuple {K : PySem.W.Frag} : PySem.W.kitOne K (.type "tuple") (.type "tuple") = some true := kit_eq (by decide)
theorem k_list_list {K : PySem.W.Frag} : PySem.W.kitOne K (.type "list") (.type "list") = some true := kit_eq (by decide)
def notOn : List Str := ["stop", "back", "halt", "jump"]
def jcm : List Str := ["jump", "call", "mark"]
def zb : List Str := ["zero", "below"]
/-- what a row's own parts tell of its targets -/
def Parts (H : Hp) (w : Str) (items : List V) (ts : List Int) : Prop :=
  if w = "table" then ∃ (b : V) (q : Addr), items = [b, .ref q] ∧ H q = some (.tup (ts.map V.int))
  else if w ∈ jcm then ∃ (t : Int) (f : V), items = [.int t, f] ∧ ts = [t]
  else if w ∈ zb then ∃ (b : V) (t : Int) (f : V), items = [b, .int t, f] ∧ ts = [t] else ts = []
/-- a row at r: its word, its targets -/
def RowAt (H : Hp) (r : Addr) (w : Str) (ts : List Int) : Prop := ∃ items, H r = some (.tup (.str w :: items)) ∧ Parts H w items ts
theorem Parts.same {H H' : Hp} {w : Str} {items : List V} {ts : List Int} (e : Same H H') (h : Parts H w items ts) : Parts H' w items ts := by
  unfold Parts at h ⊢
  split
  · rename_i h1
    rw [if_pos h1] at h
    obtain ⟨b, q, h2, h3⟩ := h
    exact ⟨b, q, h2, e _ _ h3⟩
  · rename_i h1
    rw [if_neg h1] at h
    exact h
theorem RowAt.same {H H' : Hp} {r : Addr} {w : Str} {ts : List Int} (e : Same H H') (h : RowAt H r w ts) : RowAt H' r w ts := by
  obtain ⟨items, h1, h2⟩ := h
  exact ⟨items, e _ _ h1, h2.same e⟩
def ends3 : List Str := ["stop", "back", "halt"]
/-- what the walk asks of the module -/
structure Txt (K : PySem.W.Frag) (pr : Params) (mg : Str → Option Value) : Prop where
  rat : ∃ p, mg "READ_AT" = some (.ref p) ∧ (∃ es n, K.lookup p = some ⟨.type "dict", none, .dict es n, #[]⟩) ∧ (∀ x ∈ places, ∃ q, KHas K pr p x.1 (some (.ref q)) ∧ ∀ H, SqT K H q (x.2.map V.int)) ∧ ∀ u ∈ fD, KHas K pr p u none
  wr : ∃ p, mg "WRITING" = some (.ref p) ∧ ∀ H, SqT K H p (w7.map V.str)
  ends : ∃ p, mg "ENDS" = some (.ref p) ∧ ∀ H, SqT K H p (ends3.map V.str)
  non : ∃ p, mg "NOT_GOING_ON" = some (.ref p) ∧ ∀ H, SqT K H p (notOn.map V.str)
  allb : ∃ p, mg "ALL_BOXES" = some (.ref p) ∧ ∀ H, SqT K H p ([0, 1, 2, 3, 4, 5, 6, 7].map V.int)
  bnd : ∃ p, mg "BOUNDS" = some (.ref p) ∧ ∃ q, KHas K pr p "box" (some (.ref q)) ∧ ∀ H, SqT K H q [.int 0, .int 7]
  set : mg "set" = none
  sorted : mg "sorted" = none
  list : mg "list" = none
  int : mg "int" = none
  bool : mg "bool" = none
  tuple : mg "tuple" = none
  isi : mg "isinstance" = none
  min : mg "min" = none
  range : mg "range" = none
  len : mg "len" = none
  all : mg "all" = none
  enum : mg "enumerate" = none
  max : mg "max" = none
  rev : mg "reversed" = none
/-! ### two lists that rise and have the same members -/
def RisesTo (ms : List Int) (p : Int → Prop) : Prop := ms.Pairwise (· ≤ ·) ∧ ms.Nodup ∧ ∀ j, j ∈ ms ↔ p j
theorem RisesTo.eq {p : Int → Prop} : ∀ {ms ns : List Int}, RisesTo ms p → RisesTo ns p → ms = ns := by
  intro ms ns a b
  have hp : ms.Perm ns := (List.perm_ext_iff_of_nodup a.2.1 b.2.1).mpr fun j => (a.2.2 j).trans (b.2.2 j).symm
  exact hp.eq_of_pairwise (le := (· ≤ ·)) (fun x y _ _ h1 h2 => Int.le_antisymm h1 h2) a.1 b.1
/-- the boxes that are needed -/
def Need (u : Str) (items : List V) (j : Int) : Prop := (u ∈ fA ∧ items[1]? = some (.int j)) ∨ (u ∈ fB ∧ (items[0]? = some (.int j) ∨ items[1]? = some (.int j))) ∨ (u ∈ fC ∧ items[0]? = some (.int j))
def WroteIs (u : Str) (items : List V) (ms : List Int) : Prop := (u ∈ w7 ∧ ∃ b r, items = .int b :: r ∧ ms = [b]) ∨ (¬ u ∈ w7 ∧ ms = [])
theorem first_of {u : Str} {items : List V} (h : ItemsOk u items) (hu : u ∈ w7) : ∃ b r, items = V.int b :: r := by
  rcases (by decide +kernel : ∀ u ∈ w7, u ∈ w1 ∨ u ∈ w2) u hu with z | z
  · exact h.2 z
  · obtain ⟨b, c, e⟩ := h.1 z
    exact ⟨b, _, e⟩
section
variable {P : Program} {w : World} {K : PySem.W.Frag} {mg : Str → Option Value} {base : Heap}
local macro_rules | `(tactic| walk_at "hp") => `(tactic| first | assumption | exact upd_same | (refine at_new (by assumption) ?_; walk_at "hp") | (refine at_same (by assumption) ?_; walk_at "hp"))
local macro_rules | `(tactic| walk_at "sq") => `(tactic| first | exact SqL.of (by walk_at "hp") | exact SqT.of (by walk_at "hp") | assumption | exact .inl (by walk_at "sq") | exact .inr (by walk_at "sq") | exact ⟨_, by walk_at "sq"⟩)
local macro_rules | `(tactic| walk_at "ix") => `(tactic| first | exact at0 _ _ | exact at1 _ _ _ | exact at2 _ _ _ _ | assumption)
local macro_rules | `(tactic| walk_at "sz") => `(tactic| exact Nat.le_of_ble_eq_true rfl)
local macro_rules | `(tactic| walk_at "c") => `(tactic| first | assumption | (refine ⟨by decide, by decide⟩) | (refine ⟨by decide, by decide, by decide⟩) | (refine .inl ⟨by decide, by decide⟩) | (refine .inr ⟨by decide, by decide⟩) | (exact (by decide)) | omega)
local macro_rules | `(tactic| walk_at "r1") => `(tactic| first
  | (refine ⟨_, rfl, ?_⟩)
  | (refine ⟨_, _, rfl, rfl, ?_⟩)
  | (refine ⟨_, ?_, _, ?_, rfl, rfl, ?sq, ?ix, ?k⟩; rotate_left 2; (case sq => walk_at "sq"); (case ix => walk_at "ix"))
  | (refine ⟨_, ?_, rfl, ?sq, ?k⟩; rotate_left 1; (case sq => walk_at "sq"))
  | (refine ⟨_, ?_, rfl, ?sq, rfl, rfl, ?k⟩; rotate_left 1; (case sq => walk_at "sq"))
  | (refine ⟨by walk_at "sz", fun _ _ => ?_⟩)
  | (refine iteT ?_) | (refine iteF ?_)
  | (refine ⟨rfl, _, rfl, ?_⟩)
  | (refine ⟨rfl, ?_⟩)
  | (refine ⟨by walk_at "c", ?_⟩))
local macro_rules | `(tactic| walk_at "rd") => `(tactic| repeat walk_at "r1")
/-! ### writes_of -/
def spWrites : Sp := fun vs H Q _ => ∃ (r : Addr) (u : Str) (items : List V), vs = [.ref r] ∧ H r = some (.tup (.str u :: items)) ∧ ItemsOk u items ∧ ∀ (l : Addr) (ms : List Int) (H' : Hp), Same H H' → H l = none → H' l = some (.lst (ms.map V.int)) → WroteIs u items ms → Q (.ref l) H'
theorem scWrites : FnScope ["row"] ["row"] (defScope sWrites) := ⟨rfl, rfl, rfl, by decide +kernel, rfl, by decide +kernel, by decide +kernel⟩
theorem ok_writes {f : Addr} {fd : FuncData} (F : Fun K "writes_of" "writes_of" sWrites f fd) (T : Txt K w.params mg) : FnOk P w K mg base CX0 1 f fd ["row"] spWrites := by
  refine F.ok scWrites (fun vs H Q E h => ?_) (fun cdv A outer s H vs Q E hr h => ?_)
  · obtain ⟨r, u, items, rfl, _⟩ := h
    rfl
  · obtain ⟨r, u, items, rfl, hR, hI, k⟩ := h
    obtain ⟨p, hp, hq⟩ := T.wr
    have hq := hq H
    refine ⟨_, (pss_one (ps_ret (pe_ifExp (pt_cmpR op_in_seq (pe_ix ix_tup (pv 0) pe_int (fun _ _ => rfl)) (pe_glob (v := .ref p) rfl hp rfl) rfl) (pe_lst (pa_cons (pe_ix ix_tup (pv 0) pe_int (fun _ _ => rfl)) pa_nil)) (pe_lst pa_nil)))), ?_⟩
    walk_at "rd"
    rw [show inV (.str u) (w7.map V.str) = decide (u ∈ w7) from inV_str _ _]
    refine ite2 (fun e => ?_) (fun e => ?_)
    · have e := of_decide_eq_true e
      obtain ⟨b, r', rfl⟩ := first_of hI e
      walk_at "rd"
      exact k _ [b] _ (same_new (by assumption)) (by assumption) upd_same (.inl ⟨e, b, r', rfl, rfl⟩)
    · have e : ¬ u ∈ w7 := fun z => e (decide_eq_true z)
      walk_at "rd"
      exact k _ [] _ (same_new (by assumption)) (by assumption) upd_same (.inr ⟨e, rfl⟩)
/-! ### reads_of -/
def spReads : Sp := fun vs H Q _ => ∃ (r : Addr) (u : Str) (items : List V), vs = [.ref r] ∧ H r = some (.tup (.str u :: items)) ∧ u ∈ all20 ∧ ItemsOk u items ∧ ∀ (l : Addr) (ms : List Int) (H' : Hp), Same H H' → H l = none → H' l = some (.lst (ms.map V.int)) → ms.length ≤ 2 → RisesTo ms (Need u items) → Q (.ref l) H'
/-- the places of a row that are read, and what stands there -/
theorem places_of {u : Str} {items : List V} (hu : u ∈ all20) (hI : ItemsOk u items) : ∃ (ps ns : List Int), ps.length = ns.length ∧ ns.length ≤ 2 ∧ ((u, ps) ∈ places ∨ (u ∈ fD ∧ ps = [])) ∧ (∀ (i : Nat) p n, ps[i]? = some p → ns[i]? = some n → atI (.str u :: items) p = some (.int n)) ∧ ∀ j, j ∈ ns ↔ Need u items j := by
  rcases (by decide +kernel : ∀ u ∈ all20, u ∈ fA ∨ u ∈ fB ∨ u ∈ fC ∨ u ∈ fD) u hu with h | h | h | h
  · obtain ⟨b, c, rfl⟩ := hI.1 ((by decide +kernel : ∀ u ∈ fA, u ∈ w2) u h)
    refine ⟨[2], [c], rfl, by simp, .inl ((by decide +kernel : ∀ u ∈ fA, (u, ([2] : List Int)) ∈ places) u h), fun i p n a b => ?_, fun j => ?_⟩
    · cases i with
      | zero => simp at a b; subst a; subst b; exact at2 _ _ _ _
      | succ i => simp at a
    · have n1 := (by decide +kernel : ∀ u ∈ fA, ¬ u ∈ fB ∧ ¬ u ∈ fC) u h
      simp [Need, h, n1.1, n1.2, eq_comm]
  · obtain ⟨b, c, rfl⟩ := hI.1 ((by decide +kernel : ∀ u ∈ fB, u ∈ w2) u h)
    refine ⟨[1, 2], [b, c], rfl, by simp, .inl ((by decide +kernel : ∀ u ∈ fB, (u, ([1, 2] : List Int)) ∈ places) u h), fun i p n a b => ?_, fun j => ?_⟩
    · cases i with
      | zero => simp at a b; subst a; subst b; exact at1 _ _ _
      | succ i => cases i with
        | zero => simp at a b; subst a; subst b; exact at2 _ _ _ _
        | succ i => simp at a
    · have n1 := (by decide +kernel : ∀ u ∈ fB, ¬ u ∈ fA ∧ ¬ u ∈ fC) u h
      simp [Need, h, n1.1, n1.2, eq_comm]
  · obtain ⟨b, r, rfl⟩ : ∃ (b : Int) (r : List V), items = .int b :: r := hI.2 ((by decide +kernel : ∀ u ∈ fC, u ∈ w1) u h)
    refine ⟨[1], [b], rfl, by simp, .inl ((by decide +kernel : ∀ u ∈ fC, (u, ([1] : List Int)) ∈ places) u h), fun i p n a b => ?_, fun j => ?_⟩
    · cases i with
      | zero => simp at a b; subst a; subst b; exact at1 _ _ _
      | succ i => simp at a
    · have n1 := (by decide +kernel : ∀ u ∈ fC, ¬ u ∈ fA ∧ ¬ u ∈ fB) u h
      simp [Need, h, n1.1, n1.2, eq_comm]
  · refine ⟨[], [], rfl, by simp, .inr ⟨h, rfl⟩, fun i p n a => by simp at a, fun j => ?_⟩
    have n1 := (by decide +kernel : ∀ u ∈ fD, ¬ u ∈ fA ∧ ¬ u ∈ fB ∧ ¬ u ∈ fC) u h
    simp [Need, n1.1, n1.2.1, n1.2.2]
theorem scReads : FnScope ["row"] ["row"] (defScope sReads) := ⟨rfl, rfl, rfl, by decide +kernel, rfl, by decide +kernel, by decide +kernel⟩
def csReadsC1 : Scope := { kind := .function, names := [(".0", .local), ("place", .local), ("row", .free)], isGenerator := false, isCoroutine := false, more := [] }
theorem scReadsC1 : CompSc (defScope sReads) csReadsC1 ["row"] ["place", "row"] [none, some 0] := ⟨rfl, by decide +kernel, by decide +kernel, by decide +kernel, by decide +kernel, by decide +kernel⟩
theorem ok_reads {f : Addr} {fd : FuncData} (F : Fun K "reads_of" "reads_of" sReads f fd) (T : Txt K w.params mg) : FnOk P w K mg base CX0 1 f fd ["row"] spReads := by
  refine F.ok scReads (fun vs H Q E h => ?_) (fun cdv A outer s H vs Q E hr h => ?_)
  · obtain ⟨r, u, items, rfl, _⟩ := h
    rfl
  · obtain ⟨r, u, items, rfl, hR, hu, hI, k⟩ := h
    obtain ⟨p, hp, hd, h1, h2⟩ := T.rat
    obtain ⟨ps, ns, hl, h2n, hps, hat, hmem⟩ := places_of hu hI
    obtain ⟨rr, hk, hrr⟩ : ∃ rr, KHas K w.params p u rr ∧ ((∃ q, rr = some (.ref q) ∧ ∀ H, SqT K H q (ps.map V.int)) ∨ (rr = none ∧ ps = [])) := by
      rcases hps with h | ⟨h, e⟩
      · obtain ⟨q, a, b⟩ := h1 _ h
        exact ⟨_, a, .inl ⟨q, rfl, b⟩⟩
      · exact ⟨none, h2 u h, .inr ⟨rfl, e⟩⟩
    refine ⟨_, (pss_one (ps_ret (pe_callB (call_sorted_of rfl) (by rfl) T.sorted bt_sorted (pa_cons (pe_callTy (call_set_of rfl) (by rfl) T.set bt_set (pa_cons (pe_comp (N' := ["place", "row"]) (fr := [none, some 0]) scReadsC1 rfl (pi_tup (pe_kget2 (pe_glob (v := .ref p) (by rfl) hp rfl) (pe_ix ix_tup (pv 0) pe_int (fun _ _ => rfl)) (pe_tup pa_nil) ⟨rfl, rfl, rfl, rfl⟩)) (fun C s0 H0 fp => (pg_name (i := 0) scReadsC1.nd rfl (Or.inl rfl))) (fun C s0 H0 fp => pts_nil) (fun C s0 H0 fp => (pe_ix (r := rIxT K) ix_tup (pv 1) (pv 0) (fun _ _ => rfl)))) pa_nil)) pa_nil)))), ?_⟩
    refine ⟨p, rfl, hd, _, rfl, r, _, _, _, rfl, rfl, SqT.of hR, at0 _ _, (by walk_at "sz"), fun t nt => ⟨u, rr, rfl, hk, ?_⟩⟩
    have s0 := same_new (o := .tup []) nt
    obtain ⟨a, ha, hsq⟩ : ∃ a, rr.getD (.ref t) = .ref a ∧ ∀ H', Same (upd H t (.tup [])) H' → SqT K H' a (ps.map V.int) := by
      rcases hrr with ⟨q, rfl, b⟩ | ⟨rfl, rfl⟩
      · exact ⟨q, rfl, fun H' _ => b H'⟩
      · exact ⟨t, rfl, fun H' s' => SqT.of (s' _ _ upd_same)⟩
    rw [ha]
    refine ⟨a, rfl, ⟨_, hsq _ (Same.refl _)⟩, fun D nD => comp_tup (K := K) (a := a) (xs := ps.map V.int) (fun i σ ys H2 => ∃ v, σ = [v, some (.ref r)] ∧ ys = (ns.take i).map V.int ∧ Same (upd H t (.tup [])) H2 ∧ H2 D = some (.lst ys)) ?_ ?_ ?_ ?_⟩
    · exact ⟨none, rfl, rfl, same_new nD, upd_same⟩
    · rintro i σ ys H2 _ ⟨v, rfl, rfl, s2, _⟩
      exact hsq _ s2
    · rintro i x σ ys H2 hx ⟨v, rfl, rfl, s2, hD⟩
      rw [List.getElem?_map] at hx
      obtain ⟨pp, hpp, rfl⟩ := Option.map_eq_some_iff.mp hx
      have hil := (List.getElem?_eq_some_iff.mp hpp).1
      have hnn : ns[i]? = some ns[i] := List.getElem?_eq_getElem (by omega)
      refine ⟨_, rfl, _, rfl, r, _, _, .int ns[i], rfl, rfl, SqT.of (s2 _ _ (s0 _ _ hR)), hat i pp _ hpp hnn, hD, ?_, ?_⟩
      · rw [List.length_map]
        exact small1000 (by rw [List.length_take]; omega)
      · refine ⟨_, rfl, ?_, same_put s2 nD, upd_same⟩
        rw [List.take_succ, hnn, List.map_append]
        rfl
    · rintro σ ys H2 ⟨v, rfl, rfl, s2, hD⟩
      have e : ns.take (ps.map V.int).length = ns := by rw [List.length_map, hl, List.take_length]
      rw [e] at hD
      have sH := s0.trans s2
      refine ⟨D, ns, rfl, SqL.of hD, by omega, fun l' us nl' hus hnd hmu => ⟨l', us, rfl, upd_same, by omega, fun l2 ms nl2 hpm hpw => ?_⟩⟩
      have s3 := sH.trans (same_new (o := setO P w l' us) nl')
      exact k l2 ms _ (s3.trans (same_new nl2)) (s3.free nl2) upd_same (by rw [hpm.length_eq]; omega) ⟨hpw, hpm.nodup_iff.mpr hnd, fun j => by rw [hpm.mem_iff, hmu, hmem]⟩
end
end My


set_option Elab.async false
set_option linter.all false
set_option maxRecDepth 100000
set_option maxHeartbeats 4000000
namespace SF
open PySem PySem.Calls PyProof.Rows
section
variable {prog : Program} {w : World} {A : Around} {E : Value → Shared → Prop} {s : Shared}
set_option maxHeartbeats 8000000 in
theorem call_setT {l : Addr} {items : Array Value} {ns : List Int} {Q : Value → Shared → Prop} (hh : A.handled = none) (hl : s.heap.IsTuple l items) (hi : IntsAre items.toList ns) (hb : items.size + 1 < scanBound)
    (h : ∀ (h' : Heap) (tk : Nat) (us : List Int), SetL prog w h' s.heap.objs.size us → us.length ≤ ns.length → (∀ j, j ∈ us ↔ j ∈ ns) → (∀ b o, b < s.heap.objs.size → s.heap.get? b = some o → h'.get? b = some o) → Q (.ref s.heap.objs.size) { s with heap := h', toks := tk }) :
    wpAny (model prog w) A (call (.type "set") [.ref l]) Q E s := by
  obtain ⟨c, tl, hmro⟩ := PySem.F.called_set.mro
  have hmade := PySem.F.called_set.made
  have hsub := PySem.F.called_set.sub
  refine wpAny_call (codeAny_of_tree ?_)
  show wpAny _ _ (callAny (.type "set") _) _ _ _
  refine wpAny_pure ⟨Code.quiet_builtin _ (by decide +kernel), codeAny_builtin PySem.F.entry_type_call ?_⟩
  rw [Around.under_plain (weight_type_call_type "set" [.ref l] []) rfl]
  have h1 := PySem.F.called_set.notType
  have h2 := PySem.F.called_set.canCreate
  have hct := PySem.F.typeCall_set_1 (.ref l)
  generalize hled : (!w.params.followText "set-order") = led
  repeat (any_goals (first | assumption | wp_step))
  refine codeAny_mono (new_set (prog := prog) (w := w) (.ref l) (E := E) (Q₁ := fun obj s₁ => obj = .ref s.heap.objs.size ∧ s₁ = { s with heap := s.heap.push { cls := .type "set", dict := none, data := .set #[] 0 (.fresh 0 0 led) } }) (by rw [hled]; exact ⟨rfl, rfl⟩)) fun r s₁ hr => ?_
  have hld : w.params.followText "set-order" = true ∨ led = true := by
    cases q : w.params.followText "set-order" with
    | true => exact .inl rfl
    | false => rw [q] at hled; exact .inr hled.symm
  cases r with
  | error e => exact hr
  | ok fl =>
    cases fl with
    | next => exact hr.elim
    | brk => exact hr.elim
    | cont => exact hr.elim
    | ret obj =>
      obtain ⟨rfl, rfl⟩ := hr
      have hS : (s.heap.push { cls := .type "set", dict := none, data := .set #[] 0 (.fresh 0 0 led) }).get? s.heap.objs.size = some { cls := .type "set", dict := none, data := .set #[] 0 (.fresh 0 0 led) } := Heap.get?_push_size _ rfl
      have hT : Shared.TypeIs { s with heap := s.heap.push { cls := .type "set", dict := none, data := .set #[] 0 (.fresh 0 0 led) } } (.ref s.heap.objs.size) "set" := ⟨_, hS, rfl⟩
      have hli := PySem.F.called_set.init.lookup
      have hbi := PySem.F.called_set.init.bind (.ref s.heap.objs.size)
      repeat (any_goals (first | assumption | wp_step))
      refine codeAny_mono (codeAny_call_builtin (R := wants (fun r s₂ => r = .none ∧ ∃ h' tk us, s₂ = { s with heap := h', toks := tk } ∧ SetL prog w h' s.heap.objs.size us ∧ us.length ≤ ns.length ∧ (∀ j, j ∈ us ↔ j ∈ ns) ∧
          (∀ b o, b < s.heap.objs.size → s.heap.get? b = some o → h'.get? b = some o)) E) PySem.F.called_set.init.plain PySem.F.entry_set_init (check_set_init_1 hT ?_)) fun r₂ s₂ hr₂ => ?_
      · obtain ⟨ol, hol, hcl, nl, hdl⟩ := hl
        obtain ⟨ocls, odict, odata, oslots⟩ := ol
        simp only at hcl hdl
        subst hcl; subst hdl
        have hol' : (s.heap.push { cls := .type "set", dict := none, data := .set #[] 0 (.fresh 0 0 led) }).get? l = some { cls := .type "tuple", dict := odict, data := .seq items nl, slots := oslots } := Heap.get?_push_of_some _ hol
        have hsls := PySem.F.sub_tuple_set
        have hslf := PySem.F.sub_tuple_frozenset
        have hne : (Value.type "tuple" == Value.type "dict") = false := by decide
        have hl1 : (s.heap.push { cls := .type "set", dict := none, data := .set #[] 0 (.fresh 0 0 led) }).IsTuple l items := ⟨_, hol', rfl, nl, rfl⟩
        unfold Builtin.«set.__init__» noKeywords Builtin.Frozenset.updateFrom
        generalize hPI : pyIter = PI
        wp_walk
        subst hPI
        refine wpAny_pyIter_tuple hl1 ?_
        refine wpAny_bind (wpAny_runValue ?_)
        have hlS : l < s.heap.objs.size := Heap.lt_size hol
        have hh3 : A.in1.in1.in1.handled = none := by simp [hh]
        have hneI : l ≠ (s.heap.push { cls := .type "set", dict := none, data := .set #[] 0 (.fresh 0 0 led) }).objs.size := by
          rw [Heap.size_push]; exact Nat.ne_of_lt (Nat.lt_succ_of_lt hlS)
        have hSf : s.heap.objs.size ∉ [(s.heap.push { cls := .type "set", dict := none, data := .set #[] 0 (.fresh 0 0 led) }).objs.size, l] := by
          rw [Heap.size_push]; simp only [List.mem_cons, List.mem_singleton, List.not_mem_nil, or_false, not_or]
          exact ⟨Nat.ne_of_lt (Nat.lt_succ_self _), Nat.ne_of_gt hlS⟩
        have hval : ∀ (i : Nat) (v : Value), items[i]? = some v → ∃ t, v = .int ((fun i => ns.getD i 0) i) t := fun i v hv =>
          IntsAre.int_at hi i v (by rw [Array.getElem?_toList]; exact hv)
        have hnl : ns.length = items.size := by rw [← IntsAre.length hi, Array.length_toList]
        refine update_loop ((Walks.tuple hh3 _ l hneI items).toS) s.heap.objs.size hSf (fun i => ns.getD i 0) hval hb (items.size - 0) 0 _ [] (by omega) (Nat.zero_le _)
          ⟨⟨_, Heap.get?_push_size _ rfl, rfl, rfl⟩, (hl1.push _)⟩ ?hS0 (Nat.zero_le _) (fun j => by simp) ?hR
        case hS0 =>
          have hget : ((s.heap.push { cls := .type "set", dict := none, data := .set #[] 0 (.fresh 0 0 led) }).push { cls := .type "tuple_iterator", data := .fields #[.ref l, .int 0 0] }).get? s.heap.objs.size
              = some { cls := .type "set", dict := none, data := .set #[] 0 (.fresh 0 0 led) } := Heap.get?_push_of_some _ hS
          exact ⟨#[], 0, .fresh 0 0 led, ⟨_, hget, ⟨rfl, rfl, rfl⟩, rfl⟩, by rfl, ⟨rfl, fun _ i k _ hk => by simp [SetTable.fresh] at hk⟩, hld, fun e he => by simp at he, .nil, List.nodup_nil⟩
        case hR =>
          intro s' us hm hS' hlen hmem
          obtain ⟨h', g', d', tk', os'⟩ := s'
          have eg : g' = s.gens := hm.gens
          have ed : d' = s.drawn := hm.drawn
          have eo : os' = s.os := hm.os
          subst eg; subst ed; subst eo
          show wpAny _ _ _ _ _ _
          refine wpAny_pure ?_
          show wpAny _ _ (ret Value.none) _ _ _
          refine wpAny_pure ⟨rfl, h', tk', us, rfl, hS', by omega, fun j => ?_, fun b o hb e => ?_⟩
          · rw [hmem]
            constructor
            · rintro ⟨m, h1, h2⟩
              have hm' : m < ns.length := by omega
              rw [← h2]
              show ns.getD m 0 ∈ ns
              rw [List.getD_eq_getElem?_getD, List.getElem?_eq_getElem hm']
              exact List.getElem_mem hm'
            · intro hj
              obtain ⟨m, hm', e⟩ := List.getElem_of_mem hj
              refine ⟨m, by omega, ?_⟩
              show ns.getD m 0 = j
              rw [List.getD_eq_getElem?_getD, List.getElem?_eq_getElem hm']
              exact e
          have hb1 : b ≠ s.heap.objs.size := Nat.ne_of_lt hb
          have hb2 : b ≠ (s.heap.push { cls := .type "set", dict := none, data := .set #[] 0 (.fresh 0 0 led) }).objs.size := by
            rw [Heap.size_push]; exact Nat.ne_of_lt (Nat.lt_succ_of_lt hb)
          exact hm.heap b o (by simp only [List.mem_cons, List.mem_singleton, List.not_mem_nil, or_false, not_or]; exact ⟨hb1, hb2⟩) (Heap.get?_push_of_some _ (Heap.get?_push_of_some _ e))
      · cases r₂ with
        | error e => exact hr₂
        | ok fl₂ =>
          cases fl₂ with
          | ret r =>
            obtain ⟨rfl, h', tk, us, rfl, hS', h1', h2', hk'⟩ := hr₂
            repeat (any_goals (first | assumption | wp_step))
            exact h _ _ us hS' h1' h2' hk'
          | _ => exact hr₂.elim
end
end SF
namespace L2
open PySem PySem.Spec PyProof.Rows
section
variable {X : Cx}
theorem isTup_of {h : Heap} {a : Addr} {its : Array Value} (x : IsTup h a its) : h.IsTuple a its := by
  obtain ⟨o, ho, hc, n, hd⟩ := x
  exact ⟨o, ho, hc, n, hd⟩
theorem call_set_ofT (hc : X.calm = true) : CallR X (.type "set") (fun xs H Q => ∃ (p : Addr) (ns : List Int), xs = [.ref p] ∧ SqT X.K H p (ns.map V.int) ∧ ns.length < 4000 ∧ ∀ (l : Addr) (us : List Int), H l = none → us.length ≤ ns.length → us.Nodup → (∀ j, j ∈ us ↔ j ∈ ns) → Q (.ref l) (upd H l (setO X.prog X.w l us))) := by
  intro pins s σ H xs us0 Q I r h
  obtain ⟨p, ns, rfl, hp, hz, q⟩ := h
  obtain ⟨u, rfl, ru⟩ := vals1 r
  cases ru
  obtain ⟨its, hv, pl, _⟩ := I.tuple hp
  have hi := intsAre_of hv
  have hl : its.length = ns.length := IntsAre.length hi
  refine SF.call_setT (I.ok.hd hc) (items := its.toArray) (ns := ns) (isTup_of pl) (by simpa using hi) (by rw [List.size_toArray, hl]; unfold scanBound; omega) fun h' tk us hS h1 h2 hk => ?_
  have hn : us.Nodup := by obtain ⟨_, _, _, _, _, _, _, _, _, hn⟩ := hS; exact hn
  refine ⟨.ref s.heap.objs.size, upd H s.heap.objs.size (setO X.prog X.w s.heap.objs.size us), I.laid (fun b o e => hk b o (Heap.lt_size e) e) (Nat.le_refl _) ?_, rfl, q _ us I.fresh h1 hn h2⟩
  exact ⟨hS, SetL_there hS, fun h1 h2 x e => SF.SetL.at x e⟩
end
end L2


set_option Elab.async false
set_option linter.all false
set_option maxRecDepth 100000
set_option maxHeartbeats 4000000
namespace My
open PySem L2
theorem iteP {c A B : Prop} [Decidable c] (h : c) (a : A) : if c then A else B := by rw [if_pos h]; exact a
theorem iteN {c A B : Prop} [Decidable c] (h : ¬ c) (b : B) : if c then A else B := by rw [if_neg h]; exact b
theorem tyof_same {K : PySem.W.Frag} {H H' : Hp} {x : V} {t : Value} (s : Same H H') (h : TyOf K H x t) : TyOf K H' x t := by
  cases h with
  | non => exact .non
  | bl x => exact .bl x
  | int i => exact .int i
  | str x => exact .str x
  | flt x => exact .flt x
  | lst e => exact .lst (s _ _ e)
  | frz e => exact .frz (s _ _ e)
  | tup e => exact .tup (s _ _ e)
  | dK e => exact .dK (s _ _ e)
  | dT e => exact .dT (s _ _ e)
  | ins e a b c d f => exact .ins (s _ _ e) a b c d f
/-- is x a box's number? -/
def IsBox (K : PySem.W.Frag) (H : Hp) (x : V) (b : Bool) : Prop := (∃ i : Int, x = .int i ∧ b = decide (0 ≤ i ∧ i ≤ 7)) ∨ (b = false ∧ ((∃ y, x = .bl y) ∨ ∃ t, TyOf K H x t ∧ PySem.W.kitOne K t (.type "int") = some false))
theorem IsBox.same {K : PySem.W.Frag} {H H' : Hp} {x : V} {b : Bool} (s : Same H H') (h : IsBox K H x b) : IsBox K H' x b := by
  rcases h with h | ⟨h, h2 | ⟨t, h3, h4⟩⟩
  · exact .inl h
  · exact .inr ⟨h, .inl h2⟩
  · exact .inr ⟨h, .inr ⟨t, tyof_same s h3, h4⟩⟩
section
variable {P : Program} {w : World} {K : PySem.W.Frag} {mg : Str → Option Value} {base : Heap}
/-! ### is_whole, is_number_of -/
def spWhole : Sp := fun vs H Q _ => ∃ (x : V) (b : Bool), vs = [x] ∧ ((b = true ∧ ∃ i, x = .int i) ∨ (b = false ∧ ((∃ y, x = .bl y) ∨ ∃ t, TyOf K H x t ∧ PySem.W.kitOne K t (.type "int") = some false))) ∧ Q (.bl b) H
theorem scWhole : FnScope ["thing"] ["thing"] (defScope sWhole) := ⟨rfl, rfl, rfl, by decide +kernel, rfl, by decide +kernel, by decide +kernel⟩
theorem ok_whole {f : Addr} {fd : FuncData} (F : Fun K "is_whole" "is_whole" sWhole f fd) (T : Txt K w.params mg) : FnOk P w K mg base CX0 1 f fd ["thing"] (spWhole (K := K)) := by
  refine F.ok scWhole (fun vs H Q E h => ?_) (fun cdv A outer s H vs Q E hr h => ?_)
  · obtain ⟨x, b, rfl, _⟩ := h
    rfl
  · obtain ⟨x, b, rfl, h, k⟩ := h
    refine ⟨_, (pss_one (ps_ret (pe_and (pe_callB call_isinst (by rfl) T.isi bt_isi (pa_cons (pv 0) (pa_cons (pe_bltn (v := .ty "int") (by rfl) T.int bt_int rfl) pa_nil))) (pe_one (pe_not (pe_callB call_isinst (by rfl) T.isi bt_isi (pa_cons (pv 0) (pa_cons (pe_bltn (v := .ty "bool") (by rfl) T.bool bt_bool rfl) pa_nil)))))))), ?_⟩
    rcases h with ⟨rfl, i, rfl⟩ | ⟨rfl, ⟨y, rfl⟩ | ⟨t, ht, hk⟩⟩
    · refine ⟨_, rfl, _, _, _, _, rfl, .int _, k_int_int, true, rfl, iteP rfl ?_⟩
      exact ⟨_, rfl, _, _, _, _, rfl, .int _, k_int_bool, false, rfl, k⟩
    · refine ⟨_, rfl, _, _, _, _, rfl, .bl _, k_bool_int, true, rfl, iteP rfl ?_⟩
      exact ⟨_, rfl, _, _, _, _, rfl, .bl _, k_bool_bool, true, rfl, k⟩
    · exact ⟨_, rfl, _, _, _, _, rfl, ht, hk, false, rfl, iteN (by decide) k⟩
def spNum : Sp := fun vs H Q _ => ∃ (x : V) (b : Bool), vs = [.str "box", x] ∧ IsBox K H x b ∧ Q (.bl b) H
theorem scNum : FnScope ["kind", "thing"] ["kind", "thing"] (defScope sNum) := ⟨rfl, rfl, rfl, by decide +kernel, rfl, by decide +kernel, by decide +kernel⟩
theorem ok_num {f fW : Addr} {fd fdW : FuncData} (F : Fun K "is_number_of" "is_number_of" sNum f fd) (T : Txt K w.params mg) (GW : FnOk P w K mg base CX0 1 fW fdW ["thing"] (spWhole (K := K))) (kW : PySem.W.keepIn K (.ref fW) = true) (bW : Binds K fdW ["thing"] []) (mW : mg "is_whole" = some (.ref fW)) : FnOk P w K mg base CX0 2 f fd ["kind", "thing"] (spNum (K := K)) := by
  refine F.ok scNum (fun vs H Q E h => ?_) (fun cdv A outer s H vs Q E hr h => ?_)
  · obtain ⟨x, b, rfl, _⟩ := h
    rfl
  · obtain ⟨x, b, rfl, h, k⟩ := h
    obtain ⟨p, hp, q, hk, hq⟩ := T.bnd
    refine ⟨_, (pss_one (ps_ret (pe_and (pe_call GW hr (by rfl) mW kW bW .nil pass0 (pa_cons (pv 1) pa_nil)) (pe_one (pe_chain op_le op_le (pe_ix ix_tup (pe_kget (pe_glob (v := .ref p) (by rfl) hp rfl) (pv 0) (fun _ _ => rfl)) pe_int (fun _ _ => rfl)) (pv 1) (pe_ix ix_tup (pe_kget (pe_glob (v := .ref p) (by rfl) hp rfl) (pv 0) (fun _ _ => rfl)) pe_int (fun _ _ => rfl))))))), ?_⟩
    rcases h with ⟨i, rfl, rfl⟩ | ⟨rfl, h⟩
    · refine ⟨_, rfl, _, true, rfl, .inl ⟨rfl, i, rfl⟩, true, rfl, iteP rfl ?_⟩
      refine ⟨_, rfl, p, _, _, rfl, rfl, hk, q, _, 0, _, rfl, rfl, hq _, at0 _ _, _, rfl, _, _, rfl, rfl, _, rfl, ?_⟩
      by_cases h0 : 0 ≤ i
      · refine iteP (decide_eq_true h0) ?_
        refine ⟨_, rfl, p, _, _, rfl, rfl, hk, q, _, 1, _, rfl, rfl, hq _, at1 _ _ _, _, _, rfl, rfl, ?_⟩
        have e : decide (0 ≤ i ∧ i ≤ 7) = decide (i ≤ 7) := decide_eq_decide.mpr ⟨fun z => z.2, fun z => ⟨h0, z⟩⟩
        rw [e] at k
        exact k
      · refine iteN (fun z => h0 (of_decide_eq_true z)) ?_
        rw [decide_eq_false (fun z => h0 z.1)] at k
        exact k
    · exact ⟨_, rfl, _, false, rfl, .inr ⟨rfl, h⟩, false, rfl, iteN (by decide) k⟩
/-! ### is_claim -/
/-- what stands for a claim: right boxes, rising; or something that is no claim -/
def GoodAt (H : Hp) (v : V) (ms : List Int) : Prop := ∃ q, v = .ref q ∧ H q = some (.tup (ms.map V.int)) ∧ (∀ b ∈ ms, 0 ≤ b ∧ b ≤ 7) ∧ ms.Pairwise (· ≤ ·) ∧ ms.Nodup ∧ ms.length < 64
def BadAt (K : PySem.W.Frag) (H : Hp) (v : V) : Prop := (∃ t, TyOf K H v t ∧ PySem.W.kitOne K t (.type "tuple") = some false) ∨
  (∃ (q : Addr) (xs : List V) (bs : List Bool), v = .ref q ∧ H q = some (.tup xs) ∧ bs.length = xs.length ∧ (∀ (i : Nat) x b, xs[i]? = some x → bs[i]? = some b → IsBox K H x b) ∧ bs.all id = false ∧ xs.length < 64) ∨
  (∃ (q : Addr) (ms : List Int), v = .ref q ∧ H q = some (.tup (ms.map V.int)) ∧ (∀ b ∈ ms, 0 ≤ b ∧ b ≤ 7) ∧ ms.length < 64 ∧ ¬ (ms.Pairwise (· ≤ ·) ∧ ms.Nodup))
theorem GoodAt.same {H H' : Hp} {v : V} {ms : List Int} (s : Same H H') (h : GoodAt H v ms) : GoodAt H' v ms := by
  obtain ⟨q, a, b, c⟩ := h
  exact ⟨q, a, s _ _ b, c⟩
def spClaim : Sp := fun vs H Q _ => ∃ (v : V) (b : Bool), vs = [v] ∧ ((b = true ∧ ∃ ms, GoodAt H v ms) ∨ (b = false ∧ BadAt K H v)) ∧ ∀ H', Same H H' → Q (.bl b) H'
theorem scClaim : FnScope ["thing"] ["thing"] (defScope sClaim) := ⟨rfl, rfl, rfl, by decide +kernel, rfl, by decide +kernel, by decide +kernel⟩
def csClaimC1 : Scope := { kind := .function, names := [(".0", .local), ("box", .local), ("is_number_of", .globalImplicit)], isGenerator := false, isCoroutine := false, more := [] }
theorem scClaimC1 : CompSc (defScope sClaim) csClaimC1 ["thing"] ["box"] [none] := ⟨rfl, by decide +kernel, by decide +kernel, by decide +kernel, by decide +kernel, by decide +kernel⟩
theorem ok_claim {f fN : Addr} {fd fdN : FuncData} (F : Fun K "is_claim" "is_claim" sClaim f fd) (T : Txt K w.params mg) (GN : FnOk P w K mg base CX0 2 fN fdN ["kind", "thing"] (spNum (K := K))) (kN : PySem.W.keepIn K (.ref fN) = true) (bN : Binds K fdN ["kind", "thing"] []) (mN : mg "is_number_of" = some (.ref fN)) : FnOk P w K mg base CX0 3 f fd ["thing"] (spClaim (K := K)) := by
  refine F.ok scClaim (fun vs H Q E h => ?_) (fun cdv A outer s H vs Q E hr h => ?_)
  · obtain ⟨v, b, rfl, _⟩ := h
    rfl
  · obtain ⟨v, b, rfl, h, k⟩ := h
    have hu : (A.deeper (PyProof.Rows.envOfC "is_claim" (defScope sClaim) s.heap.objs.size f cdv)).units < cLine := Nat.lt_of_succ_lt (hu_of hr)
    refine ⟨_, (pss_cons (ps_if (pw_or (pt_not (pt_val (pe_callB call_isinst (by rfl) T.isi bt_isi (pa_cons (pv 0) (pa_cons (pe_bltn (v := .ty "tuple") (by rfl) T.tuple bt_tuple rfl) pa_nil))))) (pw_or1 (pt_not (pt_val (pe_callB (call_allB rfl) (by rfl) T.all bt_all (pa_cons (pe_comp (X := (cxOf CX0 P w K mg base ["thing"] "is_claim" (defScope sClaim) f cdv A outer s H E).nox) (N' := ["box"]) (fr := [none]) scClaimC1 rfl (pi_tup (pv 0)) (fun C s0 H0 fp => (pg_name (i := 0) scClaimC1.nd rfl (Or.inl rfl))) (fun C s0 H0 fp => pts_nil) (fun C s0 H0 fp => (pe_call GN hr (by rfl) mN kN bN .nil pass0 (pa_cons pe_str (pa_cons (pv 0) pa_nil))))) pa_nil)))))).pt (pss_one (ps_ret pe_bl)) pss_nil)
      (pss_one (ps_ret (pe_cmpR (op_eqL hu) (pe_callTy call_list_of (by rfl) T.list bt_list (pa_cons (pv 0) pa_nil)) (pe_callB (call_sorted_of rfl) (by rfl) T.sorted bt_sorted (pa_cons (pe_callTy (call_set_ofT rfl) (by rfl) T.set bt_set (pa_cons (pv 0) pa_nil)) pa_nil)) (nomark _))))), ?_⟩
    rcases (show (∃ t, b = false ∧ TyOf K H v t ∧ PySem.W.kitOne K t (.type "tuple") = some false) ∨ (∃ (q : Addr) (xs : List V) (bs : List Bool), v = .ref q ∧ H q = some (.tup xs) ∧ bs.length = xs.length ∧ (∀ (i : Nat) x b, xs[i]? = some x → bs[i]? = some b → IsBox K H x b) ∧ xs.length < 64 ∧ ((bs.all id = false ∧ b = false) ∨ ∃ ms : List Int, xs = ms.map V.int ∧ bs.all id = true ∧ b = decide (ms.Pairwise (· ≤ ·) ∧ ms.Nodup))) by
      have zint : ∀ (q : Addr) (ms : List Int), H q = some (.tup (ms.map V.int)) → (∀ b ∈ ms, 0 ≤ b ∧ b ≤ 7) → (∀ (i : Nat) x b, (ms.map V.int)[i]? = some x → (ms.map fun _ => true)[i]? = some b → IsBox K H x b) := fun q ms _ hr i x b hx hb => by
        rw [List.getElem?_map] at hx hb
        cases hm : ms[i]? with
        | none => rw [hm] at hx; cases hx
        | some z =>
          rw [hm] at hx hb
          cases hx
          cases hb
          exact .inl ⟨z, rfl, (decide_eq_true (hr z (List.mem_of_getElem? hm))).symm⟩
      have allT : ∀ ms : List Int, (ms.map fun _ => true).all id = true := fun ms => by simp
      rcases h with ⟨rfl, ms, q, hv, hq, hr, hp, hn, hl⟩ | ⟨rfl, hb⟩
      · exact .inr ⟨q, _, _, hv, hq, by simp, zint q ms hq hr, by rw [List.length_map]; exact hl, .inr ⟨ms, rfl, allT ms, (decide_eq_true ⟨hp, hn⟩).symm⟩⟩
      · rcases hb with ⟨t, ht, hk⟩ | ⟨q, xs, bs, hv, hq, hl, hbx, hf, h64⟩ | ⟨q, ms, hv, hq, hr, hl, hn⟩
        · exact .inl ⟨t, rfl, ht, hk⟩
        · exact .inr ⟨q, xs, bs, hv, hq, hl, hbx, h64, .inl ⟨hf, rfl⟩⟩
        · exact .inr ⟨q, _, _, hv, hq, by simp, zint q ms hq hr, by rw [List.length_map]; exact hl, .inr ⟨ms, rfl, allT ms, (decide_eq_false hn).symm⟩⟩) with ⟨t, rfl, ht, hk⟩ | ⟨q, xs, bs, rfl, hq, hl, hbx, h64, fin⟩
    · refine ⟨_, rfl, _, _, _, _, rfl, ht, hk, _, rfl, iteP rfl ?_⟩
      exact k _ (.refl _)
    · refine ⟨_, rfl, _, _, _, _, rfl, .tup hq, k_tuple_tuple, _, rfl, iteN (by decide) ?_⟩
      refine ⟨_, rfl, q, rfl, ⟨_, SqT.of hq⟩, fun D nD => comp_tup (K := K) (a := q) (xs := xs) (fun i σ ys H1 => ∃ (v : Option V), σ = [v] ∧ ys = (bs.take i).map V.bl ∧ Same H H1 ∧ H1 D = some (.lst ys)) ?_ ?_ ?_ ?_⟩
      · exact ⟨none, rfl, rfl, same_new nD, upd_same⟩
      · rintro i σ ys H1 _ ⟨v, rfl, rfl, s1, _⟩
        exact SqT.of (s1 _ _ hq)
      · rintro i x σ ys H1 hx ⟨v, rfl, rfl, s1, hD⟩
        have hil := (List.getElem?_eq_some_iff.mp hx).1
        have hbb : bs[i]? = some bs[i] := List.getElem?_eq_getElem (by omega)
        refine ⟨_, rfl, x, bs[i], rfl, (hbx i x _ hx hbb).same s1, hD, ?_, ?_⟩
        · rw [List.length_map, List.length_take]
          exact small1000 (by omega)
        · refine ⟨_, rfl, ?_, same_put s1 nD, upd_same⟩
          rw [List.take_succ, hbb, List.map_append]
          rfl
      · rintro σ ys H1 ⟨v, rfl, rfl, s1, hD⟩
        rw [show bs.take xs.length = bs by rw [← hl, List.take_length]] at hD
        refine ⟨D, bs, rfl, SqL.of hD, _, rfl, ?_⟩
        rcases fin with ⟨hf, rfl⟩ | ⟨ms, rfl, ht, rfl⟩
        · rw [hf]
          exact iteP rfl (k H1 s1)
        · rw [ht]
          refine iteN (by decide) ?_
          refine ⟨_, rfl, q, _, rfl, .inr (SqT.of (s1 _ _ hq)), fun l nl => ?_⟩
          have s2 := s1.trans (same_new (o := .lst (ms.map V.int)) nl)
          have hll : upd H1 l (.lst (ms.map V.int)) l = _ := upd_same
          generalize upd H1 l (.lst (ms.map V.int)) = H2 at s2 hll ⊢
          rw [List.length_map] at h64
          refine ⟨_, rfl, q, ms, rfl, SqT.of (s2 _ _ hq), by omega, fun l2 us nl2 hlen hnd hmem => ?_⟩
          have z3 := same_new (o := setO P w l2 us) nl2
          have h3 : upd H2 l2 (setO P w l2 us) l2 = _ := upd_same
          have hll3 := z3 _ _ hll
          have s3 := s2.trans z3
          refine ⟨l2, us, rfl, h3, by omega, fun l3 ss nl3 hperm hpw => ?_⟩
          have z4 := same_new (o := .lst (ss.map V.int)) nl3
          refine ⟨l, l3, _, _, rfl, rfl, SqL.of (z4 _ _ hll3), SqL.of upd_same, fun i a b ha hb => ?_, ?_⟩
          · rw [List.getElem?_map] at ha hb
            cases h1 : ms[i]? with
            | none => rw [h1] at ha; cases ha
            | some x =>
              cases h2 : ss[i]? with
              | none => rw [h2] at hb; cases hb
              | some y =>
                rw [h1] at ha
                rw [h2] at hb
                cases ha
                cases hb
                exact .inl (.inr (.inl ⟨_, _, rfl, rfl⟩))
          · have e : decide (ms.map V.int = ss.map V.int) = decide (ms.Pairwise (· ≤ ·) ∧ ms.Nodup) := by
              refine decide_eq_decide.mpr ⟨fun z => ?_, fun z => ?_⟩
              · have z2 : ms = ss := (List.map_inj_right (fun _ _ h => V.int.inj h)).mp z
                rw [z2]
                exact ⟨hpw, hperm.nodup_iff.mpr hnd⟩
              · have r1 : RisesTo ms (· ∈ ms) := ⟨z.1, z.2, fun j => Iff.rfl⟩
                have r2 : RisesTo ss (· ∈ ms) := ⟨hpw, hperm.nodup_iff.mpr hnd, fun j => by rw [hperm.mem_iff, hmem]⟩
                rw [RisesTo.eq r1 r2]
            have kk := k _ (s3.trans z4)
            rw [← e] at kk
            exact kk
end
end My


set_option Elab.async false
set_option linter.all false
set_option maxRecDepth 100000
set_option maxHeartbeats 4000000
namespace My
open PySem L2
section
variable {P : Program} {w : World} {K : PySem.W.Frag} {mg : Str → Option Value} {base : Heap}
/-! ### goes_on -/
def spGoes : Sp := fun vs H Q _ => ∃ (r : Addr) (w : Str) (items : List V), vs = [.ref r] ∧ H r = some (.tup (.str w :: items)) ∧ Q (.bl (!decide (w ∈ notOn))) H
theorem scGoes : FnScope ["row"] ["row"] (defScope sGoes) := ⟨rfl, rfl, rfl, by decide +kernel, rfl, by decide +kernel, by decide +kernel⟩
theorem ok_goes {f : Addr} {fd : FuncData} (F : Fun K "goes_on" "goes_on" sGoes f fd) (T : Txt K w.params mg) : FnOk P w K mg base CX0 1 f fd ["row"] spGoes := by
  refine F.ok scGoes (fun vs H Q E h => ?_) (fun cdv A outer s H vs Q E hr h => ?_)
  · obtain ⟨r, w, items, rfl, _⟩ := h
    rfl
  · obtain ⟨r, w', items, rfl, hR, k⟩ := h
    obtain ⟨p, hp, hq⟩ := T.non
    refine ⟨_, pss_one (ps_ret (pe_cmpR op_notIn_seq (pe_ix ix_tup (pv 0) pe_int (fun _ _ => rfl)) (pe_glob (v := .ref p) rfl hp rfl) rfl)), ?_⟩
    refine ⟨_, rfl, r, _, 0, .str w', rfl, rfl, SqT.of hR, at0 _ _, p, _, rfl, .inr (hq _), rfl, rfl, ?_⟩
    show Q (.bl (!inV (.str w') (notOn.map V.str))) H
    rw [inV_str]
    exact k
/-! ### targets_of -/
def spTargets : Sp := fun vs H Q _ => ∃ (r : Addr) (w : Str) (ts : List Int), vs = [.ref r] ∧ RowAt H r w ts ∧ ∀ (l : Addr) (H' : Hp), Same H H' → H l = none → H' l = some (.lst (ts.map V.int)) → Q (.ref l) H'
theorem scTargets : FnScope ["row", "word"] ["row"] (defScope sTargets) := ⟨rfl, rfl, rfl, by decide +kernel, rfl, by decide +kernel, by decide +kernel⟩
theorem ok_targets {f : Addr} {fd : FuncData} (F : Fun K "targets_of" "targets_of" sTargets f fd) (T : Txt K w.params mg) : FnOk P w K mg base CX0 1 f fd ["row"] spTargets := by
  refine F.ok scTargets (fun vs H Q E h => ?_) (fun cdv A outer s H vs Q E hr h => ?_)
  · obtain ⟨r, w, ts, rfl, _⟩ := h
    rfl
  · obtain ⟨r, w', ts, rfl, ⟨items, hR, hP⟩, k⟩ := h
    refine ⟨_, pss_cons (ps_set (i := 1) scTargets.nd rfl (Or.inl rfl) (pe_ix ix_tup (pv 0) pe_int (fun _ _ => rfl)))
      (pss_cons (ps_if (pt_cmpR op_eq (pv 1) pe_str (nomark _)) (pss_one (ps_ret (pe_callTy call_list_of (by rfl) T.list bt_list (pa_cons (pe_ix ix_tup (pv 0) pe_int (fun _ _ => rfl)) pa_nil)))) pss_nil)
      (pss_cons (ps_if (pt_cmpR op_in_seq (pv 1) (pe_tup (pa_cons pe_str (pa_cons pe_str (pa_cons pe_str pa_nil)))) rfl) (pss_one (ps_ret (pe_lst (pa_cons (pe_ix ix_tup (pv 0) pe_int (fun _ _ => rfl)) pa_nil)))) pss_nil)
      (pss_cons (ps_if (pt_cmpR op_in_seq (pv 1) (pe_tup (pa_cons pe_str (pa_cons pe_str pa_nil))) rfl) (pss_one (ps_ret (pe_lst (pa_cons (pe_ix ix_tup (pv 0) pe_int (fun _ _ => rfl)) pa_nil)))) pss_nil)
      (pss_one (ps_ret (pe_lst pa_nil)))))), ?_⟩
    refine ⟨_, rfl, r, _, 0, .str w', rfl, rfl, SqT.of hR, at0 _ _, _, rfl, rfl, _, rfl, ?_⟩
    refine ite2 (fun h1 => ?_) (fun h1 => ?_)
    · have h1 := strEq h1
      unfold Parts at hP
      rw [if_pos h1] at hP
      obtain ⟨b, q, rfl, hq⟩ := hP
      refine ⟨_, rfl, r, _, 2, .ref q, rfl, rfl, SqT.of hR, at2 _ _ _ _, q, _, rfl, .inr (SqT.of hq), fun l hl => ?_⟩
      exact k l _ (same_new hl) hl upd_same
    · have h1 := strNe h1
      unfold Parts at hP
      rw [if_neg h1] at hP
      refine ⟨_, rfl, (by show 3 ≤ sizeLine; decide), fun t ht => ⟨t, jcm.map V.str, rfl, .inr (SqT.of upd_same), rfl, rfl, _, rfl, ?_⟩⟩
      have s1 := same_new (o := .tup (jcm.map V.str)) ht
      have hR1 := s1 _ _ hR
      rw [show inV (.str w') (jcm.map V.str) = decide (w' ∈ jcm) from inV_str _ _]
      refine ite2 (fun h2 => ?_) (fun h2 => ?_)
      · have h2 := of_decide_eq_true h2
        rw [if_pos h2] at hP
        obtain ⟨t', f', rfl, rfl⟩ := hP
        refine ⟨_, rfl, r, _, 1, .int t', rfl, rfl, SqT.of hR1, at1 _ _ _, (by show 1 ≤ sizeLine; decide), fun l hl => ?_⟩
        exact k l _ (s1.trans (same_new hl)) (s1.free hl) upd_same
      · have h2 : ¬ w' ∈ jcm := fun e => h2 (decide_eq_true e)
        rw [if_neg h2] at hP
        refine ⟨_, rfl, (by show 2 ≤ sizeLine; decide), fun t2 ht2 => ⟨t2, zb.map V.str, rfl, .inr (SqT.of upd_same), rfl, rfl, _, rfl, ?_⟩⟩
        have s2 := s1.trans (same_new (o := .tup (zb.map V.str)) ht2)
        have hR2 := s2 _ _ hR
        rw [show inV (.str w') (zb.map V.str) = decide (w' ∈ zb) from inV_str _ _]
        refine ite2 (fun h3 => ?_) (fun h3 => ?_)
        · have h3 := of_decide_eq_true h3
          rw [if_pos h3] at hP
          obtain ⟨b, t', f', rfl, rfl⟩ := hP
          refine ⟨_, rfl, r, _, 2, .int t', rfl, rfl, SqT.of hR2, at2 _ _ _ _, (by show 1 ≤ sizeLine; decide), fun l hl => ?_⟩
          exact k l _ (s2.trans (same_new hl)) (s2.free hl) upd_same
        · have h3 : ¬ w' ∈ zb := fun e => h3 (decide_eq_true e)
          rw [if_neg h3] at hP
          subst hP
          refine ⟨(by show 0 ≤ sizeLine; decide), fun l hl => ?_⟩
          exact k l _ (s2.trans (same_new hl)) (s2.free hl) upd_same
/-! ### ways_of -/
def spWays : Sp := fun vs H Q _ => ∃ (p q : Addr) (rows : List V) (r : Nat) (w : Str) (ts : List Int), vs = [.ref p, .int r] ∧ SqL K H p rows ∧ rows[r]? = some (.ref q) ∧ RowAt H q w ts ∧ ts.length ≤ 16 ∧
  ∀ (l : Addr) (ms : List Int) (H' : Hp), Same H H' → H l = none → H' l = some (.lst (ms.map V.int)) → ms.Pairwise (· ≤ ·) → ms.Nodup → (∀ j, j ∈ ms ↔ j ∈ ts ∨ (¬ w ∈ notOn ∧ j = r + 1)) → Q (.ref l) H'
theorem scWays : FnScope ["rows", "r", "ways"] ["rows", "r"] (defScope sWays) := ⟨rfl, rfl, rfl, by decide +kernel, rfl, by decide +kernel, by decide +kernel⟩
theorem ok_ways {f fG fT : Addr} {fd fdG fdT : FuncData} (F : Fun K "ways_of" "ways_of" sWays f fd) (T : Txt K w.params mg) (GG : FnOk P w K mg base CX0 1 fG fdG ["row"] spGoes) (kG : PySem.W.keepIn K (.ref fG) = true) (bG : Binds K fdG ["row"] []) (mG : mg "goes_on" = some (.ref fG)) (GT : FnOk P w K mg base CX0 1 fT fdT ["row"] spTargets) (kT : PySem.W.keepIn K (.ref fT) = true) (bT : Binds K fdT ["row"] []) (mT : mg "targets_of" = some (.ref fT)) : FnOk P w K mg base CX0 2 f fd ["rows", "r"] (spWays (K := K)) := by
  refine F.ok scWays (fun vs H Q E h => ?_) (fun cdv A outer s H vs Q E hr h => ?_)
  · obtain ⟨p, q, rows, r, w, ts, rfl, _⟩ := h
    rfl
  · obtain ⟨p, q, rows, r, w', ts, rfl, hS, hq, hR, hlen, k⟩ := h
    refine ⟨_, pss_cons (ps_set (i := 2) scWays.nd rfl (Or.inl rfl) (pe_call GT hr (by rfl) mT kT bT .nil pass0 (pa_cons (pe_ix ix_list (pv 0) (pv 1) (fun _ _ => rfl)) pa_nil)))
      (pss_cons (ps_if (pt_val (pe_call GG hr (by rfl) mG kG bG .nil pass0 (pa_cons (pe_ix ix_list (pv 0) (pv 1) (fun _ _ => rfl)) pa_nil)))
        (pss_one (ps_expr (pe_bm PySem.F.plainAttrs_list PySem.F.slot_list_append PySem.F.type_list_append mt_append (pv 2) (pa_cons (pe_op op_add (pv 1) pe_int) pa_nil)))) pss_nil)
      (pss_one (ps_ret (pe_callB (call_sorted_of rfl) (by rfl) T.sorted bt_sorted (pa_cons (pe_callTy (call_set_of rfl) (by rfl) T.set bt_set (pa_cons (pv 2) pa_nil)) pa_nil))))), ?_⟩
    refine ⟨_, rfl, _, rfl, p, rows, r, .ref q, rfl, rfl, hS, atI_nat hq, q, w', ts, rfl, hR, fun l H1 s1 nl hl => ?_⟩
    have hS1 := s1.seq hS
    obtain ⟨items, hq1, _⟩ := hR.same s1
    refine ⟨_, rfl, _, rfl, p, rows, r, .ref q, rfl, rfl, hS1, atI_nat hq, q, w', items, rfl, hq1, _, rfl, ?_⟩
    -- the end: a set of the list, sorted
    have fin : ∀ (ns : List Int) (H2 : Hp), Same H H2 → H2 l = some (.lst (ns.map V.int)) → ns.length ≤ 17 → (∀ j, j ∈ ns ↔ j ∈ ts ∨ (¬ w' ∈ notOn ∧ j = r + 1)) →
        ∃ v, [some (V.ref p), some (V.int r), some (V.ref l)][2]? = some (some v) ∧ ∃ (p' : Addr) (ns' : List Int), [v] = [V.ref p'] ∧ SqL K H2 p' (ns'.map V.int) ∧ ns'.length < 4000 ∧ ∀ (l' : Addr) (us : List Int), H2 l' = none → us.length ≤ ns'.length → us.Nodup → (∀ j, j ∈ us ↔ j ∈ ns') →
          ∃ (p2 : Addr) (us2 : List Int), [V.ref l'] = [V.ref p2] ∧ (upd H2 l' (setO P w l' us)) p2 = some (setO P w p2 us2) ∧ us2.length < 64 ∧ ∀ (l2 : Addr) (ms : List Int), (upd H2 l' (setO P w l' us)) l2 = none → ms.Perm us2 → ms.Pairwise (· ≤ ·) → Q (.ref l2) (upd (upd H2 l' (setO P w l' us)) l2 (.lst (ms.map V.int))) := by
      intro ns H2 s2 h2 hl2 hm
      refine ⟨_, rfl, l, ns, rfl, SqL.of h2, by omega, fun l' us nl' hu hnd hmu => ⟨l', us, rfl, upd_same, by omega, fun l2 ms nl2 hp hpw => ?_⟩⟩
      have s3 := s2.trans (same_new (o := setO P w l' us) nl')
      exact k l2 ms _ (s3.trans (same_new nl2)) (s3.free nl2) upd_same hpw (hp.nodup_iff.mpr hnd) (fun j => by rw [hp.mem_iff, hmu, hm])
    refine ite2 (fun h1 => ?_) (fun h1 => ?_)
    · have h1 : ¬ w' ∈ notOn := by simpa using h1
      refine ⟨_, rfl, .inl ⟨rfl, _, SqL.of hl⟩, _, rfl, _, _, rfl, rfl, l, _, _, rfl, rfl, hl, ?_, ?_⟩
      · rw [List.length_map]
        exact small1000 (by omega)
      · have e : (ts.map V.int ++ [V.int ((r : Int) + 1)]) = (ts ++ [(r : Int) + 1]).map V.int := by simp
        rw [e]
        refine fin (ts ++ [(r : Int) + 1]) _ ?_ upd_same (by simp; omega) (fun j => ?_)
        · intro b o z
          rw [upd_ne (ne_of_none z nl)]
          exact s1 b o z
        · rw [List.mem_append, List.mem_singleton]
          exact ⟨fun z => z.imp id fun e => ⟨h1, e⟩, fun z => z.imp id fun e => e.2⟩
    · have h1 : w' ∈ notOn := by simpa using h1
      refine fin ts _ s1 hl (by omega) (fun j => ⟨.inl, fun z => z.elim id fun e => absurd h1 e.1⟩)
end
end My


set_option Elab.async false
set_option linter.all false
set_option maxRecDepth 100000
set_option maxHeartbeats 4000000
namespace My
open PySem L2
theorem inV_int (w : Int) : ∀ ss : List Int, inV (.int w) (ss.map V.int) = decide (w ∈ ss)
  | [] => rfl
  | x :: r => by
    have ih := inV_int w r
    unfold inV at ih ⊢
    rw [List.map_cons, List.any_cons, ih]
    show ((x == w) || _) = _
    by_cases h : x = w
    · subst h
      simp
    · have h' : ¬ w = x := fun e => h e.symm
      simp [h, h']
theorem flat_ints (ms : List Int) : (ms.map V.int).all flatV = true := by
  rw [List.all_eq_true]
  intro x hx
  obtain ⟨i, _, rfl⟩ := List.mem_map.mp hx
  rfl
theorem nodup_len : ∀ {ms xs : List Int}, ms.Nodup → (∀ j ∈ ms, j ∈ xs) → ms.length ≤ xs.length
  | [], _, _, _ => Nat.zero_le _
  | m :: ms, xs, hn, h => by
    have hm : m ∈ xs := h m (by simp)
    have := nodup_len (ms := ms) (xs := xs.erase m) (List.nodup_cons.mp hn).2 (fun j hj => (List.mem_erase_of_ne (fun (e : j = m) => (List.nodup_cons.mp hn).1 (by rw [← e]; exact hj))).mpr (h j (by simp [hj])))
    rw [List.length_erase_of_mem hm] at this
    have : 0 < xs.length := List.length_pos_of_mem hm
    simp
    omega
theorem small_len {n : Nat} (h : n ≤ 1000000) : n ≤ sizeLine := Nat.le_trans h (by decide)
theorem small_lt {n : Nat} (h : n ≤ 1000000) : n < sizeLine := Nat.lt_of_le_of_lt h (by decide)
/-! ### rows as data: word, numbers, targets -/
structure FR where
  u : Str
  is : List Int
  ts : List Int
/-- numbers and targets by the word -/
def FR.Ok (d : FR) : Prop := d.u ∈ all20 ∧ (d.u = "table" → ∃ b, d.is = [b]) ∧ (d.u ∈ jcm → ∃ t f, d.is = [t, f] ∧ d.ts = [t]) ∧ (d.u ∈ zb → ∃ b t f, d.is = [b, t, f] ∧ d.ts = [t]) ∧
  (¬ d.u = "table" → ¬ d.u ∈ jcm → ¬ d.u ∈ zb → d.ts = []) ∧ (d.u ∈ w2 → ∃ b c, d.is = [b, c]) ∧ (d.u ∈ w1 → ∃ b r, d.is = b :: r)
def FRAt (H : Hp) (q : Addr) (d : FR) : Prop := (d.u = "table" ∧ ∃ b p, d.is = [b] ∧ H q = some (.tup [.str d.u, .int b, .ref p]) ∧ H p = some (.tup (d.ts.map V.int))) ∨ (¬ d.u = "table" ∧ H q = some (.tup (.str d.u :: d.is.map V.int)))
def RowF (H : Hp) (q : Addr) (d : FR) : Prop := d.Ok ∧ FRAt H q d
theorem RowF.same {H H' : Hp} {q : Addr} {d : FR} (s : Same H H') (h : RowF H q d) : RowF H' q d := by
  obtain ⟨o, h⟩ := h
  refine ⟨o, ?_⟩
  rcases h with ⟨a, b, p, e, h1, h2⟩ | ⟨a, h1⟩
  · exact .inl ⟨a, b, p, e, s _ _ h1, s _ _ h2⟩
  · exact .inr ⟨a, s _ _ h1⟩
/-- what the functions of rows ask for -/
theorem RowF.parts {H : Hp} {q : Addr} {d : FR} (h : RowF H q d) : ∃ items, H q = some (.tup (.str d.u :: items)) ∧ ItemsOk d.u items ∧ Parts H d.u items d.ts ∧ ∀ (i : Nat) (b : Int), (d.u ∈ w1 ∨ d.u ∈ w2) → i < 2 → (d.u ∈ w1 → i = 0) → (items[i]? = some (.int b) ↔ d.is[i]? = some b) := by
  obtain ⟨⟨hu, h1, h2, h3, h4, h5, h6⟩, h⟩ := h
  rcases h with ⟨a, b, p, e, g1, g2⟩ | ⟨a, g1⟩
  · refine ⟨_, g1, ItemsOk.one (by rw [a]; decide), ?_, fun i b' _ hi hw => ?_⟩
    · unfold Parts
      rw [if_pos a]
      exact ⟨_, p, rfl, g2⟩
    · have : i = 0 := hw (by rw [a]; decide)
      subst this
      rw [e]
      simp
  · refine ⟨_, g1, ⟨fun z => ?_, fun z => ?_⟩, ?_, fun i b' _ hi hw => ?_⟩
    · obtain ⟨b, c, e⟩ := h5 z
      exact ⟨b, c, by rw [e]; rfl⟩
    · obtain ⟨b, r, e⟩ := h6 z
      exact ⟨b, r.map V.int, by rw [e]; rfl⟩
    · unfold Parts
      rw [if_neg a]
      split
      · rename_i z
        obtain ⟨t, f, e1, e2⟩ := h2 z
        exact ⟨t, .int f, by rw [e1]; rfl, e2⟩
      · rename_i z1
        split
        · rename_i z
          obtain ⟨b, t, f, e1, e2⟩ := h3 z
          exact ⟨.int b, t, .int f, by rw [e1]; rfl, e2⟩
        · rename_i z2
          exact h4 a z1 z2
    · rw [List.getElem?_map, Option.map_eq_some_iff]
      exact ⟨fun ⟨y, e1, e2⟩ => by cases e2; exact e1, fun e => ⟨b', e, rfl⟩⟩
/-! ### what a row needs and writes, where it leads -/
def needF (d : FR) (b : Int) : Bool := decide (d.u ∈ ends3) || ((decide (d.u ∈ fA) && decide (d.is[1]? = some b)) || ((decide (d.u ∈ fB) && (decide (d.is[0]? = some b) || decide (d.is[1]? = some b))) || (decide (d.u ∈ fC) && decide (d.is[0]? = some b))))
def wrF (d : FR) (b : Int) : Bool := decide (d.u ∈ w7) && decide (d.is[0]? = some b)
def ahd (d : FR) (r : Nat) : List Int := if d.u = "call" ∨ d.u ∈ notOn then d.ts else d.ts ++ [(r : Int) + 1]
def inCl (cl : List (List Int)) (b s : Int) : Bool := match cl[s.toNat]? with
  | some c => decide (b ∈ c)
  | none => false
def rightD (d : FR) (cl : List (List Int)) (r : Nat) (b : Int) : Bool := !needF d b && (wrF d b || (ahd d r).all (inCl cl b))
theorem need_iff {H : Hp} {q : Addr} {d : FR} {items : List V} (h : RowF H q d) (hi : ∀ (i : Nat) (b : Int), (d.u ∈ w1 ∨ d.u ∈ w2) → i < 2 → (d.u ∈ w1 → i = 0) → (items[i]? = some (.int b) ↔ d.is[i]? = some b)) (b : Int) : needF d b = true ↔ (d.u ∈ ends3 ∨ Need d.u items b) := by
  have hA : d.u ∈ fA → (items[1]? = some (.int b) ↔ d.is[1]? = some b) := fun z => by
    have := (by decide +kernel : ∀ u ∈ fA, u ∈ w2 ∧ ¬ u ∈ w1) _ z
    exact hi 1 b (.inr this.1) (by decide) (fun y => absurd y this.2)
  have hB0 : d.u ∈ fB → (items[0]? = some (.int b) ↔ d.is[0]? = some b) := fun z => by
    have := (by decide +kernel : ∀ u ∈ fB, u ∈ w2 ∧ ¬ u ∈ w1) _ z
    exact hi 0 b (.inr this.1) (by decide) (fun y => absurd y this.2)
  have hB1 : d.u ∈ fB → (items[1]? = some (.int b) ↔ d.is[1]? = some b) := fun z => by
    have := (by decide +kernel : ∀ u ∈ fB, u ∈ w2 ∧ ¬ u ∈ w1) _ z
    exact hi 1 b (.inr this.1) (by decide) (fun y => absurd y this.2)
  have hC : d.u ∈ fC → (items[0]? = some (.int b) ↔ d.is[0]? = some b) := fun z => by
    have := (by decide +kernel : ∀ u ∈ fC, u ∈ w1) _ z
    exact hi 0 b (.inl this) (by decide) (fun _ => rfl)
  unfold needF Need
  simp only [Bool.or_eq_true, Bool.and_eq_true, decide_eq_true_iff]
  refine or_congr_right (or_congr (and_congr_right fun z => (hA z).symm) (or_congr (and_congr_right fun z => or_congr (hB0 z).symm (hB1 z).symm) (and_congr_right fun z => (hC z).symm)))
theorem wrote_iff {d : FR} {items : List V} (hu : ItemsOk d.u items) (hi : ∀ (i : Nat) (b : Int), (d.u ∈ w1 ∨ d.u ∈ w2) → i < 2 → (d.u ∈ w1 → i = 0) → (items[i]? = some (.int b) ↔ d.is[i]? = some b)) {ms : List Int} (h : WroteIs d.u items ms) (b : Int) : decide (b ∈ ms) = wrF d b := by
  unfold wrF
  rcases h with ⟨a, b0, r, e, rfl⟩ | ⟨a, rfl⟩
  · rw [decide_eq_true a, Bool.true_and]
    refine decide_eq_decide.mpr ?_
    have hw := (by decide +kernel : ∀ u ∈ w7, u ∈ w1 ∨ u ∈ w2) _ a
    rw [← hi 0 b hw (by decide) (fun _ => rfl), e]
    simp [eq_comm]
  · rw [decide_eq_false a]
    simp
section
variable {P : Program} {w : World} {K : PySem.W.Frag} {mg : Str → Option Value} {base : Heap}
/-! ### needs_at_once -/
def spNeeds : Sp := fun vs H Q _ => ∃ (q : Addr) (b : Int) (d : FR), vs = [.ref q, .int b] ∧ RowF H q d ∧ ∀ H', Same H H' → Q (.bl (needF d b)) H'
theorem scNeeds : FnScope ["row", "box"] ["row", "box"] (defScope sNeeds) := ⟨rfl, rfl, rfl, by decide +kernel, rfl, by decide +kernel, by decide +kernel⟩
theorem ok_needs {f fR : Addr} {fd fdR : FuncData} (F : Fun K "needs_at_once" "needs_at_once" sNeeds f fd) (T : Txt K w.params mg) (GR : FnOk P w K mg base CX0 1 fR fdR ["row"] spReads) (kR : PySem.W.keepIn K (.ref fR) = true) (bR : Binds K fdR ["row"] []) (mR : mg "reads_of" = some (.ref fR)) : FnOk P w K mg base CX0 2 f fd ["row", "box"] spNeeds := by
  refine F.ok scNeeds (fun vs H Q E h => ?_) (fun cdv A outer s H vs Q E hr h => ?_)
  · obtain ⟨q, b, d, rfl, _⟩ := h
    rfl
  · obtain ⟨q, b, d, rfl, hR, k⟩ := h
    obtain ⟨p, hp, hq⟩ := T.ends
    obtain ⟨items, g1, g2, g3, g4⟩ := hR.parts
    refine ⟨_, (pss_one (ps_ret (pe_or (pe_cmpR op_in_seq (pe_ix ix_tup (pv 0) pe_int (fun _ _ => rfl)) (pe_glob (v := .ref p) (by rfl) hp rfl) rfl) (pe_one (pe_cmpR op_in_seq (pv 1) (pe_call GR hr (by rfl) mR kR bR .nil pass0 (pa_cons (pv 0) pa_nil)) rfl))))), ?_⟩
    refine ⟨_, rfl, q, _, 0, _, rfl, rfl, SqT.of g1, at0 _ _, p, _, rfl, .inr (hq _), rfl, rfl, _, rfl, ?_⟩
    rw [show inV (.str d.u) (ends3.map V.str) = decide (d.u ∈ ends3) from inV_str _ _]
    refine ite2 (fun e => ?_) (fun e => ?_)
    · have : needF d b = true := (need_iff hR g4 b).mpr (.inl (of_decide_eq_true e))
      have kk := k H (.refl _)
      rw [this] at kk
      exact kk
    · have e : ¬ d.u ∈ ends3 := fun z => e (decide_eq_true z)
      refine ⟨_, rfl, _, rfl, q, d.u, _, rfl, g1, hR.1.1, g2, fun l ms H' s' nl hl hlen hrt => ?_⟩
      refine ⟨l, _, rfl, .inl (SqL.of hl), rfl, flat_ints ms, ?_⟩
      have kk := k H' s'
      have e2 : needF d b = decide (b ∈ ms) := by
        rw [Bool.eq_iff_iff, decide_eq_true_iff, need_iff hR g4 b, hrt.2.2 b]
        exact ⟨fun z => z.elim (fun y => absurd y e) id, .inr⟩
      rw [e2, ← inV_int] at kk
      exact kk
/-! ### ways_ahead -/
/-- the rows of a list -/
def RowsF (H : Hp) (lr : Addr) (ds : List FR) : Prop := ∃ qs : List Addr, H lr = some (.lst (qs.map V.ref)) ∧ qs.length = ds.length ∧ ∀ (i : Nat) q d, qs[i]? = some q → ds[i]? = some d → RowF H q d
theorem RowsF.same {H H' : Hp} {lr : Addr} {ds : List FR} (s : Same H H') (h : RowsF H lr ds) : RowsF H' lr ds := by
  obtain ⟨qs, a, b, c⟩ := h
  exact ⟨qs, s _ _ a, b, fun i q d h1 h2 => (c i q d h1 h2).same s⟩
theorem RowsF.get {H : Hp} {lr : Addr} {ds : List FR} {r : Nat} {d : FR} (h : RowsF H lr ds) (hd : ds[r]? = some d) : ∃ (qs : List Addr) (q : Addr), H lr = some (.lst (qs.map V.ref)) ∧ atI (qs.map V.ref) (r : Int) = some (.ref q) ∧ (qs.map V.ref)[r]? = some (.ref q) ∧ RowF H q d := by
  obtain ⟨qs, a, b, c⟩ := h
  have hr := (List.getElem?_eq_some_iff.mp hd).1
  have hq : qs[r]? = some (qs[r]'(by omega)) := List.getElem?_eq_getElem _
  have hq' : (qs.map V.ref)[r]? = some (.ref (qs[r]'(by omega))) := by rw [List.getElem?_map, hq]; rfl
  exact ⟨qs, _, a, atI_nat hq', hq', c r _ d hq hd⟩
def spAhead : Sp := fun vs H Q _ => ∃ (lr : Addr) (ds : List FR) (r : Nat) (d : FR), vs = [.ref lr, .int (r : Int)] ∧ RowsF H lr ds ∧ ds[r]? = some d ∧ d.ts.length ≤ 16 ∧ ∀ (l : Addr) (ms : List Int) (H' : Hp), Same H H' → H l = none → H' l = some (.lst (ms.map V.int)) → ms.length ≤ 1000 → (∀ j, j ∈ ms ↔ j ∈ ahd d r) → Q (.ref l) H'
theorem scAhead : FnScope ["rows", "r"] ["rows", "r"] (defScope sAhead) := ⟨rfl, rfl, rfl, by decide +kernel, rfl, by decide +kernel, by decide +kernel⟩
theorem ok_ahead {f fT fW : Addr} {fd fdT fdW : FuncData} (F : Fun K "ways_ahead" "ways_ahead" sAhead f fd) (T : Txt K w.params mg) (GT : FnOk P w K mg base CX0 1 fT fdT ["row"] spTargets) (kT : PySem.W.keepIn K (.ref fT) = true) (bT : Binds K fdT ["row"] []) (mT : mg "targets_of" = some (.ref fT)) (GW : FnOk P w K mg base CX0 2 fW fdW ["rows", "r"] (spWays (K := K))) (kW : PySem.W.keepIn K (.ref fW) = true) (bW : Binds K fdW ["rows", "r"] []) (mW : mg "ways_of" = some (.ref fW)) : FnOk P w K mg base CX0 3 f fd ["rows", "r"] spAhead := by
  refine F.ok scAhead (fun vs H Q E h => ?_) (fun cdv A outer s H vs Q E hr h => ?_)
  · obtain ⟨lr, ds, r, d, rfl, _⟩ := h
    rfl
  · obtain ⟨lr, ds, r, d, rfl, hR, hd, ht, k⟩ := h
    have hr1 := hr.mono (show 1 ≤ 2 by decide)
    obtain ⟨qs, q, g1, g2, g2', g3⟩ := hR.get hd
    obtain ⟨items, i1, i2, i3, i4⟩ := g3.parts
    refine ⟨_, (pss_one (ps_ret (pe_ifExp (pt_cmpR op_eq (pe_ix ix_tup (pe_ix ix_list (pv 0) (pv 1) (fun _ _ => rfl)) pe_int (fun _ _ => rfl)) pe_str (nomark _)) (pe_call GT hr1 (by rfl) mT kT bT .nil pass0 (pa_cons (pe_ix ix_list (pv 0) (pv 1) (fun _ _ => rfl)) pa_nil)) (pe_call GW hr (by rfl) mW kW bW .nil pass0 (pa_cons (pv 0) (pa_cons (pv 1) pa_nil)))))), ?_⟩
    refine ⟨_, rfl, _, rfl, lr, _, _, _, rfl, rfl, SqL.of g1, g2, q, _, 0, _, rfl, rfl, SqT.of i1, at0 _ _, rfl, _, rfl, ?_⟩
    refine ite2 (fun e => ?_) (fun e => ?_)
    · have e := strEq e
      refine ⟨_, rfl, _, rfl, lr, _, _, _, rfl, rfl, SqL.of g1, g2, q, d.u, d.ts, rfl, ⟨items, i1, i3⟩, fun l H' s' nl hl => ?_⟩
      refine k l d.ts H' s' nl hl (by omega) fun j => ?_
      unfold ahd
      rw [if_pos (.inl e)]
    · have e := strNe e
      refine ⟨_, rfl, _, rfl, lr, q, _, r, d.u, d.ts, rfl, SqL.of g1, g2', ⟨items, i1, i3⟩, ht, fun l ms H' s' nl hl hp hn hm => ?_⟩
      have hms : ms.length ≤ 17 := by
        have hsub : ms ⊆ d.ts ++ [(r : Int) + 1] := fun j hj => by
          rw [List.mem_append, List.mem_singleton]
          exact ((hm j).mp hj).imp id fun z => z.2
        have := nodup_len hn hsub
        rw [List.length_append, List.length_singleton] at this
        omega
      refine k l ms H' s' nl hl (by omega) fun j => ?_
      rw [hm j]
      unfold ahd
      by_cases hn : d.u ∈ notOn
      · rw [if_pos (.inr hn)]
        exact ⟨fun z => z.elim id fun y => absurd hn y.1, .inl⟩
      · rw [if_neg (fun z => z.elim e hn), List.mem_append, List.mem_singleton]
        exact ⟨fun z => z.imp id fun y => y.2, fun z => z.imp id fun y => ⟨hn, y⟩⟩
/-! ### is_right -/
/-- claims: a list of tuples of boxes -/
def ClaimsF (H : Hp) (lc : Addr) (cl : List (List Int)) : Prop := ∃ cs : List V, H lc = some (.lst cs) ∧ cs.length = cl.length ∧ ∀ (i : Nat) c ms, cs[i]? = some c → cl[i]? = some ms → GoodAt H c ms
theorem ClaimsF.same {H H' : Hp} {lc : Addr} {cl : List (List Int)} (s : Same H H') (h : ClaimsF H lc cl) : ClaimsF H' lc cl := by
  obtain ⟨cs, a, b, c⟩ := h
  exact ⟨cs, s _ _ a, b, fun i x ms h1 h2 => (c i x ms h1 h2).same s⟩
def spRight : Sp := fun vs H Q _ => ∃ (lr lc : Addr) (ds : List FR) (cl : List (List Int)) (r : Nat) (d : FR) (b : Int), vs = [.ref lr, .ref lc, .int (r : Int), .int b] ∧ RowsF H lr ds ∧ ClaimsF H lc cl ∧ ds[r]? = some d ∧ d.ts.length ≤ 16 ∧ (∀ s ∈ ahd d r, 0 ≤ s ∧ s < cl.length) ∧ ∀ H', Same H H' → Q (.bl (rightD d cl r b)) H'
theorem scRight : FnScope ["rows", "claims", "r", "box"] ["rows", "claims", "r", "box"] (defScope sRight) := ⟨rfl, rfl, rfl, by decide +kernel, rfl, by decide +kernel, by decide +kernel⟩
def csRightC1 : Scope := { kind := .function, names := [(".0", .local), ("s", .local), ("box", .free), ("claims", .free)], isGenerator := false, isCoroutine := false, more := [] }
theorem scRightC1 : CompSc (defScope sRight) csRightC1 ["rows", "claims", "r", "box"] ["s", "box", "claims"] [none, some 3, some 1] := ⟨rfl, by decide +kernel, by decide +kernel, by decide +kernel, by decide +kernel, by decide +kernel⟩
theorem ok_right {f fN fW fA : Addr} {fd fdN fdW fdA : FuncData} (F : Fun K "is_right" "is_right" sRight f fd) (T : Txt K w.params mg) (GN : FnOk P w K mg base CX0 2 fN fdN ["row", "box"] spNeeds) (kN : PySem.W.keepIn K (.ref fN) = true) (bN : Binds K fdN ["row", "box"] []) (mN : mg "needs_at_once" = some (.ref fN)) (GW : FnOk P w K mg base CX0 1 fW fdW ["row"] spWrites) (kW : PySem.W.keepIn K (.ref fW) = true) (bW : Binds K fdW ["row"] []) (mW : mg "writes_of" = some (.ref fW)) (GA : FnOk P w K mg base CX0 3 fA fdA ["rows", "r"] spAhead) (kA : PySem.W.keepIn K (.ref fA) = true) (bA : Binds K fdA ["rows", "r"] []) (mA : mg "ways_ahead" = some (.ref fA)) : FnOk P w K mg base CX0 4 f fd ["rows", "claims", "r", "box"] spRight := by
  refine F.ok scRight (fun vs H Q E h => ?_) (fun cdv A outer s H vs Q E hr h => ?_)
  · obtain ⟨lr, lc, ds, cl, r, d, b, rfl, _⟩ := h
    rfl
  · obtain ⟨lr, lc, ds, cl, r, d, b, rfl, hR, hC, hd, ht, hin, k⟩ := h
    have hr1 : Room 1 (A.deeper (PyProof.Rows.envOfC "is_right" (defScope sRight) s.heap.objs.size f cdv)) := hr.mono (by decide)
    have hrN : Room 2 (A.deeper (PyProof.Rows.envOfC "is_right" (defScope sRight) s.heap.objs.size f cdv)) := hr.mono (by decide)
    obtain ⟨qs, q, g1, g2, g2', g3⟩ := hR.get hd
    refine ⟨_, (pss_cons (ps_if (pt_val (pe_call GN hrN (by rfl) mN kN bN .nil pass0 (pa_cons (pe_ix ix_list (pv 0) (pv 2) (fun _ _ => rfl)) (pa_cons (pv 3) pa_nil)))) (pss_one (ps_ret pe_bl)) pss_nil)
      (pss_one (ps_ret (pe_or (pe_cmpR op_in_seq (pv 3) (pe_call GW hr1 (by rfl) mW kW bW .nil pass0 (pa_cons (pe_ix ix_list (pv 0) (pv 2) (fun _ _ => rfl)) pa_nil)) rfl) (pe_one (pe_callB (call_allB rfl) (by rfl) T.all bt_all (pa_cons (pe_comp (N' := ["s", "box", "claims"]) (fr := [none, some 3, some 1]) scRightC1 rfl (pi_list (pe_call GA hr (by rfl) mA kA bA .nil pass0 (pa_cons (pv 0) (pa_cons (pv 2) pa_nil)))) (fun C s0 H0 fp => (pg_name (i := 0) scRightC1.nd rfl (Or.inl rfl))) (fun C s0 H0 fp => pts_nil) (fun C s0 H0 fp => (pe_cmpR (r := rIn K false) op_in_seq (pv 1) (pe_ix (r := rIxL K) ix_list (pv 2) (pv 0) (fun _ _ => rfl)) rfl))) pa_nil))))))), ?_⟩
    refine ⟨_, rfl, _, rfl, lr, _, _, _, rfl, rfl, SqL.of g1, g2, _, rfl, q, b, d, rfl, g3, fun H1 s1 => ⟨_, rfl, ?_⟩⟩
    refine ite2 (fun e => ?_) (fun e => ?_)
    · have kk := k H1 s1
      unfold rightD at kk
      rw [e] at kk
      exact kk
    · have e : needF d b = false := by simpa using e
      unfold rightD at k
      rw [e] at k
      obtain ⟨items, i1, i2, i3, i4⟩ := (g3.same s1).parts
      refine ⟨_, rfl, _, rfl, _, rfl, lr, _, _, _, rfl, rfl, SqL.of (s1 _ _ g1), g2, q, d.u, items, rfl, i1, i2, fun l ms H2 s2 nl hl hw => ?_⟩
      refine ⟨l, _, rfl, .inl (SqL.of hl), rfl, flat_ints ms, _, rfl, ?_⟩
      have s12 := s1.trans s2
      rw [show inV (.int b) (ms.map V.int) = wrF d b from (inV_int _ _).trans (wrote_iff i2 i4 hw b)]
      refine ite2 (fun e2 => ?_) (fun e2 => ?_)
      · have e2 : wrF d b = true := e2
        have kk := k H2 s12
        rw [e2] at kk
        exact kk
      · have e2 : wrF d b = false := by simpa using e2
        rw [e2] at k
        obtain ⟨cs, c1, c2, c3⟩ := hC
        refine ⟨_, rfl, _, rfl, lr, ds, r, d, rfl, hR.same s12, hd, ht, fun la as H3 s3 nla hla hal ham => ?_⟩
        have s13 := s12.trans s3
        have h3c := s13 _ _ c1
        refine ⟨la, rfl, ⟨_, SqL.of hla⟩, fun D nD => comp_list (K := K) (a := la) (xs := as.map V.int) (fun i σ ys H4 => ∃ v : Option V, σ = [v, some (.int b), some (.ref lc)] ∧ ys = ((as.take i).map (inCl cl b)).map V.bl ∧ Same H3 H4 ∧ H4 D = some (.lst ys)) ?_ ?_ ?_ ?_⟩
        · exact ⟨none, rfl, rfl, same_new nD, upd_same⟩
        · rintro i σ ys H4 _ ⟨v, rfl, rfl, s4, _⟩
          exact SqL.of (s4 _ _ hla)
        · rintro i x σ ys H4 hx ⟨v, rfl, rfl, s4, hD⟩
          rw [List.getElem?_map] at hx
          obtain ⟨j, hj, rfl⟩ := Option.map_eq_some_iff.mp hx
          have hil := (List.getElem?_eq_some_iff.mp hj).1
          obtain ⟨h0, h1⟩ := hin j ((ham j).mp (List.mem_of_getElem? hj))
          obtain ⟨jn, rfl⟩ := Int.eq_ofNat_of_zero_le h0
          have hjn : jn < cl.length := by omega
          have hcl : cl[jn]? = some cl[jn] := List.getElem?_eq_getElem hjn
          have hcs : cs[jn]? = some (cs[jn]'(by omega)) := List.getElem?_eq_getElem _
          obtain ⟨qc, hqc, hq1, _⟩ := c3 jn _ _ hcs hcl
          rw [hqc] at hcs
          have hin2 : inCl cl b ((jn : Nat) : Int) = decide (b ∈ cl[jn]) := by
            unfold inCl
            rw [Int.toNat_natCast, hcl]
          refine ⟨_, rfl, _, rfl, _, rfl, lc, _, _, _, rfl, rfl, SqL.of (s4 _ _ h3c), atI_nat (j := jn) hcs, qc, _, rfl, .inr (SqT.of (s4 _ _ (s13 _ _ hq1))), rfl, flat_ints _, hD, ?_, _, rfl, ?_, same_put s4 nD, upd_same⟩
          · rw [List.length_map, List.length_map, List.length_take]
            exact small_lt (by omega)
          · rw [List.take_add_one, hj, List.map_append, List.map_append]
            show _ = _ ++ [V.bl (inCl cl b ((jn : Nat) : Int))]
            rw [hin2, ← inV_int]
            rfl
        · rintro σ ys H4 ⟨v, rfl, rfl, s4, hD⟩
          rw [List.length_map, List.take_length] at hD
          refine ⟨D, _, rfl, SqL.of hD, ?_⟩
          have kk := k H4 (s13.trans s4)
          have e3 : (ahd d r).all (inCl cl b) = (as.map (inCl cl b)).all id := by
            rw [Bool.eq_iff_iff, List.all_eq_true, List.all_eq_true]
            exact ⟨fun z y hy => by obtain ⟨j, hj, rfl⟩ := List.mem_map.mp hy; exact z j ((ham j).mp hj), fun z j hj => z _ (List.mem_map.mpr ⟨j, (ham j).mpr hj, rfl⟩)⟩
          rw [e3] at kk
          exact kk
end
end My


set_option Elab.async false
set_option linter.all false
set_option maxRecDepth 100000
set_option maxHeartbeats 4000000
namespace My
open PySem L2
theorem pg_two {X : Cx} {K : PySem.W.Frag} (hK : X.K = K) {i j : Nat} {x y : Str} {px py pt : Pos} {k : Nat} (hc : X.calm = true) (hN : X.N.Nodup) (hi : X.N[i]? = some x) (hx : Loc X.env.scope x) (hj : X.N[j]? = some y) (hy : Loc X.env.scope y)
    (hf : X.fn x = true ∨ X.env.scope.names.lookup x = some .local := by first | exact .inl rfl | exact .inr rfl) (hf2 : X.fn y = true ∨ X.env.scope.names.lookup y = some .local := by first | exact .inl rfl | exact .inr rfl) :
    PG X (.Tuple [.Name x px, .Name y py] k pt) (gTup K 2 (gCons (gName i) (gCons (gName j) gNil))) := hK ▸ pg_tup (n := 2) hc (pgs_cons (pg_name hN hi hx hf) (pgs_cons (pg_name hN hj hy hf2) pgs_nil))
/-! ### check_free -/
def badR (ds : List FR) (cl : List (List Int)) (r : Nat) : Bool := match ds[r]?, cl[r]? with
  | some d, some c => c.any fun b => !rightD d cl r b
  | _, _ => false
def firstBad (ds : List FR) (cl : List (List Int)) : Option Nat := (List.range ds.length).find? (badR ds cl)
/-- targets are rows, and no row goes on behind the last one -/
def ProgF (ds : List FR) : Prop := ∀ (r : Nat) d, ds[r]? = some d → d.ts.length ≤ 16 ∧ ∀ s ∈ ahd d r, 0 ≤ s ∧ s < ds.length
theorem bad_first {ds : List FR} {cl : List (List Int)} {r : Nat} (hr : r < ds.length) (h : badR ds cl r = true) (hlt : ∀ j, j < r → badR ds cl j = false) : firstBad ds cl = some r := by
  unfold firstBad
  rw [List.find?_range_eq_some]
  exact ⟨h, List.mem_range.mpr hr, fun j hj => by rw [hlt j hj]; rfl⟩
theorem bad_none {ds : List FR} {cl : List (List Int)} (h : ∀ j, j < ds.length → badR ds cl j = false) : firstBad ds cl = none := by
  unfold firstBad
  rw [List.find?_eq_none]
  intro j hj
  rw [h j (List.mem_range.mp hj)]
  decide
section
variable {P : Program} {w : World} {K : PySem.W.Frag} {mg : Str → Option Value} {base : Heap}
def spFree (cNF : Addr) : Sp := fun vs H Q E => ∃ (lr lc : Addr) (ds : List FR) (cl : List (List Int)), vs = [.ref lr, .ref lc] ∧ RowsF H lr ds ∧ ClaimsF H lc cl ∧ cl.length = ds.length ∧ ds.length ≤ 3000 ∧ ProgF ds ∧
  (firstBad ds cl = none → ∀ H', Same H H' → Q .non H') ∧ ∀ r, firstBad ds cl = some r → ∀ H' d, Same H H' → H' d = some (.xd [("at", .int (r : Int))]) → E (.ref cNF) (some d) H'
theorem scFree : FnScope ["rows", "claims", "r", "claim"] ["rows", "claims"] (defScope sFree) := ⟨rfl, rfl, rfl, by decide +kernel, rfl, by decide +kernel, by decide +kernel⟩
def csFreeC1 : Scope := { kind := .function, names := [(".0", .local), ("box", .local), ("is_right", .globalImplicit), ("claims", .free), ("r", .free), ("rows", .free)], isGenerator := false, isCoroutine := false, more := [] }
theorem scFreeC1 : CompSc (defScope sFree) csFreeC1 ["rows", "claims", "r", "claim"] ["box", "rows", "claims", "r"] [none, some 0, some 1, some 2] := ⟨rfl, by decide +kernel, by decide +kernel, by decide +kernel, by decide +kernel, by decide +kernel⟩
theorem ok_free {f fL fR cNF R fI : Addr} {fd fdL fdR fdI : FuncData} (F : Fun K "check_free" "check_free" sFree f fd) (T : Txt K w.params mg) (GL : FnOk P w K mg base CX0 3 fL fdL ["thing"] (spClaim (K := K))) (kL : PySem.W.keepIn K (.ref fL) = true) (bL : Binds K fdL ["thing"] []) (mL : mg "is_claim" = some (.ref fL)) (GR : FnOk P w K mg base CX0 4 fR fdR ["rows", "claims", "r", "box"] spRight) (kR : PySem.W.keepIn K (.ref fR) = true) (bR : Binds K fdR ["rows", "claims", "r", "box"] []) (mR : mg "is_right" = some (.ref fR))
    (cx : XIni K cNF R fI) (kC : PySem.W.keepIn K (.ref cNF) = true) (GI : FnOk P w K mg base CX0 1 fI fdI ["self", "at"] (spXI cNF)) (bI : Binds K fdI ["self", "at"] []) (mNF : mg "NoFree" = some (.ref cNF)) : FnOk P w K mg base (CX2 P w) 5 f fd ["rows", "claims"] (spFree cNF) := by
  refine F.okX scFree (fun vs H Q E h => ?_) (fun cdv A outer s H vs Q E hr h => ?_)
  · obtain ⟨lr, lc, ds, cl, rfl, _⟩ := h
    rfl
  · obtain ⟨lr, l, ds, cl, rfl, hR, hC, hlen, hn, hP, hq, hE⟩ := h
    have hr2 := hr.mono (show 2 ≤ 4 by decide)
    have hrL := hr.mono (show 3 ≤ 4 by decide)
    refine ⟨_, (pss_cons (ps_if (pt_not (pt_val (pe_callB call_isinst (by rfl) T.isi bt_isi (pa_cons (pv 1) (pa_cons (pe_bltn (v := .ty "list") (by rfl) T.list bt_list rfl) pa_nil))))) (pss_one (ps_raiseC cx kC GI bI hr2 mNF (by rfl) (pa_cons pe_int pa_nil))) pss_nil)
      (pss_cons (ps_for PassesOwn.leaving rfl (pi_range1 rfl T.range (pa_cons (pe_callB call_len_seq (by rfl) T.len bt_len (pa_cons (pv 0) pa_nil)) pa_nil)) (pg_name (i := 2) scFree.nd rfl (Or.inr rfl)) (pss_one (ps_if (pw_or (pt_cmpR op_ge (pv 2) (pe_callB call_len_seq (by rfl) T.len bt_len (pa_cons (pv 1) pa_nil)) (nomark _)) (pw_or1 (pt_not (pt_val (pe_call GL hrL (by rfl) mL kL bL .nil pass0 (pa_cons (pe_ix ix_list (pv 1) (pv 2) (fun _ _ => rfl)) pa_nil)))))).pt (pss_one (ps_raiseC cx kC GI bI hr2 mNF (by rfl) (pa_cons (pv 2) pa_nil))) pss_nil)))
      (pss_cons (ps_if (pt_cmpR op_gt (pe_callB call_len_seq (by rfl) T.len bt_len (pa_cons (pv 1) pa_nil)) (pe_callB call_len_seq (by rfl) T.len bt_len (pa_cons (pv 0) pa_nil)) (nomark _)) (pss_one (ps_raiseC cx kC GI bI hr2 mNF (by rfl) (pa_cons (pe_callB call_len_seq (by rfl) T.len bt_len (pa_cons (pv 0) pa_nil)) pa_nil))) pss_nil)
      (pss_one (ps_for PassesOwn.leaving rfl (pi_enum rfl T.enum (pa_cons (pv 1) pa_nil)) (pg_two (K := K) (i := 2) (j := 3) rfl rfl scFree.nd rfl (Or.inr rfl) rfl (Or.inl rfl)) (pss_one (ps_if (pt_not (pt_val (pe_callB (call_allB rfl) (by rfl) T.all bt_all (pa_cons (pe_comp (X := (cxOf (CX2 P w) P w K mg base ["rows", "claims", "r", "claim"] "check_free" (defScope sFree) f cdv A outer s H E)) (N' := ["box", "rows", "claims", "r"]) (fr := [none, some 0, some 1, some 2]) scFreeC1 rfl (pi_tup (pv 3)) (fun C s0 H0 fp => (pg_name (i := 0) scFreeC1.nd rfl (Or.inl rfl))) (fun C s0 H0 fp => pts_nil) (fun C s0 H0 fp => (pe_call GR hr (by rfl) mR kR bR .nil pass0 (pa_cons (pv 1) (pa_cons (pv 2) (pa_cons (pv 3) (pa_cons (pv 0) pa_nil))))))) pa_nil)))) (pss_one (ps_raiseC cx kC GI bI hr2 mNF (by rfl) (pa_cons (pv 2) pa_nil))) pss_nil))))))), ?_⟩
    obtain ⟨qs, g1, g2, g3⟩ := id hR
    obtain ⟨cs, c1, c2, c3⟩ := id hC
    have natI : ∀ {r : Nat}, r < 3000 → ((r : Int)).natAbs < 10 ^ 12 := fun {r} h => by omega
    have gd : ∀ j, j < ds.length → ∃ x ms, cs[j]? = some x ∧ cl[j]? = some ms ∧ GoodAt H x ms := fun j hj => by
      have h1 : cs[j]? = some (cs[j]'(by omega)) := List.getElem?_eq_getElem _
      have h2 : cl[j]? = some (cl[j]'(by omega)) := List.getElem?_eq_getElem _
      exact ⟨_, _, h1, h2, c3 j _ _ h1 h2⟩
    refine ⟨_, rfl, _, _, _, _, rfl, .lst c1, k_list_list, _, rfl, iteN (by decide) ?_⟩
    refine ⟨_, rfl, lr, _, rfl, .inl (SqL.of g1), _, rfl, by rw [List.length_map]; omega, by rw [List.length_map]; omega, for_range (n := (((qs.map V.ref).length : Nat) : Int).toNat) (fun i σ H6 => ∃ v2 : Option V, σ = [some (.ref lr), some (.ref l), v2, none] ∧ Same H H6) ?_ ?_ ?_⟩
    · exact ⟨none, rfl, .refl _⟩
    · rintro i σ H6 hi ⟨v2, rfl, s6⟩
      have hin : i < ds.length := by
        rw [Int.toNat_natCast, List.length_map, g2] at hi
        exact hi
      obtain ⟨x, ms, hx, _, hg⟩ := gd i hin
      refine ⟨_, rfl, _, rfl, l, _, rfl, .inl (SqL.of (s6 _ _ c1)), _, _, rfl, rfl, _, rfl, ?_⟩
      refine iteN (fun z => absurd (of_decide_eq_true z) (by omega)) ?_
      refine ⟨_, rfl, _, rfl, l, _, _, x, rfl, rfl, SqL.of (s6 _ _ c1), (by rw [Int.zero_add]; exact atI_nat hx), x, true, rfl, .inl ⟨rfl, ms, hg.same s6⟩, fun H7 s7 => ⟨_, rfl, iteN (by decide) ?_⟩⟩
      exact ⟨_, rfl, s6.trans s7⟩
    · rintro σ H6 ⟨v2, rfl, s6⟩
      have h6 := s6 _ _ c1
      have hr6 := s6 _ _ g1
      refine ⟨_, rfl, l, _, rfl, .inl (SqL.of h6), _, rfl, lr, _, rfl, .inl (SqL.of hr6), _, _, rfl, rfl, _, rfl, ?_⟩
      refine iteN (fun z => absurd (of_decide_eq_true z) (by rw [List.length_map]; omega)) ?_
      refine ⟨_, rfl, l, rfl, ⟨_, SqL.of h6⟩, for_enum (xs := cs) (fun i σ H7 => i ≤ ds.length ∧ (∀ j, j < i → badR ds cl j = false) ∧ ∃ v2 v3 : Option V, σ = [some (.ref lr), some (.ref l), v2, v3] ∧ Same H H7) ?_ ?_ ?_ ?_⟩
      · exact ⟨Nat.zero_le _, fun j hj => absurd hj (by omega), _, _, rfl, s6⟩
      · rintro i σ H7 hi ⟨_, _, v2, v3, rfl, s7⟩
        exact SqL.of (s7 _ _ c1)
      · rintro i x σ H7 tt hx ntt ⟨_, hlt, v2, v3, rfl, s7⟩
        have hic := (List.getElem?_eq_some_iff.mp hx).1
        have hid : i < ds.length := by omega
        obtain ⟨x', ms, hx', hms, hg⟩ := gd i hid
        rw [hx] at hx'
        cases hx'
        have hd : ds[i]? = some ds[i] := List.getElem?_eq_getElem hid
        generalize ds[i] = d at hd
        obtain ⟨p1, p2⟩ := hP i d hd
        have s7' := s7.trans (same_new (o := .tup [V.int i, x]) ntt)
        have htt : upd H7 tt (.tup [V.int i, x]) tt = _ := upd_same
        generalize upd H7 tt (.tup [V.int i, x]) = H8 at s7' htt ⊢
        refine ⟨tt, _, rfl, SqT.of htt, rfl, _, _, rfl, _, _, rfl, rfl, ?_⟩
        obtain ⟨q, rfl, hq8, hr8, _, _, h64⟩ := hg
        refine ⟨_, rfl, q, rfl, ⟨_, SqT.of (s7' _ _ hq8)⟩, fun D nD => comp_tup (K := K) (a := q) (xs := ms.map V.int) (fun j σ ys H9 => ∃ v : Option V, σ = [v, some (.ref lr), some (.ref l), some (.int (i : Int))] ∧ ys = ((ms.take j).map (rightD d cl i)).map V.bl ∧ Same H8 H9 ∧ H9 D = some (.lst ys)) ?_ ?_ ?_ ?_⟩
        · exact ⟨none, rfl, rfl, same_new nD, upd_same⟩
        · rintro j σ ys H9 _ ⟨v, rfl, rfl, s9, _⟩
          exact SqT.of (s9 _ _ (s7' _ _ hq8))
        · rintro j y σ ys H9 hy ⟨v, rfl, rfl, s9, hD⟩
          rw [List.getElem?_map] at hy
          obtain ⟨b, hb1, rfl⟩ := Option.map_eq_some_iff.mp hy
          have hjl := (List.getElem?_eq_some_iff.mp hb1).1
          have t9 := s7'.trans s9
          refine ⟨_, rfl, _, rfl, _, rfl, _, rfl, lr, l, ds, cl, i, d, b, rfl, hR.same t9, hC.same t9, hd, p1, fun s hs => by rw [hlen]; exact p2 s hs, fun H10 s10 => ⟨s10 _ _ hD, ?_, _, rfl, ?_, same_put (s9.trans s10) nD, upd_same⟩⟩
          · rw [List.length_map, List.length_map, List.length_take]
            exact small_lt (by omega)
          · rw [List.take_add_one, hb1, List.map_append, List.map_append]
            rfl
        · rintro σ ys H9 ⟨v, rfl, rfl, s9, hD⟩
          rw [List.length_map, List.take_length] at hD
          refine ⟨D, _, rfl, SqL.of hD, _, rfl, ?_⟩
          have hbad : badR ds cl i = !((ms.map (rightD d cl i)).all id) := by
            unfold badR
            rw [hd, hms]
            show (ms.any fun b => !rightD d cl i b) = _
            rw [List.all_map, Bool.eq_iff_iff, List.any_eq_true]
            simp
          refine ite2 (fun e => ?_) (fun e => ?_)
          · have hb : badR ds cl i = true := by rw [hbad]; exact e
            exact ⟨_, rfl, _, rfl, natI (by omega), fun dd nd => hE i (bad_first hid hb hlt) _ dd ((s7'.trans s9).trans (same_new nd)) upd_same⟩
          · have hb : badR ds cl i = false := by
              rw [hbad]
              exact Bool.eq_false_iff.mpr e
            refine ⟨hid, fun j hj => ?_, _, _, rfl, s7'.trans s9⟩
            rcases Nat.lt_or_eq_of_le (Nat.le_of_lt_succ hj) with z | z
            · exact hlt j z
            · rw [z]; exact hb
      · rintro σ H7 ⟨_, hlt, v2, v3, rfl, s7⟩
        exact hq (bad_none fun j hj => hlt j (by omega)) _ s7
end
end My


set_option Elab.async false
set_option linter.all false
set_option maxRecDepth 100000
set_option maxHeartbeats 4000000
namespace My
open PySem L2
theorem op_fdivB {X : Cx} : OpR X (binaryOp .FloorDiv) (rI (fun _ j => 0 < j ∧ j < 18446744073709551616) fun i j => .int (i / j)) := opI fun i j _ _ _ _ _ hc q => by
  have h1 : (0 : Int) < j := hc.1
  have h2 : j < 18446744073709551616 := hc.2
  refine PyProof.Rows.floordiv_int (by omega) (by rw [Int.fdiv_eq_ediv_of_nonneg i (by omega)]; exact q) (.inl (PyProof.noPylong_of_log2 ?_))
  have h3 : j.natAbs.log2 < 64 := (Nat.log2_lt (by omega)).mpr (by omega)
  omega
/-- the drawing's own list -/
def St3 (H : Hp) (a : Addr) : Prop := ∃ x y z : Int, H a = some (.lst [.int x, .int y, .int z])
/-- all but the object at a stays -/
def SameX (a : Addr) (H H' : Hp) : Prop := ∀ c o, c ≠ a → H c = some o → H' c = some o
theorem SameX.trans {a : Addr} {H H' H'' : Hp} (e : SameX a H H') (e' : SameX a H' H'') : SameX a H H'' := fun c o n h => e' c o n (e c o n h)
theorem SameX.put {a : Addr} {H : Hp} {o : HO} : SameX a H (upd H a o) := fun c u n h => by rw [upd_ne n]; exact h
theorem SameX.of {a : Addr} {H H1 H2 : Hp} (e : Same H H1) (n : H a = none) (x : SameX a H1 H2) : Same H H2 := fun c o h => x c o (ne_of_none h n) (e c o h)
theorem SameX.same {a : Addr} {H H' : Hp} (e : Same H H') : SameX a H H' := fun c o _ h => e c o h
theorem at_words (ws : List Str) (d c : Int) (h0 : c ≤ d) (h1 : d < c + ws.length) : ∃ u, u ∈ ws ∧ atI (ws.map V.str) (d - c) = some (.str u) := by
  obtain ⟨j, hj⟩ := Int.eq_ofNat_of_zero_le (show 0 ≤ d - c by omega)
  have hl : j < ws.length := by omega
  refine ⟨ws[j], List.getElem_mem hl, ?_⟩
  rw [hj]
  refine atI_nat (j := j) ?_
  rw [List.getElem?_map, List.getElem?_eq_getElem hl]
  rfl
theorem SameX.new {l : Addr} {H H1 : Hp} {q : Addr} {o : HO} (x : SameX l H H1) (n : H1 q = none) : SameX l H (upd H1 q o) := x.trans (.same (same_new n))
theorem SameX.free {l : Addr} {H H1 : Hp} {q : Addr} (x : SameX l H H1) (h : q ≠ l) (n : H1 q = none) : H q = none := by
  cases e : H q with
  | none => rfl
  | some o => rw [x q o h e] at n; exact absurd n (by simp)
theorem St3.ne {H : Hp} {l q : Addr} (h : St3 H l) (n : H q = none) : q ≠ l := by
  rintro rfl
  obtain ⟨_, _, _, h⟩ := h
  rw [h] at n
  exact absurd n (by simp)
theorem St3.upd {H : Hp} {l q : Addr} {o : HO} (h : St3 H l) (n : q ≠ l) : St3 (upd H q o) l := by
  obtain ⟨x, y, z, h⟩ := h
  exact ⟨x, y, z, by rw [upd_ne n.symm]; exact h⟩
theorem St3.new {H : Hp} {l q : Addr} {o : HO} (h : St3 H l) (n : H q = none) : St3 (L2.upd H q o) l := h.upd (h.ne n)
/-! ### rows of a shape -/
def plainW (u : Str) : Prop := u ∈ all20 ∧ ¬ u = "table" ∧ ¬ u ∈ jcm ∧ ¬ u ∈ zb
instance {u : Str} : Decidable (plainW u) := by unfold plainW; infer_instance
theorem row_two {H : Hp} {q : Addr} {u : Str} {b c : Int} (hu : plainW u) (h : H q = some (.tup [.str u, .int b, .int c])) : RowF H q ⟨u, [b, c], []⟩ :=
  ⟨⟨hu.1, fun z => absurd z hu.2.1, fun z => absurd z hu.2.2.1, fun z => absurd z hu.2.2.2, fun _ _ _ => rfl, fun _ => ⟨b, c, rfl⟩, fun _ => ⟨b, [c], rfl⟩⟩, .inr ⟨hu.2.1, h⟩⟩
theorem row_one {H : Hp} {q : Addr} {u : Str} {b : Int} (hu : plainW u ∧ ¬ u ∈ w2) (h : H q = some (.tup [.str u, .int b])) : RowF H q ⟨u, [b], []⟩ :=
  ⟨⟨hu.1.1, fun z => absurd z hu.1.2.1, fun z => absurd z hu.1.2.2.1, fun z => absurd z hu.1.2.2.2, fun _ _ _ => rfl, fun z => absurd z hu.2, fun _ => ⟨b, [], rfl⟩⟩, .inr ⟨hu.1.2.1, h⟩⟩
theorem row_no {H : Hp} {q : Addr} {u : Str} (hu : plainW u ∧ ¬ u ∈ w2 ∧ ¬ u ∈ w1) (h : H q = some (.tup [.str u])) : RowF H q ⟨u, [], []⟩ :=
  ⟨⟨hu.1.1, fun z => absurd z hu.1.2.1, fun z => absurd z hu.1.2.2.1, fun z => absurd z hu.1.2.2.2, fun _ _ _ => rfl, fun z => absurd z hu.2.1, fun z => absurd z hu.2.2⟩, .inr ⟨hu.1.2.1, h⟩⟩
theorem row_jcm {H : Hp} {q : Addr} {u : Str} {t f : Int} (hu : u ∈ jcm) (h : H q = some (.tup [.str u, .int t, .int f])) : RowF H q ⟨u, [t, f], [t]⟩ := by
  have hw := (by decide : ∀ u ∈ jcm, u ∈ all20 ∧ ¬ u = "table" ∧ ¬ u ∈ zb ∧ ¬ u ∈ w2 ∧ ¬ u ∈ w1) u hu
  exact ⟨⟨hw.1, fun z => absurd z hw.2.1, fun _ => ⟨t, f, rfl, rfl⟩, fun z => absurd z hw.2.2.1, fun _ z => absurd hu z, fun z => absurd z hw.2.2.2.1, fun z => absurd z hw.2.2.2.2⟩, .inr ⟨hw.2.1, h⟩⟩
theorem row_zb {H : Hp} {q : Addr} {u : Str} {b t f : Int} (hu : u ∈ zb) (h : H q = some (.tup [.str u, .int b, .int t, .int f])) : RowF H q ⟨u, [b, t, f], [t]⟩ := by
  have hw := (by decide : ∀ u ∈ zb, u ∈ all20 ∧ ¬ u = "table" ∧ ¬ u ∈ jcm ∧ ¬ u ∈ w2) u hu
  exact ⟨⟨hw.1, fun z => absurd z hw.2.1, fun z => absurd z hw.2.2.1, fun _ => ⟨b, t, f, rfl, rfl⟩, fun _ _ z => absurd hu z, fun z => absurd z hw.2.2.2, fun _ => ⟨b, _, rfl⟩⟩, .inr ⟨hw.2.1, h⟩⟩
theorem row_table {H : Hp} {q p : Addr} {b : Int} {ts : List Int} (h : H q = some (.tup [.str "table", .int b, .ref p])) (hp : H p = some (.tup (ts.map V.int))) : RowF H q ⟨"table", [b], ts⟩ :=
  ⟨⟨(by decide : ("table" : Str) ∈ all20), fun _ => ⟨b, rfl⟩, fun z => absurd z (by decide : ¬ ("table" : Str) ∈ jcm), fun z => absurd z (by decide : ¬ ("table" : Str) ∈ zb), fun z => absurd rfl z, fun z => absurd z (by decide : ¬ ("table" : Str) ∈ w2), fun _ => ⟨b, [], rfl⟩⟩, .inl ⟨rfl, b, p, rfl, h, hp⟩⟩
def RowOk (H : Hp) (q : Addr) (n : Int) : Prop := ∃ d : FR, RowF H q d ∧ d.ts.length ≤ 16 ∧ ∀ t ∈ d.ts, 0 ≤ t ∧ t < n
section
variable {P : Program} {w : World} {K : PySem.W.Frag} {mg : Str → Option Value} {base : Heap}
/-! ### a cell of the script -/
def spCell : Sp := fun vs H Q _ => ∃ (a : Addr) (ns : List Int) (k : Int), vs = [.ref a, .int k] ∧ SqL K H a (ns.map V.int) ∧ 0 ≤ k ∧ ∀ c : Int, Q (.int c) H
theorem scCell : FnScope ["_law_script", "_law_k"] ["_law_script", "_law_k"] (defScope sCell) := ⟨rfl, rfl, rfl, by decide +kernel, rfl, by decide +kernel, by decide +kernel⟩
theorem ok_cell {f : Addr} {fd : FuncData} (F : Fun K "_law_cell_at" "_law_cell_at" sCell f fd) (T : Txt K w.params mg) : FnOk P w K mg base CX0 1 f fd ["_law_script", "_law_k"] (spCell (K := K)) := by
  refine F.ok scCell (fun vs H Q E h => ?_) (fun cdv A outer s H vs Q E hr h => ?_)
  · obtain ⟨a, ns, k, rfl, _⟩ := h
    rfl
  · obtain ⟨a, ns, k, rfl, hS, hk, q⟩ := h
    refine ⟨_, pss_cons (ps_if (pt_cmpR op_lt (pv 1) (pe_callB call_len_seq (by rfl) T.len bt_len (pa_cons (pv 0) pa_nil)) (nomark _)) (pss_one (ps_ret (pe_ix ix_list (pv 0) (pv 1) (fun _ _ => rfl)))) pss_nil)
      (pss_one (ps_ret pe_int)), ?_⟩
    refine ⟨_, rfl, _, rfl, a, _, rfl, .inl hS, _, _, rfl, rfl, _, rfl, ?_⟩
    refine ite2 (fun h1 => ?_) (fun h1 => ?_)
    · have h1 := of_decide_eq_true h1
      rw [List.length_map] at h1
      obtain ⟨j, rfl⟩ := Int.eq_ofNat_of_zero_le hk
      have hj : j < ns.length := by omega
      refine ⟨_, rfl, _, rfl, a, _, _, .int ns[j], rfl, rfl, hS, atI_nat (j := j) ?_, q _⟩
      rw [List.getElem?_map, List.getElem?_eq_getElem hj]
      rfl
    · exact q 0

/-! ### a digit -/
def spDigit : Sp := fun vs H Q _ => ∃ (a : Addr) (b : Int), vs = [.ref a, .int b] ∧ St3 H a ∧ 0 < b ∧ b < 18446744073709551616 ∧ ∀ (d : Int) (H' : Hp), 0 ≤ d → d < b → St3 H' a → SameX a H H' → Q (.int d) H'
theorem scDigit : FnScope ["_law_state", "_law_base", "_law_found", "_law_number"] ["_law_state", "_law_base"] (defScope sDigit) := ⟨rfl, rfl, rfl, by decide +kernel, rfl, by decide +kernel, by decide +kernel⟩
theorem ok_digit {f : Addr} {fd : FuncData} (F : Fun K "_law_digit" "_law_digit" sDigit f fd) (T : Txt K w.params mg) : FnOk P w K mg base CX0 1 f fd ["_law_state", "_law_base"] spDigit := by
  refine F.ok scDigit (fun vs H Q E h => ?_) (fun cdv A outer s H vs Q E hr h => ?_)
  · obtain ⟨a, b, rfl, _⟩ := h
    rfl
  · obtain ⟨a, b, rfl, ⟨x, y, z, hS⟩, hb, hb2, k⟩ := h
    refine ⟨_, pss_cons (ps_if (pt_cmpR op_gt (pe_ix ix_list (pv 0) pe_int (fun _ _ => rfl)) pe_int (nomark _))
        (pss_cons (ps_set (i := 2) scDigit.nd rfl (Or.inl rfl) (pe_op op_mod (pe_ix ix_list (pv 0) pe_int (fun _ _ => rfl)) (pv 1)))
        (pss_cons (ps_asg (pe_op op_fdivB (pe_ix ix_list (pv 0) pe_int (fun _ _ => rfl)) (pv 1)) (pg_sub (pv 0) pe_int set_list))
        (pss_one (ps_ret (pv 2))))) pss_nil)
      (pss_cons (ps_asg (pe_op op_add (pe_ix ix_list (pv 0) pe_int (fun _ _ => rfl)) pe_int) (pg_sub (pv 0) pe_int set_list))
      (pss_cons (ps_set (i := 3) scDigit.nd rfl (Or.inl rfl) (pe_op op_mod (pe_op op_mul (pe_op op_add (pe_op op_add (pe_ix ix_list (pv 0) pe_int (fun _ _ => rfl)) (pe_op op_mul pe_int (pe_ix ix_list (pv 0) pe_int (fun _ _ => rfl)))) pe_int) pe_int) pe_int))
      (pss_cons (ps_set (i := 3) scDigit.nd rfl (Or.inl rfl) (pe_op op_mod (pe_op op_mul (pv 3) (pe_op op_add (pe_op op_fdivB (pv 3) pe_int) pe_int)) pe_int))
      (pss_one (ps_ret (pe_op op_mod (pe_op op_mod (pe_op op_mul (pv 3) (pe_op op_add (pe_op op_fdivB (pv 3) pe_int) pe_int)) pe_int) (pv 1))))))), ?_⟩
    refine ⟨_, rfl, a, _, _, .int x, rfl, rfl, SqL.of hS, at0 _ _, _, _, rfl, rfl, _, rfl, ?_⟩
    refine ite2 (fun e => ?_) (fun _ => ?_)
    · refine ⟨_, rfl, a, _, _, .int x, rfl, rfl, SqL.of hS, at0 _ _, _, rfl, _, _, rfl, rfl, hb, ?_⟩
      refine ⟨_, rfl, a, _, _, .int x, rfl, rfl, SqL.of hS, at0 _ _, _, rfl, _, _, rfl, rfl, ⟨hb, hb2⟩, ?_⟩
      refine ⟨_, rfl, a, _, _, 0, rfl, rfl, hS, rfl, _, rfl, ?_⟩
      exact k _ _ (Int.emod_nonneg _ (by omega)) (Int.emod_lt_of_pos _ hb) ⟨_, _, _, upd_same⟩ SameX.put
    · refine ⟨_, rfl, a, _, _, .int z, rfl, rfl, SqL.of hS, at2 _ _ _ _, _, _, rfl, rfl, ?_⟩
      refine ⟨_, rfl, a, _, _, 2, rfl, rfl, hS, rfl, ?_⟩
      refine ⟨_, rfl, a, _, _, .int y, rfl, rfl, SqL.of upd_same, at1 _ _ _, _, rfl, a, _, _, .int (z + 1), rfl, rfl, SqL.of upd_same, at2 _ _ _ _, _, _, rfl, rfl, .inl ⟨by decide, by decide⟩, _, _, rfl, rfl, _, _, rfl, rfl, _, _, rfl, rfl, .inr ⟨by decide, by decide⟩, _, _, rfl, rfl, (by show (0 : Int) < 2147483647; decide), ?_⟩
      generalize hn : (y + 7919 * (z + 1) + 1) * 48271 % 2147483647 = n1
      have p1 : 0 ≤ n1 ∧ n1 < 2147483647 := by
        rw [← hn]
        exact ⟨Int.emod_nonneg _ (by decide), Int.emod_lt_of_pos _ (by decide)⟩
      refine ⟨_, rfl, _, rfl, _, _, rfl, rfl, ⟨by show (0 : Int) < 1009; decide, by show (1009 : Int) < _; decide⟩, _, _, rfl, rfl, _, _, rfl, rfl, .inl ⟨by omega, by omega⟩, _, _, rfl, rfl, (by show (0 : Int) < 2147483647; decide), ?_⟩
      generalize hn2 : n1 * (n1 / 1009 + 69621) % 2147483647 = n2
      have p2 : 0 ≤ n2 ∧ n2 < 2147483647 := by
        rw [← hn2]
        exact ⟨Int.emod_nonneg _ (by decide), Int.emod_lt_of_pos _ (by decide)⟩
      refine ⟨_, rfl, _, rfl, _, _, rfl, rfl, ⟨by show (0 : Int) < 2003; decide, by show (2003 : Int) < _; decide⟩, _, _, rfl, rfl, _, _, rfl, rfl, .inl ⟨by omega, by omega⟩, _, _, rfl, rfl, (by show (0 : Int) < 2147483399; decide), _, rfl, _, _, rfl, rfl, hb, ?_⟩
      exact k _ _ (Int.emod_nonneg _ (by omega)) (Int.emod_lt_of_pos _ hb) ⟨_, _, _, upd_same⟩ SameX.put
/-! ### a row -/
def spRow : Sp := fun vs H Q _ => ∃ c n bx : Int, vs = [.int c, .int n, .int bx] ∧ 1 ≤ n ∧ n ≤ 1000 ∧ 2 ≤ bx ∧ bx ≤ 8 ∧ ∀ (q : Addr) (H' : Hp), Same H H' → RowOk H' q n → Q (.ref q) H'
theorem scRow : FnScope ["_law_cell", "_law_many", "_law_boxes", "_law_state", "_law_word", "_law_b", "_law_c", "_law_target"] ["_law_cell", "_law_many", "_law_boxes"] (defScope sRow) := ⟨rfl, rfl, rfl, by decide +kernel, rfl, by decide +kernel, by decide +kernel⟩
def csRowC1 : Scope := { kind := .function, names := [(".0", .local), ("_law_k", .local), ("_law_digit", .globalImplicit), ("_law_many", .free), ("_law_state", .free)], isGenerator := false, isCoroutine := false, more := [] }
theorem scRowC1 : CompSc (defScope sRow) csRowC1 ["_law_cell", "_law_many", "_law_boxes", "_law_state", "_law_word", "_law_b", "_law_c", "_law_target"] ["_law_k", "_law_state", "_law_many"] [none, some 3, some 1] := ⟨rfl, by decide +kernel, by decide +kernel, by decide +kernel, by decide +kernel, by decide +kernel⟩
theorem ok_row {f fD : Addr} {fd fdD : FuncData} (F : Fun K "_law_row" "_law_row" sRow f fd) (T : Txt K w.params mg) (GD : FnOk P w K mg base CX0 1 fD fdD ["_law_state", "_law_base"] spDigit) (kD : PySem.W.keepIn K (.ref fD) = true) (bD : Binds K fdD ["_law_state", "_law_base"] []) (mD : mg "_law_digit" = some (.ref fD)) : FnOk P w K mg base CX0 2 f fd ["_law_cell", "_law_many", "_law_boxes"] spRow := by
  refine F.ok scRow (fun vs H Q E h => ?_) (fun cdv A outer s H vs Q E hr h => ?_)
  · obtain ⟨c, n, bx, rfl, _⟩ := h
    rfl
  · obtain ⟨c, mm, bx, rfl, n0, n1, bx0, bx1, k⟩ := h
    refine wrapX (pssx_cons (psx_of (ps_set (i := 3) scRow.nd rfl (Or.inr rfl) (pe_lst (pa_cons (pe_callB (call_max2 rfl) (by rfl) T.max bt_max (pa_cons pe_int (pa_cons (pe_op op_sub (pv 0) (pe_op op_pow pe_int pe_int)) pa_nil))) (pa_cons (pe_op op_mod (pv 0) pe_int) (pa_cons pe_int pa_nil))))))
      (pssx_cons (psx_of (ps_set (i := 4) scRow.nd rfl (Or.inl rfl) (pe_call GD hr (by rfl) mD kD bD .nil pass0 (pa_cons (pv 3) (pa_cons pe_int pa_nil)))))
      (pssx_cons (psx_of (ps_set (i := 5) scRow.nd rfl (Or.inl rfl) (pe_call GD hr (by rfl) mD kD bD .nil pass0 (pa_cons (pv 3) (pa_cons (pv 2) pa_nil)))))
      (pssx_cons (psx_of (ps_set (i := 6) scRow.nd rfl (Or.inl rfl) (pe_call GD hr (by rfl) mD kD bD .nil pass0 (pa_cons (pv 3) (pa_cons (pv 2) pa_nil)))))
      (pssx_cons (psx_of (ps_set (i := 7) scRow.nd rfl (Or.inl rfl) (pe_call GD hr (by rfl) mD kD bD .nil pass0 (pa_cons (pv 3) (pa_cons (pv 1) pa_nil)))))
      (pssx_cons (psx_if (pt_cmpR op_lt (pv 4) pe_int (nomark _)) (pssx_one (psx_of (ps_ret (pe_ix ix_list (pe_lst (pa_cons (pe_tup (pa_cons pe_str pa_nil)) (pa_cons (pe_tup (pa_cons pe_str pa_nil)) (pa_cons (pe_tup (pa_cons pe_str (pa_cons (pv 6) pa_nil))) pa_nil)))) (pv 4) (fun _ _ => rfl))))) (pssx_nil pss_nil))
      (pssx_cons (psx_if (pt_cmpR op_lt (pv 4) pe_int (nomark _)) (pssx_one (psx_of (ps_ret (pe_tup (pa_cons (pe_ix ix_list (pe_lst (pa_cons pe_str (pa_cons pe_str (pa_cons pe_str (pa_cons pe_str (pa_cons pe_str pa_nil)))))) (pe_op op_sub (pv 4) pe_int) (fun _ _ => rfl)) (pa_cons (pv 5) (pa_cons (pv 6) pa_nil))))))) (pssx_nil pss_nil))
      (pssx_cons (psx_if (pt_cmpR op_lt (pv 4) pe_int (nomark _)) (pssx_one (psx_of (ps_ret (pe_tup (pa_cons (pe_ix ix_list (pe_lst (pa_cons pe_str (pa_cons pe_str (pa_cons pe_str (pa_cons pe_str (pa_cons pe_str pa_nil)))))) (pe_op op_sub (pv 4) pe_int) (fun _ _ => rfl)) (pa_cons (pv 5) (pa_cons (pv 6) pa_nil))))))) (pssx_nil pss_nil))
      (pssx_cons (psx_if (pt_cmpR op_lt (pv 4) pe_int (nomark _)) (pssx_one (psx_of (ps_ret (pe_ix ix_list (pe_lst (pa_cons (pe_tup (pa_cons pe_str (pa_cons (pv 5) pa_nil))) (pa_cons (pe_tup (pa_cons pe_str (pa_cons (pv 5) (pa_cons (pe_op op_sub pe_int (pv 6)) pa_nil)))) (pa_cons (pe_tup (pa_cons pe_str (pa_cons (pv 6) (pa_cons pe_int pa_nil)))) pa_nil)))) (pe_op op_sub (pv 4) pe_int) (fun _ _ => rfl))))) (pssx_nil pss_nil))
      (pssx_cons (psx_if (pt_cmpR op_lt (pv 4) pe_int (nomark _)) (pssx_one (psx_of (ps_ret (pe_tup (pa_cons (pe_ix ix_list (pe_lst (pa_cons pe_str (pa_cons pe_str (pa_cons pe_str pa_nil)))) (pe_op op_sub (pv 4) pe_int) (fun _ _ => rfl)) (pa_cons (pv 7) (pa_cons (pe_op op_mod (pv 6) pe_int) pa_nil))))))) (pssx_nil pss_nil))
      (pssx_cons (psx_if (pt_cmpR op_lt (pv 4) pe_int (nomark _)) (pssx_one (psx_of (ps_ret (pe_tup (pa_cons (pe_ix ix_list (pe_lst (pa_cons pe_str (pa_cons pe_str pa_nil))) (pe_op op_sub (pv 4) pe_int) (fun _ _ => rfl)) (pa_cons (pv 5) (pa_cons (pv 7) (pa_cons pe_int pa_nil)))))))) (pssx_nil pss_nil))
      (pssx_one (psx_of (ps_ret (pe_tup (pa_cons pe_str (pa_cons (pv 5) (pa_cons (pe_callTy call_tuple_of (by rfl) T.tuple bt_tuple (pa_cons (pe_op op_cat (pe_lst (pa_cons (pv 7) pa_nil)) (pe_comp (N' := ["_law_k", "_law_state", "_law_many"]) (fr := [none, some 3, some 1]) scRowC1 rfl (pi_range1 rfl T.range (pa_cons (pv 6) pa_nil)) (fun C s0 H0 fp => (pg_name (i := 0) scRowC1.nd rfl (Or.inl rfl))) (fun C s0 H0 fp => pts_nil) (fun C s0 H0 fp => (pe_call GD hr (by rfl) mD kD bD .nil pass0 (pa_cons (pv 1) (pa_cons (pv 2) pa_nil)))))) pa_nil)) pa_nil)))))))))))))))))) ?_
    refine ⟨_, rfl, _, _, rfl, rfl, ⟨by decide, by decide, by decide⟩, _, _, rfl, rfl, _, _, rfl, _, rfl, _, _, rfl, rfl, (by show (0 : Int) < 2147483647; decide), (by show 3 ≤ sizeLine; decide), fun l nl => ?_⟩
    have fin : ∀ q H', SameX l H H' → RowOk H' q mm → Q (.ref q) H' := fun q H' x g => k q H' (SameX.of (Same.refl H) nl x) g
    refine ⟨_, rfl, l, 22, rfl, ⟨_, _, _, upd_same⟩, by decide, by decide, fun d H1 d0 d1 t1 z1 => ?_⟩
    have x1 := (SameX.same (same_new nl)).trans z1
    refine ⟨_, rfl, _, rfl, l, bx, rfl, t1, by omega, by omega, fun b H2 b0 b1 t2 z2 => ?_⟩
    have x2 := x1.trans z2
    refine ⟨_, rfl, _, rfl, l, bx, rfl, t2, by omega, by omega, fun cc H3 c0 c1 t3 z3 => ?_⟩
    have x3 := x2.trans z3
    refine ⟨_, rfl, _, rfl, l, mm, rfl, t3, by omega, by omega, fun tg H4 tg0 tg1 t4 z4 => ?_⟩
    have x4 := x3.trans z4
    clear z1 z2 z3 z4 x1 x2 x3 t1 t2 t3
    refine ⟨_, rfl, _, _, rfl, rfl, _, rfl, ?_⟩
    refine ite2 (fun e => ?_) (fun e => ?_)
    · have e : d < 3 := of_decide_eq_true e
      refine ⟨(by show 1 ≤ sizeLine; decide), fun q1 m1 => ⟨(by show 1 ≤ sizeLine; decide), fun q2 m2 => ⟨_, rfl, (by show 2 ≤ sizeLine; decide), fun q3 m3 => ⟨(by show 3 ≤ sizeLine; decide), fun ll ml => ?_⟩⟩⟩⟩
      have s1 := same_new (o := .tup [V.str "stop"]) m1
      have y1 : upd H4 q1 (.tup [V.str "stop"]) q1 = _ := upd_same
      generalize upd H4 q1 (.tup [V.str "stop"]) = G1 at s1 y1 m2 m3 ml ⊢
      have s2 := same_new (o := .tup [V.str "back"]) m2
      have y2 : upd G1 q2 (.tup [V.str "back"]) q2 = _ := upd_same
      generalize upd G1 q2 (.tup [V.str "back"]) = G2 at s2 y2 m3 ml ⊢
      have s3 := same_new (o := .tup [V.str "halt", V.int cc]) m3
      have y3 : upd G2 q3 (.tup [V.str "halt", V.int cc]) q3 = _ := upd_same
      generalize upd G2 q3 (.tup [V.str "halt", V.int cc]) = G3 at s3 y3 ml ⊢
      have s4 := same_new (o := .lst [V.ref q1, V.ref q2, V.ref q3]) ml
      have xf := x4.trans (.same (s1.trans (s2.trans (s3.trans s4))))
      have e5 : d = 0 ∨ d = 1 ∨ d = 2 := by omega
      rcases e5 with rfl | rfl | rfl
      · exact ⟨_, rfl, ll, _, _, .ref q1, rfl, rfl, SqL.of upd_same, at0 _ _, fin _ _ xf ⟨_, row_no (by decide) ((s2.trans (s3.trans s4)) _ _ y1), by simp, by simp⟩⟩
      · exact ⟨_, rfl, ll, _, _, .ref q2, rfl, rfl, SqL.of upd_same, at1 _ _ _, fin _ _ xf ⟨_, row_no (by decide) ((s3.trans s4) _ _ y2), by simp, by simp⟩⟩
      · exact ⟨_, rfl, ll, _, _, .ref q3, rfl, rfl, SqL.of upd_same, at2 _ _ _ _, fin _ _ xf ⟨_, row_one (by decide) (s4 _ _ y3), by simp, by simp⟩⟩
    have e : ¬ d < 3 := fun z => e (decide_eq_true z)
    refine ⟨_, rfl, _, _, rfl, rfl, _, rfl, ?_⟩
    refine ite2 (fun e2 => ?_) (fun e2 => ?_)
    · have e2 : d < 8 := of_decide_eq_true e2
      refine ⟨(by show 5 ≤ sizeLine; decide), fun lw mw => ?_⟩
      obtain ⟨u, hu, hat⟩ := at_words ["copy", "add", "less", "load", "keep"] d 3 (by omega) (by show d < 3 + 5; omega)
      refine ⟨_, rfl, _, _, rfl, rfl, lw, _, _, .str u, rfl, rfl, SqL.of upd_same, hat, _, rfl, _, rfl, (by show 3 ≤ sizeLine; decide), fun q m => ?_⟩
      exact fin _ _ ((x4.new mw).new m) ⟨_, row_two ((by decide : ∀ u ∈ (["copy", "add", "less", "load", "keep"] : List Str), plainW u) u hu) upd_same, by simp, by simp⟩
    have e2 : ¬ d < 8 := fun z => e2 (decide_eq_true z)
    refine ⟨_, rfl, _, _, rfl, rfl, _, rfl, ?_⟩
    refine ite2 (fun e3 => ?_) (fun e3 => ?_)
    · have e3 : d < 13 := of_decide_eq_true e3
      refine ⟨(by show 5 ≤ sizeLine; decide), fun lw mw => ?_⟩
      obtain ⟨u, hu, hat⟩ := at_words ["set", "more", "see", "put", "take"] d 8 (by omega) (by show d < 8 + 5; omega)
      refine ⟨_, rfl, _, _, rfl, rfl, lw, _, _, .str u, rfl, rfl, SqL.of upd_same, hat, _, rfl, _, rfl, (by show 3 ≤ sizeLine; decide), fun q m => ?_⟩
      exact fin _ _ ((x4.new mw).new m) ⟨_, row_two ((by decide : ∀ u ∈ (["set", "more", "see", "put", "take"] : List Str), plainW u) u hu) upd_same, by simp, by simp⟩
    have e3 : ¬ d < 13 := fun z => e3 (decide_eq_true z)
    refine ⟨_, rfl, _, _, rfl, rfl, _, rfl, ?_⟩
    refine ite2 (fun e4 => ?_) (fun e4 => ?_)
    · have e4 : d < 16 := of_decide_eq_true e4
      refine ⟨_, rfl, (by show 2 ≤ sizeLine; decide), fun q1 m1 => ⟨_, rfl, _, rfl, _, _, rfl, rfl, (by show 3 ≤ sizeLine; decide), fun q2 m2 => ⟨_, rfl, (by show 3 ≤ sizeLine; decide), fun q3 m3 => ⟨(by show 3 ≤ sizeLine; decide), fun ll ml => ?_⟩⟩⟩⟩
      have s1 := same_new (o := .tup [V.str "tell", V.int b]) m1
      have y1 : upd H4 q1 (.tup [V.str "tell", V.int b]) q1 = _ := upd_same
      generalize upd H4 q1 (.tup [V.str "tell", V.int b]) = G1 at s1 y1 m2 m3 ml ⊢
      have s2 := same_new (o := .tup [V.str "set", V.int b, V.int (0 - cc)]) m2
      have y2 : upd G1 q2 (.tup [V.str "set", V.int b, V.int (0 - cc)]) q2 = _ := upd_same
      generalize upd G1 q2 (.tup [V.str "set", V.int b, V.int (0 - cc)]) = G2 at s2 y2 m3 ml ⊢
      have s3 := same_new (o := .tup [V.str "set", V.int cc, V.int 5]) m3
      have y3 : upd G2 q3 (.tup [V.str "set", V.int cc, V.int 5]) q3 = _ := upd_same
      generalize upd G2 q3 (.tup [V.str "set", V.int cc, V.int 5]) = G3 at s3 y3 ml ⊢
      have s5 := same_new (o := .lst [V.ref q1, V.ref q2, V.ref q3]) ml
      have xf := x4.trans (.same (s1.trans (s2.trans (s3.trans s5))))
      have e5 : d = 13 ∨ d = 14 ∨ d = 15 := by omega
      rcases e5 with rfl | rfl | rfl
      · exact ⟨_, rfl, _, _, rfl, rfl, ll, _, _, .ref q1, rfl, rfl, SqL.of upd_same, at0 _ _, fin _ _ xf ⟨_, row_one (by decide) ((s2.trans (s3.trans s5)) _ _ y1), by simp, by simp⟩⟩
      · exact ⟨_, rfl, _, _, rfl, rfl, ll, _, _, .ref q2, rfl, rfl, SqL.of upd_same, at1 _ _ _, fin _ _ xf ⟨_, row_two (by decide) ((s3.trans s5) _ _ y2), by simp, by simp⟩⟩
      · exact ⟨_, rfl, _, _, rfl, rfl, ll, _, _, .ref q3, rfl, rfl, SqL.of upd_same, atI_nat (j := 2) rfl, fin _ _ xf ⟨_, row_two (by decide) (s5 _ _ y3), by simp, by simp⟩⟩
    have e4 : ¬ d < 16 := fun z => e4 (decide_eq_true z)
    have tin : ∀ t ∈ [tg], 0 ≤ t ∧ t < mm := fun t ht => by rw [List.mem_singleton.mp ht]; exact ⟨tg0, tg1⟩
    refine ⟨_, rfl, _, _, rfl, rfl, _, rfl, ?_⟩
    refine ite2 (fun e6' => ?_) (fun e6' => ?_)
    · have e6' : d < 19 := of_decide_eq_true e6'
      refine ⟨(by show 3 ≤ sizeLine; decide), fun lw mw => ?_⟩
      obtain ⟨u, hu, hat⟩ := at_words ["jump", "call", "mark"] d 16 (by omega) (by show d < 16 + 3; omega)
      refine ⟨_, rfl, _, _, rfl, rfl, lw, _, _, .str u, rfl, rfl, SqL.of upd_same, hat, ?_⟩
      refine ⟨_, rfl, _, rfl, _, _, rfl, rfl, (by show (0 : Int) < 2; decide), (by show 3 ≤ sizeLine; decide), fun q m => ?_⟩
      exact fin _ _ ((x4.new mw).new m) ⟨_, row_jcm hu upd_same, by simp, tin⟩
    have e6' : ¬ d < 19 := fun z => e6' (decide_eq_true z)
    refine ⟨_, rfl, _, _, rfl, rfl, _, rfl, ?_⟩
    refine ite2 (fun e7 => ?_) (fun e7 => ?_)
    · have e7 : d < 21 := of_decide_eq_true e7
      refine ⟨(by show 2 ≤ sizeLine; decide), fun lw mw => ?_⟩
      obtain ⟨u, hu, hat⟩ := at_words ["zero", "below"] d 19 (by omega) (by show d < 19 + 2; omega)
      refine ⟨_, rfl, _, _, rfl, rfl, lw, _, _, .str u, rfl, rfl, SqL.of upd_same, hat, _, rfl, _, rfl, (by show 4 ≤ sizeLine; decide), fun q m => ?_⟩
      exact fin _ _ ((x4.new mw).new m) ⟨_, row_zb hu upd_same, by simp, tin⟩
    clear e e2 e3 e4 e6' e7
    refine ⟨_, rfl, _, rfl, (by show 1 ≤ sizeLine; decide), fun l0 n0' => ?_⟩
    have x5 := x4.new (o := .lst [V.int tg]) n0'
    have t5 := t4.new (o := .lst [V.int tg]) n0'
    have h0 : upd H4 l0 (.lst [V.int tg]) l0 = _ := upd_same
    have g0 := t4.ne n0'
    generalize upd H4 l0 (.lst [V.int tg]) = H5 at x5 t5 h0 ⊢
    have hcc : 0 ≤ cc ∧ cc < 8 := ⟨c0, by omega⟩
    refine ⟨_, rfl, _, rfl, by omega, by omega, fun D nD => ?_⟩
    have gD := t5.ne nD
    have hD0 := x5.free gD nD
    have gl0 : l0 ≠ D := fun z => by rw [z, nD] at h0; cases h0
    refine comp_range (n := cc.toNat) (fun i σ ys H8 => ∃ (v : Option V) (ts : List Int), σ = [v, some (.ref l), some (.int mm)] ∧ ys = ts.map V.int ∧ ts.length = i ∧ SameX l H H8 ∧ St3 H8 l ∧ H8 D = some (.lst ys) ∧ H8 l0 = some (.lst [V.int tg]) ∧ ∀ t ∈ ts, 0 ≤ t ∧ t < mm) ?_ ?_ ?_
    · exact ⟨none, [], rfl, rfl, rfl, x5.new nD, t5.new nD, upd_same, by rw [upd_ne gl0]; exact h0, fun t h => absurd h (by simp)⟩
    · rintro i σ ys H8 hi ⟨v, ts, rfl, rfl, hl, x8, t8, hD, h8, hts⟩
      refine ⟨_, rfl, _, rfl, l, mm, rfl, t8, by omega, by omega, fun t H9 y0 y1 t9 z9 => ⟨z9 _ _ gD hD, ?_, ?_⟩⟩
      · rw [List.length_map]
        exact small1000 (by omega)
      · refine ⟨_, ts ++ [t], rfl, by simp, by simp [hl], ?_, t9.upd gD, upd_same, by rw [upd_ne gl0]; exact z9 _ _ g0 h8, fun t' h' => ?_⟩
        · intro c' o h1 h2
          rw [upd_ne (ne_of_none h2 hD0)]
          exact z9 _ _ h1 (x8 _ _ h1 h2)
        · rcases List.mem_append.mp h' with h' | h'
          · exact hts t' h'
          · rw [List.mem_singleton.mp h']
            exact ⟨y0, y1⟩
    · rintro σ ys H8 ⟨v, ts, rfl, rfl, hl, x8, t8, hD, h8, hts⟩
      refine ⟨l0, D, _, _, rfl, rfl, h8, hD, small_len (by simp; omega), fun lx nx => ?_⟩
      have ex : [V.int tg] ++ ts.map V.int = (tg :: ts).map V.int := rfl
      rw [ex]
      have x9 := x8.new (o := .lst ((tg :: ts).map V.int)) nx
      have h9 : upd H8 lx (.lst ((tg :: ts).map V.int)) lx = _ := upd_same
      generalize upd H8 lx (.lst ((tg :: ts).map V.int)) = H9 at x9 h9 ⊢
      refine ⟨lx, _, rfl, .inl ⟨SqL.of h9, fun p np => ⟨(by show 3 ≤ sizeLine; decide), fun q m => ?_⟩⟩⟩
      refine fin _ _ ((x9.new np).new m) ⟨_, row_table (ts := tg :: ts) upd_same (same_new m _ _ upd_same), by simp; omega, fun t ht => ?_⟩
      rcases List.mem_cons.mp ht with rfl | ht
      · exact ⟨tg0, tg1⟩
      · exact hts t ht
end
end My


set_option Elab.async false
set_option linter.all false
set_option maxRecDepth 100000
set_option maxHeartbeats 4000000
namespace My
open PySem L2
def rLenS (K : PySem.W.Frag) : List V → Hp → VK → Prop := fun xs H Q => ∃ p ys, xs = [.ref p] ∧ (SqL K H p ys ∨ SqT K H p ys) ∧ Q (.int ys.length) H
theorem ix_last {n : Nat} : ixN (n + 1) (-1) = some n := by
  unfold ixN
  rw [if_neg (by decide)]
  simp
  try omega
theorem at_last {xs : List V} {x : V} : atI (xs ++ [x]) (-1) = some x := by
  unfold atI
  rw [List.length_append, List.length_singleton, ix_last]
  simp
theorem set_last {α : Type} (ys : List α) (a b : α) : (ys ++ [a]).set ys.length b = ys ++ [b] := by simp
theorem len_rep (k : Nat) (c : Int) : ((List.replicate k [V.int c]).flatten).length = k := by simp
theorem sqL_same {K : PySem.W.Frag} {H H' : Hp} {a : Addr} {xs : List V} (e : Same H H') (h : SqL K H a xs) : SqL K H' a xs := by
  rcases h with (h | ⟨o, h⟩) | h
  · exact .inl (.inl (e _ _ h))
  · exact .inl (.inr ⟨o, e _ _ h⟩)
  · exact .inr h
/-- tuples stay -/
def SameT (H H' : Hp) : Prop := ∀ a xs, H a = some (.tup xs) → H' a = some (.tup xs)
theorem SameT.put {H : Hp} {l : Addr} {xs : List V} {o : HO} (h : H l = some (.lst xs)) : SameT H (upd H l o) := fun a ys e => by
  rw [upd_ne (fun z => by rw [z, h] at e; cases e)]
  exact e
theorem Same.tups {H H' : Hp} (s : Same H H') : SameT H H' := fun a xs e => s _ _ e
theorem RowF.tups {H H' : Hp} {q : Addr} {d : FR} (s : SameT H H') (h : RowF H q d) : RowF H' q d := by
  obtain ⟨o, h⟩ := h
  refine ⟨o, ?_⟩
  rcases h with ⟨a, b, p, e, h1, h2⟩ | ⟨a, h1⟩
  · exact .inl ⟨a, b, p, e, s _ _ h1, s _ _ h2⟩
  · exact .inr ⟨a, s _ _ h1⟩
def RowsN (H : Hp) (qs : List Addr) (ds : List FR) (n : Int) : Prop := qs.length = ds.length ∧ ∀ (i : Nat) q d, qs[i]? = some q → ds[i]? = some d → RowF H q d ∧ d.ts.length ≤ 16 ∧ ∀ t ∈ d.ts, 0 ≤ t ∧ t < n
theorem RowsN.nil {H : Hp} {n : Int} : RowsN H [] [] n := ⟨rfl, fun i q d h => by simp at h⟩
theorem RowsN.tups {H H' : Hp} {qs : List Addr} {ds : List FR} {n : Int} (s : SameT H H') (h : RowsN H qs ds n) : RowsN H' qs ds n := ⟨h.1, fun i q d a b => ⟨(h.2 i q d a b).1.tups s, (h.2 i q d a b).2⟩⟩
theorem RowsN.same {H H' : Hp} {qs : List Addr} {ds : List FR} {n : Int} (s : Same H H') (h : RowsN H qs ds n) : RowsN H' qs ds n := h.tups (Same.tups s)
theorem RowsN.snoc {H : Hp} {qs : List Addr} {ds : List FR} {n : Int} {q : Addr} {d : FR} (h : RowsN H qs ds n) (r : RowF H q d) (hl : d.ts.length ≤ 16) (ht : ∀ t ∈ d.ts, 0 ≤ t ∧ t < n) : RowsN H (qs ++ [q]) (ds ++ [d]) n := by
  refine ⟨by simp [h.1], fun i x e h1 h2 => ?_⟩
  by_cases hi : i < qs.length
  · rw [List.getElem?_append_left hi] at h1
    rw [List.getElem?_append_left (by rw [← h.1]; exact hi)] at h2
    exact h.2 i x e h1 h2
  · have h3 := (List.getElem?_eq_some_iff.mp h1).1
    rw [List.length_append] at h3
    have e' : i = qs.length := by simp at h3; omega
    subst e'
    have e1 : (qs ++ [q])[qs.length]? = some q := by simp
    have e2 : (ds ++ [d])[qs.length]? = some d := by rw [h.1]; simp
    rw [e1] at h1
    rw [e2] at h2
    cases h1
    cases h2
    exact ⟨r, hl, ht⟩
theorem RowsN.init {H : Hp} {qs : List Addr} {ds : List FR} {n : Int} {q : Addr} {d : FR} (h : RowsN H (qs ++ [q]) (ds ++ [d]) n) : RowsN H qs ds n := by
  have hl : qs.length = ds.length := by have := h.1; simp at this; exact this
  refine ⟨hl, fun i x e h1 h2 => h.2 i x e ?_ ?_⟩
  · rw [List.getElem?_append_left (List.getElem?_eq_some_iff.mp h1).1]; exact h1
  · rw [List.getElem?_append_left (List.getElem?_eq_some_iff.mp h2).1]; exact h2
/-- a list of such rows whose last one does not go on is a program -/
theorem RowsN.prog {H : Hp} {qs : List Addr} {ds : List FR} (h : RowsN H qs ds (ds.length : Int)) (hl : ∀ d, ds.getLast? = some d → d.u ∈ notOn) : ProgF ds := fun r d hd => by
  have hr := (List.getElem?_eq_some_iff.mp hd).1
  have hq : qs[r]? = some (qs[r]'(by rw [h.1]; exact hr)) := List.getElem?_eq_getElem _
  obtain ⟨_, h1, h2⟩ := h.2 r _ d hq hd
  refine ⟨h1, fun s hs => ?_⟩
  unfold ahd at hs
  split at hs
  · exact h2 s hs
  · rename_i hn
    rcases List.mem_append.mp hs with hs | hs
    · exact h2 s hs
    · rw [List.mem_singleton.mp hs]
      have : r + 1 ≠ ds.length := fun z => hn (.inr (hl d (by rw [List.getLast?_eq_getElem?, show ds.length - 1 = r by omega]; exact hd)))
      omega
section
variable {P : Program} {w : World} {K : PySem.W.Frag} {mg : Str → Option Value} {base : Heap}
/-! ### the program -/
def spProg : Sp := fun vs H Q _ => ∃ (a : Addr) (ns : List Int) (bx : Int), vs = [.ref a, .int bx] ∧ SqL K H a (ns.map V.int) ∧ ns.length ≤ 63 ∧ 2 ≤ bx ∧ bx ≤ 8 ∧ ∀ (l : Addr) (ds : List FR) (H' : Hp), Same H H' → H l = none → RowsF H' l ds → ProgF ds → 1 ≤ ds.length → ds.length ≤ 31 → Q (.ref l) H'
theorem scProg : FnScope ["_law_script", "_law_boxes", "_law_cells", "_law_rows"] ["_law_script", "_law_boxes"] (defScope sProg) := ⟨rfl, rfl, rfl, by decide +kernel, rfl, by decide +kernel, by decide +kernel⟩
def csProgC1 : Scope := { kind := .function, names := [(".0", .local), ("_law_cell", .local), ("_law_row", .globalImplicit), ("len", .globalImplicit), ("_law_boxes", .free), ("_law_cells", .free)], isGenerator := false, isCoroutine := false, more := [] }
theorem scProgC1 : CompSc (defScope sProg) csProgC1 ["_law_script", "_law_boxes", "_law_cells", "_law_rows"] ["_law_cell", "_law_boxes", "_law_cells"] [none, some 1, some 2] := ⟨rfl, by decide +kernel, by decide +kernel, by decide +kernel, by decide +kernel, by decide +kernel⟩
theorem ok_prog {f fR : Addr} {fd fdR : FuncData} (F : Fun K "_law_program" "_law_program" sProg f fd) (T : Txt K w.params mg) (GR : FnOk P w K mg base CX0 2 fR fdR ["_law_cell", "_law_many", "_law_boxes"] spRow) (kR : PySem.W.keepIn K (.ref fR) = true) (bR : Binds K fdR ["_law_cell", "_law_many", "_law_boxes"] []) (mR : mg "_law_row" = some (.ref fR)) : FnOk P w K mg base CX0 3 f fd ["_law_script", "_law_boxes"] (spProg (K := K)) := by
  refine F.ok scProg (fun vs H Q E h => ?_) (fun cdv A outer s H vs Q E hr h => ?_)
  · obtain ⟨a, ns, bx, rfl, _⟩ := h
    rfl
  · obtain ⟨a, ns, bx, rfl, hS, hn, bx0, bx1, k⟩ := h
    refine wrapX (pssx_cons (psx_of (ps_set (i := 2) scProg.nd rfl (Or.inr rfl) (pe_op op_cat (pe_slice sl_list (pv 0) (po_some pe_int) (po_some pe_int)) (pe_op op_rep (pe_lst (pa_cons pe_int pa_nil)) (pe_callTy call_int1 (by rfl) T.int bt_int (pa_cons (pe_cmpR op_lt (pe_callB call_len_seq (by rfl) T.len bt_len (pa_cons (pv 0) pa_nil)) pe_int (nomark _)) pa_nil))))))
      (pssx_cons (psx_of (ps_comp (i := 3) (N' := ["_law_cell", "_law_boxes", "_law_cells"]) (fr := [none, some 1, some 2]) scProg.nd rfl rfl scProgC1 rfl (pi_list (pv 2)) (fun C s0 H0 fp => (pg_name (i := 0) scProgC1.nd rfl (Or.inl rfl))) (fun C s0 H0 fp => pts_nil) (fun C s0 H0 fp => (pe_call GR hr (by rfl) mR kR bR .nil pass0 (pa_cons (pv 0) (pa_cons (pe_callB (r := rLenS K) call_len_seq (by rfl) T.len bt_len (pa_cons (pv 2) pa_nil)) (pa_cons (pv 1) pa_nil)))))))
      (pssx_mid (psx_if (pt_cmpR op_notIn_seq (pe_ix ix_tup (pe_ix ix_list (pv 3) (pe_un un_neg pe_int) (fun _ _ => rfl)) pe_int (fun _ _ => rfl)) (pe_tup (pa_cons pe_str (pa_cons pe_str (pa_cons pe_str (pa_cons pe_str pa_nil))))) rfl) (pssx_one (psx_of (ps_asg (pe_ix ix_list (pe_lst (pa_cons (pe_tup (pa_cons pe_str pa_nil)) (pa_cons (pe_tup (pa_cons pe_str pa_nil)) (pa_cons (pe_tup (pa_cons pe_str (pa_cons (pe_op op_mod (pe_ix ix_list (pv 2) (pe_un un_neg pe_int) (fun _ _ => rfl)) (pe_callB call_len_seq (by rfl) T.len bt_len (pa_cons (pv 2) pa_nil))) (pa_cons pe_int pa_nil)))) pa_nil)))) (pe_op op_mod (pe_op op_fdivB (pe_ix ix_list (pv 2) (pe_un un_neg pe_int) (fun _ _ => rfl)) pe_int) pe_int) (fun _ _ => rfl)) (pg_sub (pv 3) (pe_un un_neg pe_int) set_list)))) (pssx_nil pss_nil))
      (pssx_one (psx_of (ps_ret (pv 3))))))) ?_
    have sq : ∀ {H' : Hp}, Same H H' → SqL K H' a (ns.map V.int) := fun e => sqL_same e hS
    -- the cells
    refine ⟨_, rfl, 1, rfl, 31, rfl, a, _, rfl, hS, fun l1 n1 => ?_⟩
    have hcut : ∃ ms : List Int, cutV (ns.map V.int) (some 1) (some 31) = ms.map V.int ∧ ms.length = min 31 ns.length - min 1 ns.length := by
      unfold cutV
      have h1 : HT.sIx (ns.map V.int).length 0 (some 1) = min 1 (ns.map V.int).length := HT.sIx_nat ..
      have h2 : HT.sIx (ns.map V.int).length (ns.map V.int).length (some 31) = min 31 (ns.map V.int).length := HT.sIx_nat ..
      rw [h1, h2]
      refine ⟨_, by rw [← List.map_drop, ← List.map_take], ?_⟩
      simp
      omega
    obtain ⟨ms, hms, hml⟩ := hcut
    rw [hms]
    have s1 := same_new (o := .lst (ms.map V.int)) n1
    have h1 : upd H l1 (.lst (ms.map V.int)) l1 = _ := upd_same
    generalize upd H l1 (.lst (ms.map V.int)) = H1 at s1 h1 ⊢
    refine ⟨Nat.le_of_ble_eq_true rfl, fun l2 n2 => ?_⟩
    have s2 := same_new (o := .lst [V.int 9]) n2
    have h2 : upd H1 l2 (.lst [V.int 9]) l2 = _ := upd_same
    have h12 := s2 _ _ h1
    generalize upd H1 l2 (.lst [V.int 9]) = H2 at s2 h2 h12 ⊢
    refine ⟨_, rfl, a, _, rfl, .inl (sq (s1.trans s2)), _, _, rfl, rfl, .inr ⟨_, rfl, ?_⟩⟩
    rw [List.length_map]
    obtain ⟨kk, hkk⟩ : ∃ kk : Int, kk = (if decide ((ns.length : Int) < 2) = true then 1 else 0) := ⟨_, rfl⟩
    rw [← hkk]
    have hk01 : 0 ≤ kk ∧ kk ≤ 1 := by rw [hkk]; split <;> decide
    refine ⟨l2, kk, _, rfl, rfl, h2, by omega, by omega, small_len (by (try simp); omega), fun l3 n3 => ?_⟩
    refine ⟨l1, l3, _, _, rfl, rfl, same_new n3 _ _ h12, upd_same, small_len (by rw [len_rep, List.length_map]; (try simp); omega), fun lc nc => ?_⟩
    have hcs : ∃ cs : List Int, ms.map V.int ++ (List.replicate kk.toNat [V.int 9]).flatten = cs.map V.int ∧ 1 ≤ cs.length ∧ cs.length ≤ 31 := by
      rcases (show kk = 0 ∨ kk = 1 by omega) with rfl | rfl
      · refine ⟨ms, by simp, ?_, by omega⟩
        have : ¬ (ns.length : Int) < 2 := fun z => by rw [decide_eq_true z, if_pos rfl] at hkk; omega
        omega
      · refine ⟨ms ++ [9], by simp, by simp, ?_⟩
        have : (ns.length : Int) < 2 := by
          by_cases z : (ns.length : Int) < 2
          · exact z
          · rw [decide_eq_false z, if_neg (by decide)] at hkk; omega
        simp
        omega
    obtain ⟨cs, hcs, c1, c40⟩ := hcs
    have s4 := s1.trans (s2.trans ((same_new (o := .lst (List.replicate kk.toNat [V.int 9]).flatten) n3).trans (same_new (o := .lst (ms.map V.int ++ (List.replicate kk.toNat [V.int 9]).flatten)) nc)))
    have h4 : upd (upd H2 l3 (.lst (List.replicate kk.toNat [V.int 9]).flatten)) lc (.lst (ms.map V.int ++ (List.replicate kk.toNat [V.int 9]).flatten)) lc = _ := upd_same
    generalize upd (upd H2 l3 (.lst (List.replicate kk.toNat [V.int 9]).flatten)) lc (.lst (ms.map V.int ++ (List.replicate kk.toNat [V.int 9]).flatten)) = H4 at s4 h4 ⊢
    rw [hcs] at h4
    clear h1 h2 h12 s1 s2 hms hml hkk hk01
    -- the rows
    refine ⟨_, rfl, lc, rfl, ⟨_, SqL.of h4⟩, fun D nD => comp_list (K := K) (a := lc) (xs := cs.map V.int) (fun i σ ys H5 => ∃ (v : Option V) (qs : List Addr) (ds : List FR), σ = [v, some (.int bx), some (.ref lc)] ∧ ys = qs.map V.ref ∧ qs.length = i ∧ RowsN H5 qs ds (cs.length : Int) ∧ Same H4 H5 ∧ H5 D = some (.lst ys)) ?_ ?_ ?_ ?_⟩
    · exact ⟨none, [], [], rfl, rfl, rfl, .nil, same_new nD, upd_same⟩
    · rintro i σ ys H5 _ ⟨v, qs, ds, rfl, rfl, hl, hR, s5, hD⟩
      exact SqL.of (s5 _ _ h4)
    · rintro i x σ ys H5 hx ⟨v, qs, ds, rfl, rfl, hl, hR, s5, hD⟩
      rw [List.getElem?_map] at hx
      obtain ⟨c, hc, rfl⟩ := Option.map_eq_some_iff.mp hx
      have hil := (List.getElem?_eq_some_iff.mp hc).1
      refine ⟨_, rfl, _, rfl, lc, _, rfl, .inl (SqL.of (s5 _ _ h4)), _, rfl, c, _, bx, rfl, (by rw [List.length_map]; omega), (by rw [List.length_map]; omega), bx0, bx1, fun q H6 s6 hG => ⟨s6 _ _ hD, small_lt (by rw [List.length_map]; omega), ?_⟩⟩
      obtain ⟨d, r, hl16, hts⟩ := hG
      rw [List.length_map] at hts
      have st : SameT H6 (upd H6 D (.lst (qs.map V.ref ++ [V.ref q]))) := SameT.put (s6 _ _ hD)
      exact ⟨_, qs ++ [q], ds ++ [d], rfl, by simp, by simp [hl], ((hR.same s6).tups st).snoc (r.tups st) hl16 hts, same_put (s5.trans s6) nD, upd_same⟩
    · rintro σ xs0 H5 ⟨v, qs, ds, rfl, rfl, hl0, hR, s5, hD⟩
      rw [List.length_map] at hl0
      have s45 := s4.trans s5
      have hDH : H D = none := by
        cases e : H D with
        | none => rfl
        | some o => rw [s4 _ _ e] at nD; cases nD
      obtain ⟨qs0, q, rfl⟩ : ∃ ys x, qs = ys ++ [x] := ⟨_, _, (List.dropLast_concat_getLast (fun z => by rw [z] at hl0; simp at hl0; omega)).symm⟩
      obtain ⟨es, d, rfl⟩ : ∃ ys x, ds = ys ++ [x] := ⟨_, _, (List.dropLast_concat_getLast (fun z => by have := hR.1; rw [z] at this; simp at this)).symm⟩
      have hini := hR.init
      have hnn : (es ++ [d]).length = cs.length := by rw [← hR.1]; exact hl0
      have hq : (qs0 ++ [q])[qs0.length]? = some q := by simp
      have hd : (es ++ [d])[qs0.length]? = some d := by have := hini.1; rw [this]; simp
      obtain ⟨rw0, _, _⟩ := hR.2 _ _ _ hq hd
      obtain ⟨items, i1, _⟩ := rw0.parts
      -- the last one made one that does not go on
      refine ⟨fun σ H6 => ∃ (qs : List Addr) (ds : List FR), σ = [some (.ref a), some (.int bx), some (.ref lc), some (.ref D)] ∧ Same H H6 ∧ H6 D = some (.lst (qs.map V.ref)) ∧ RowsN H6 qs ds (cs.length : Int) ∧ ds.length = cs.length ∧ ∀ d, ds.getLast? = some d → d.u ∈ notOn, ?_, ?_⟩
      · refine ⟨_, rfl, _, rfl, D, _, _, .ref q, rfl, rfl, SqL.of hD, (by rw [List.map_append]; exact at_last), q, _, 0, _, rfl, rfl, SqT.of i1, at0 _ _, (by show 4 ≤ sizeLine; decide), fun t nt => ⟨t, notOn.map V.str, rfl, .inr (SqT.of upd_same), rfl, rfl, _, rfl, ?_⟩⟩
        have s6 := same_new (o := .tup [V.str "stop", V.str "back", V.str "halt", V.str "jump"]) nt
        rw [show inV (.str d.u) (notOn.map V.str) = decide (d.u ∈ notOn) from inV_str _ _]
        generalize upd H5 t (.tup [V.str "stop", V.str "back", V.str "halt", V.str "jump"]) = H6 at s6 ⊢
        refine ite2 (fun e => ?_) (fun e => ?_)
        · refine ⟨(by show 1 ≤ sizeLine; decide), fun q1 m1 => ⟨(by show 1 ≤ sizeLine; decide), fun q2 m2 => ?_⟩⟩
          have s1 := same_new (o := .tup [V.str "stop"]) m1
          have y1 : upd H6 q1 (.tup [V.str "stop"]) q1 = _ := upd_same
          generalize upd H6 q1 (.tup [V.str "stop"]) = G1 at s1 y1 m2 ⊢
          have s2 := same_new (o := .tup [V.str "back"]) m2
          have y2 : upd G1 q2 (.tup [V.str "back"]) q2 = _ := upd_same
          generalize upd G1 q2 (.tup [V.str "back"]) = G2 at s2 y2 ⊢
          have h2c := (s6.trans (s1.trans s2)) _ _ (s5 _ _ h4)
          obtain ⟨cs0, cv, rfl⟩ : ∃ ys x, cs = ys ++ [x] := ⟨_, _, (List.dropLast_concat_getLast (fun z => by rw [z] at c1; simp at c1)).symm⟩
          have atc : atI ((cs0 ++ [cv]).map V.int) (-1) = some (.int cv) := by rw [List.map_append]; exact at_last
          refine ⟨_, rfl, _, rfl, lc, _, _, .int cv, rfl, rfl, SqL.of h2c, atc, _, rfl, lc, _, rfl, .inl (SqL.of h2c), _, _, rfl, rfl, (by show (0 : Int) < (((cs0 ++ [cv]).map V.int).length : Int); rw [List.length_map]; simp), (by show 3 ≤ sizeLine; decide), fun q3 m3 => ⟨(by show 3 ≤ sizeLine; decide), fun ll ml => ?_⟩⟩
          obtain ⟨tg0, tg1⟩ : 0 ≤ (cv % (((cs0 ++ [cv]).map V.int).length : Int)) ∧ (cv % (((cs0 ++ [cv]).map V.int).length : Int)) < ((cs0 ++ [cv]).length : Int) := ⟨Int.emod_nonneg _ (by rw [List.length_map]; simp; try omega), by rw [List.length_map]; exact Int.emod_lt_of_pos _ (by simp; try omega)⟩
          have s3 := same_new (o := .tup [V.str "jump", V.int (cv % (((cs0 ++ [cv]).map V.int).length : Int)), V.int 0]) m3
          have y3 : upd G2 q3 (.tup [V.str "jump", V.int (cv % (((cs0 ++ [cv]).map V.int).length : Int)), V.int 0]) q3 = _ := upd_same
          have ml : upd G2 q3 (.tup [V.str "jump", V.int (cv % (((cs0 ++ [cv]).map V.int).length : Int)), V.int 0]) ll = none := ml
          generalize upd G2 q3 (.tup [V.str "jump", V.int (cv % (((cs0 ++ [cv]).map V.int).length : Int)), V.int 0]) = G3 at s3 y3 ml ⊢
          have s8 := same_new (o := .lst [V.ref q1, V.ref q2, V.ref q3]) ml
          have y8 : upd G3 ll (.lst [V.ref q1, V.ref q2, V.ref q3]) ll = _ := upd_same
          generalize upd G3 ll (.lst [V.ref q1, V.ref q2, V.ref q3]) = G4 at s8 y8 ⊢
          have sa := s6.trans (s1.trans (s2.trans (s3.trans s8)))
          have h4c := (s3.trans s8) _ _ h2c
          have h4D := sa _ _ hD
          have hd3 : 0 ≤ cv / 64 % 3 ∧ cv / 64 % 3 < 3 := ⟨Int.emod_nonneg _ (by decide), Int.emod_lt_of_pos _ (by decide)⟩
          obtain ⟨qx, dx, hat, hrow, htl, htn, hlast⟩ : ∃ (qx : Addr) (dx : FR), atI [V.ref q1, V.ref q2, V.ref q3] (cv / 64 % 3) = some (.ref qx) ∧ RowF G4 qx dx ∧ dx.ts.length ≤ 16 ∧ (∀ t ∈ dx.ts, 0 ≤ t ∧ t < ((cs0 ++ [cv]).length : Int)) ∧ dx.u ∈ notOn := by
            rcases (show cv / 64 % 3 = 0 ∨ cv / 64 % 3 = 1 ∨ cv / 64 % 3 = 2 by omega) with z | z | z
            · rw [z]; exact ⟨q1, _, at0 _ _, row_no (by decide) ((s2.trans (s3.trans s8)) _ _ y1), by simp, by simp, (by decide : ("stop" : Str) ∈ notOn)⟩
            · rw [z]; exact ⟨q2, _, at1 _ _ _, row_no (by decide) ((s3.trans s8) _ _ y2), by simp, by simp, (by decide : ("back" : Str) ∈ notOn)⟩
            · rw [z]; exact ⟨q3, _, at2 _ _ _ _, row_jcm (by decide) (s8 _ _ y3), by simp, (fun t ht => by rw [List.mem_singleton.mp ht]; exact ⟨tg0, tg1⟩), (by decide : ("jump" : Str) ∈ notOn)⟩
          refine ⟨_, rfl, _, rfl, lc, _, _, .int cv, rfl, rfl, SqL.of h4c, atc, _, _, rfl, rfl, ⟨by show (0 : Int) < 64; decide, by show (64 : Int) < _; decide⟩, _, _, rfl, rfl, (by show (0 : Int) < 3; decide), ll, _, _, .ref qx, rfl, rfl, SqL.of y8, hat, ?_⟩
          refine ⟨_, rfl, _, rfl, D, _, _, qs0.length, rfl, rfl, h4D, ?_, ?_⟩
          · rw [List.map_append, List.length_append, List.length_map, List.map_cons, List.map_nil, List.length_singleton]
            exact ix_last
          rw [show ((qs0 ++ [q]).map V.ref).set qs0.length (V.ref qx) = (qs0 ++ [qx]).map V.ref by rw [List.map_append, show qs0.length = (qs0.map V.ref).length by rw [List.length_map], List.map_cons, List.map_nil, set_last, List.map_append]; rfl]
          have st : SameT G4 (upd G4 D (.lst ((qs0 ++ [qx]).map V.ref))) := SameT.put h4D
          refine ⟨qs0 ++ [qx], _, rfl, same_put (s45.trans sa) hDH, upd_same, (hini.same sa).tups st |>.snoc (d := dx) (RowF.tups st hrow) htl htn, by have := hnn; simp only [List.length_append, List.length_singleton] at this ⊢; exact this, fun d hd => by rw [List.getLast?_concat] at hd; cases hd; exact hlast⟩
        · have e : d.u ∈ notOn := by simpa using e
          exact ⟨qs0 ++ [q], es ++ [d], rfl, s45.trans s6, s6 _ _ hD, hR.same s6, hnn, fun d' hd' => by rw [List.getLast?_concat] at hd'; cases hd'; exact e⟩
      · rintro σ H6 ⟨qs, ds, rfl, s6, hD6, hR6, hl6, hlast⟩
        refine ⟨_, rfl, ?_⟩
        rw [← hl6] at hR6
        exact k D ds H6 s6 hDH ⟨qs, hD6, hR6.1, fun i q d h1 h2 => (hR6.2 i q d h1 h2).1⟩ (hR6.prog hlast) (by omega) (by omega)
end
end My


set_option Elab.async false
set_option linter.all false
set_option maxRecDepth 100000
set_option maxHeartbeats 4000000
namespace My
open PySem L2
theorem ne_lst {H : Hp} {a lc : Addr} {as : List Addr} {ms : List Int} (h1 : H lc = some (.lst (as.map V.ref))) (h2 : H a = some (.lst (ms.map V.int))) (hm : as ≠ []) : a ≠ lc := fun z => by
  rw [z, h1] at h2
  cases as with
  | nil => exact hm rfl
  | cons x r =>
    cases ms with
    | nil => cases h2
    | cons y r' => cases h2
/-! ### the rows ahead of each -/
def nats (rs : List Nat) : List V := rs.map (fun r : Nat => V.int (r : Int))
theorem nats_ints (rs : List Nat) : nats rs = (rs.map fun r : Nat => (r : Int)).map V.int := by unfold nats; rw [List.map_map]; rfl
theorem nats_get {rs : List Nat} {i : Nat} {x : V} (h : (nats rs)[i]? = some x) : ∃ r, rs[i]? = some r ∧ x = .int (r : Int) := by
  unfold nats at h
  rw [List.getElem?_map] at h
  obtain ⟨r, hr, rfl⟩ := Option.map_eq_some_iff.mp h
  exact ⟨r, hr, rfl⟩
theorem nats_snoc (rs : List Nat) (r : Nat) : nats rs ++ [V.int (r : Int)] = nats (rs ++ [r]) := by unfold nats; rw [List.map_append]; rfl
theorem nats_len (rs : List Nat) : (nats rs).length = rs.length := by unfold nats; rw [List.length_map]
def AheadA (H : Hp) (la : Addr) (as : List Addr) (ds : List FR) : Prop := H la = some (.lst (as.map V.ref)) ∧ as.length = ds.length ∧ ∀ (s : Nat) a, as[s]? = some a → ∃ rs : List Nat, H a = some (.lst (nats rs)) ∧ ∀ r : Nat, r ∈ rs ↔ ∃ d, ds[r]? = some d ∧ (s : Int) ∈ ahd d r
theorem AheadA.same {H H' : Hp} {la : Addr} {as : List Addr} {ds : List FR} (s : Same H H') (h : AheadA H la as ds) : AheadA H' la as ds :=
  ⟨s _ _ h.1, h.2.1, fun i a e => (h.2.2 i a e).imp fun rs z => ⟨s _ _ z.1, z.2⟩⟩
/-- the lists so far: rows below r, and of row r the first ways -/
def Ahd (G : Hp) (as : List Addr) (ds : List FR) (r : Nat) (ms : List Int) : Prop := ∀ (s : Nat) a, as[s]? = some a → ∃ rs : List Nat, G a = some (.lst (nats rs)) ∧ rs.length ≤ 1000 * r + ms.length ∧ ∀ x : Nat, x ∈ rs ↔ (x < r ∧ ∃ d, ds[x]? = some d ∧ (s : Int) ∈ ahd d x) ∨ (x = r ∧ (s : Int) ∈ ms)
theorem nodup_at {as : List Addr} (h : as.Nodup) {i j : Nat} {a : Addr} (h1 : as[i]? = some a) (h2 : as[j]? = some a) : i = j := by
  obtain ⟨l1, e1⟩ := List.getElem?_eq_some_iff.mp h1
  obtain ⟨l2, e2⟩ := List.getElem?_eq_some_iff.mp h2
  exact (List.getElem_inj h).mp (e1.trans e2.symm)
theorem Ahd.put {G : Hp} {as : List Addr} {ds : List FR} {r s : Nat} {ms : List Int} {a : Addr} {rs : List Nat} (h : Ahd G as ds r ms) (hn : as.Nodup) (ha : as[s]? = some a) (hrs : G a = some (.lst (nats rs))) : Ahd (upd G a (.lst (nats (rs ++ [r])))) as ds r (ms ++ [(s : Int)]) := fun s' a' e => by
  obtain ⟨rs', g1, g2, g3⟩ := h s' a' e
  by_cases z : a' = a
  · subst z
    have es := nodup_at hn e ha
    subst es
    rw [hrs] at g1
    have er : rs' = rs := by
      have : nats rs' = nats rs := (HO.lst.inj (Option.some.inj g1)).symm
      unfold nats at this
      exact (List.map_inj_right (fun x y e => by injection e with e; exact Int.ofNat.inj e)).mp this
    subst er
    refine ⟨_, upd_same, by simp; omega, fun x => ?_⟩
    rw [List.mem_append, g3 x, List.mem_singleton, List.mem_append, List.mem_singleton]
    constructor
    · rintro ((z | z) | z)
      · exact .inl z
      · exact .inr ⟨z.1, .inl z.2⟩
      · exact .inr ⟨z, .inr rfl⟩
    · rintro (z | ⟨z, y | y⟩)
      · exact .inl (.inl z)
      · exact .inl (.inr ⟨z, y⟩)
      · exact .inr z
  · refine ⟨rs', by rw [upd_ne z]; exact g1, by simp; omega, fun x => ?_⟩
    rw [g3 x, List.mem_append, List.mem_singleton]
    have hne : ¬ (s' : Int) = (s : Int) := fun y => z (by have : s' = s := by omega
                                                          subst this; rw [e] at ha; cases ha; rfl)
    constructor
    · rintro (y | y)
      · exact .inl y
      · exact .inr ⟨y.1, .inl y.2⟩
    · rintro (y | ⟨y, x1 | x1⟩)
      · exact .inl y
      · exact .inr ⟨y, x1⟩
      · exact absurd x1 hne
theorem Ahd.next {G : Hp} {as : List Addr} {ds : List FR} {r : Nat} {ms : List Int} {d : FR} (h : Ahd G as ds r ms) (hd : ds[r]? = some d) (hm : ∀ j, j ∈ ms ↔ j ∈ ahd d r) (hl : ms.length ≤ 1000) : Ahd G as ds (r + 1) [] := fun s a e => by
  obtain ⟨rs, g1, g2, g3⟩ := h s a e
  refine ⟨rs, g1, by simp; omega, fun x => ?_⟩
  rw [g3 x]
  constructor
  · rintro (⟨y, z⟩ | ⟨y, z⟩)
    · exact .inl ⟨by omega, z⟩
    · exact .inl ⟨by omega, d, by rw [y]; exact hd, by rw [y]; exact (hm _).mp z⟩
  · rintro (⟨y, d', z1, z2⟩ | ⟨_, z⟩)
    · by_cases q : x = r
      · subst q
        rw [hd] at z1
        cases z1
        exact .inr ⟨rfl, (hm _).mpr z2⟩
      · exact .inl ⟨by omega, d', z1, z2⟩
    · exact (List.not_mem_nil z).elim
theorem Ahd.same {G G' : Hp} {as : List Addr} {ds : List FR} {r : Nat} {ms : List Int} (s : Same G G') (h : Ahd G as ds r ms) : Ahd G' as ds r ms := fun i a e => (h i a e).imp fun rs z => ⟨s _ _ z.1, z.2⟩
section
variable {P : Program} {w : World} {K : PySem.W.Frag} {mg : Str → Option Value} {base : Heap}
def spRAhead : Sp := fun vs H Q _ => ∃ (lr : Addr) (ds : List FR), vs = [.ref lr] ∧ RowsF H lr ds ∧ ProgF ds ∧ ds.length ≤ 3000 ∧ ∀ (l : Addr) (as : List Addr) (H' : Hp), Same H H' → AheadA H' l as ds → Q (.ref l) H'
theorem scRA : FnScope ["rows", "ahead", "r", "s"] ["rows"] (defScope sRAhead) := ⟨rfl, rfl, rfl, by decide +kernel, rfl, by decide +kernel, by decide +kernel⟩
def csRAC1 : Scope := { kind := .function, names := [(".0", .local), ("row", .local)], isGenerator := false, isCoroutine := false, more := [] }
theorem scRAC1 : CompSc (defScope sRAhead) csRAC1 ["rows", "ahead", "r", "s"] ["row"] [none] := ⟨rfl, by decide +kernel, by decide +kernel, by decide +kernel, by decide +kernel, by decide +kernel⟩
theorem ok_rahead {f fA : Addr} {fd fdA : FuncData} (F : Fun K "rows_ahead_of" "rows_ahead_of" sRAhead f fd) (T : Txt K w.params mg) (GA : FnOk P w K mg base CX0 3 fA fdA ["rows", "r"] spAhead) (kA : PySem.W.keepIn K (.ref fA) = true) (bA : Binds K fdA ["rows", "r"] []) (mA : mg "ways_ahead" = some (.ref fA)) : FnOk P w K mg base CX0 4 f fd ["rows"] spRAhead := by
  refine F.ok scRA (fun vs H Q E h => ?_) (fun cdv A outer s H vs Q E hr h => ?_)
  · obtain ⟨lr, ds, rfl, _⟩ := h
    rfl
  · obtain ⟨lr, ds, rfl, hR, hP, hn, k⟩ := h
    refine wrapX (pssx_cons (psx_of (ps_comp (i := 1) (N' := ["row"]) (fr := [none]) scRA.nd rfl rfl scRAC1 rfl (pi_list (pv 0)) (fun C s0 H0 fp => (pg_name (i := 0) scRAC1.nd rfl (Or.inl rfl))) (fun C s0 H0 fp => pts_nil) (fun C s0 H0 fp => (pe_lst pa_nil))))
      (pssx_cons (psx_of (ps_for PassesOwn.never rfl (pi_range1 rfl T.range (pa_cons (pe_callB call_len_seq (by rfl) T.len bt_len (pa_cons (pv 0) pa_nil)) pa_nil)) (pg_name (i := 2) scRA.nd rfl (Or.inl rfl)) (pss_one (ps_for PassesOwn.never rfl (pi_list (pe_call GA hr (by rfl) mA kA bA .nil pass0 (pa_cons (pv 0) (pa_cons (pv 2) pa_nil)))) (pg_name (i := 3) scRA.nd rfl (Or.inl rfl)) (pss_one (ps_expr (pe_bm PySem.F.plainAttrs_list PySem.F.slot_list_append PySem.F.type_list_append mt_append (pe_ix ix_list (pv 1) (pv 3) (fun _ _ => rfl)) (pa_cons (pv 2) pa_nil))))))))
      (pssx_one (psx_of (ps_ret (pv 1)))))) ?_
    have hlr := hR
    obtain ⟨qs, r1, r2, r3⟩ := hR
    refine ⟨_, rfl, lr, rfl, ⟨_, SqL.of r1⟩, fun D nD => comp_list (K := K) (a := lr) (xs := qs.map V.ref) (fun i σ ys G => ∃ (v : Option V) (as : List Addr), σ = [v] ∧ ys = as.map V.ref ∧ as.length = i ∧ as.Nodup ∧ (∀ a ∈ as, H a = none ∧ G a = some (.lst (([] : List Int).map V.int))) ∧ Same H G ∧ G D = some (.lst ys)) ?_ ?_ ?_ ?_⟩
    · exact ⟨none, [], rfl, rfl, rfl, List.nodup_nil, fun a h => (List.not_mem_nil h).elim, same_new nD, upd_same⟩
    · rintro i σ ys G _ ⟨v, as, rfl, rfl, _, _, _, s1, _⟩
      exact SqL.of (s1 _ _ r1)
    · rintro i x σ ys G hx ⟨v, as, rfl, rfl, hl, hnd, ha, s1, hD⟩
      have hil := (List.getElem?_eq_some_iff.mp hx).1
      rw [List.length_map] at hil
      refine ⟨Nat.le_of_ble_eq_true rfl, fun b nb => ⟨same_new nb _ _ hD, small_lt (by rw [List.length_map]; omega), _, as ++ [b], rfl, by simp, by simp [hl], ?_, fun y hy => ?_, same_put (s1.trans (same_new nb)) nD, upd_same⟩⟩
      · rw [List.nodup_append]
        refine ⟨hnd, by simp, fun x hx y hy e => ?_⟩
        rw [List.mem_singleton.mp hy] at e
        have := (ha x hx).2
        rw [e, nb] at this
        cases this
      · rcases List.mem_append.mp hy with hy | hy
        · obtain ⟨y0, y1⟩ := ha y hy
          exact ⟨y0, by rw [upd_ne (ne_lst hD y1 (List.ne_nil_of_mem hy))]; exact same_new nb _ _ y1⟩
        · rw [List.mem_singleton.mp hy]
          exact ⟨s1.free nb, by rw [upd_ne (fun z => by rw [z, hD] at nb; cases nb)]; exact upd_same⟩
    · rintro σ ys G ⟨v, as, rfl, rfl, hl, hnd, ha, s1, hD⟩
      rw [List.length_map] at hl
      have h0 : Ahd G as ds 0 [] := fun s a e => ⟨[], (ha a (List.mem_of_getElem? e)).2, by simp, fun x => by simp⟩
      have hna : ∀ a ∈ as, H a = none := fun a h => (ha a h).1
      refine ⟨_, rfl, lr, _, rfl, .inl (SqL.of (s1 _ _ r1)), _, rfl, by rw [List.length_map]; omega, by rw [List.length_map]; omega, ?_⟩
      refine for_range (lo := 0) (n := (((qs.map V.ref).length : Nat) : Int).toNat) (fun i σ G1 => ∃ v2 v3 : Option V, σ = [some (.ref lr), some (.ref D), v2, v3] ∧ Same H G1 ∧ G1 D = some (.lst (as.map V.ref)) ∧ Ahd G1 as ds i []) ?_ ?_ ?_
      · exact ⟨_, _, rfl, s1, hD, h0⟩
      · rintro i σ G1 hi ⟨v2, v3, rfl, s2, hD1, hA⟩
        have hin : i < ds.length := by
          rw [Int.toNat_natCast, List.length_map, r2] at hi
          exact hi
        have e0 : (0 : Int) + (i : Int) = (i : Int) := by omega
        rw [e0]
        have hd : ds[i]? = some ds[i] := List.getElem?_eq_getElem hin
        generalize ds[i] = d at hd
        obtain ⟨p1, p2⟩ := hP i d hd
        refine ⟨_, rfl, _, rfl, lr, ds, i, d, rfl, hlr.same s2, hd, p1, fun lw ms G2 s3 nlw hlw hml hmm => ?_⟩
        have glw : ∀ a ∈ as, a ≠ lw := fun a ha z => by
          obtain ⟨j, hj, e⟩ := List.getElem_of_mem ha
          obtain ⟨rs, g1, _⟩ := hA j a (by rw [List.getElem?_eq_getElem hj, e])
          rw [z, nlw] at g1
          cases g1
        refine ⟨lw, rfl, ⟨_, SqL.of hlw⟩, for_list (K := K) (a := lw) (xs := ms.map V.int) (fun j σ G3 => ∃ v3 : Option V, σ = [some (.ref lr), some (.ref D), some (.int (i : Int)), v3] ∧ Same H G3 ∧ G3 D = some (.lst (as.map V.ref)) ∧ G3 lw = some (.lst (ms.map V.int)) ∧ Ahd G3 as ds i (ms.take j)) ?_ ?_ ?_ ?_⟩
        · exact ⟨_, rfl, s2.trans s3, s3 _ _ hD1, hlw, hA.same s3⟩
        · rintro j σ G3 _ ⟨v3, rfl, _, _, h3, _⟩
          exact SqL.of h3
        · rintro j x σ G3 hx ⟨v3, rfl, s4, hD3, hlw3, hA3⟩
          rw [List.getElem?_map] at hx
          obtain ⟨t, ht, rfl⟩ := Option.map_eq_some_iff.mp hx
          have hjl := (List.getElem?_eq_some_iff.mp ht).1
          obtain ⟨t0, t1⟩ := p2 t ((hmm t).mp (List.mem_of_getElem? ht))
          obtain ⟨tn, rfl⟩ := Int.eq_ofNat_of_zero_le t0
          have hat : as[tn]? = some (as[tn]'(by omega)) := List.getElem?_eq_getElem _
          generalize as[tn]'(by omega) = at_ at hat
          obtain ⟨rs, g1, g2, g3⟩ := hA3 tn at_ hat
          have hmem := List.mem_of_getElem? hat
          refine ⟨_, rfl, _, rfl, D, _, _, .ref at_, rfl, rfl, SqL.of hD3, atI_nat (j := tn) (by rw [List.getElem?_map, hat]; rfl), .inl ⟨rfl, _, SqL.of g1⟩, _, rfl, at_, _, _, rfl, rfl, g1, Nat.lt_of_le_of_lt (show (nats rs).length ≤ 10000000 by rw [nats_len]; rw [List.length_take] at g2; omega) (by decide), ?_⟩
          rw [nats_snoc]
          have ne1 : at_ ≠ D := ne_lst hD3 (by rw [g1, nats_ints]) (List.ne_nil_of_mem hmem)
          refine ⟨_, rfl, same_put s4 (hna _ hmem), by rw [upd_ne (Ne.symm ne1)]; exact hD3, by rw [upd_ne (Ne.symm (glw _ hmem))]; exact hlw3, ?_⟩
          rw [List.take_add_one, ht]
          exact hA3.put hnd hat g1
        · rintro σ G3 ⟨v3, rfl, s4, hD3, hlw3, hA3⟩
          rw [List.length_map, List.take_length] at hA3
          exact ⟨_, _, rfl, s4, hD3, hA3.next hd hmm hml⟩
      · rintro σ G1 ⟨v2, v3, rfl, s2, hD1, hA⟩
        rw [Int.toNat_natCast, List.length_map, r2] at hA
        refine ⟨_, rfl, k D as G1 s2 ⟨hD1, by omega, fun s a e => ?_⟩⟩
        obtain ⟨rs, g1, _, g3⟩ := hA s a e
        refine ⟨rs, g1, fun r => ?_⟩
        rw [g3 r]
        constructor
        · rintro (⟨_, z⟩ | ⟨_, z⟩)
          · exact z
          · exact (List.not_mem_nil z).elim
        · rintro ⟨d, z1, z2⟩
          exact .inl ⟨(List.getElem?_eq_some_iff.mp z1).1, d, z1, z2⟩
end
end My


set_option Elab.async false
set_option linter.all false
set_option maxRecDepth 100000
set_option maxHeartbeats 4000000
namespace My
open PySem L2
/-! ### the rows that need a box -/
inductive NeedsR (ds : List FR) (b : Int) : Nat → Prop
  | now {r : Nat} {d : FR} : ds[r]? = some d → needF d b = true → NeedsR ds b r
  | later {r s : Nat} {d : FR} : ds[r]? = some d → wrF d b = false → (s : Int) ∈ ahd d r → NeedsR ds b s → NeedsR ds b r
theorem NeedsR.lt {ds : List FR} {b : Int} {r : Nat} (h : NeedsR ds b r) : r < ds.length := by
  cases h with
  | now h _ => exact (List.getElem?_eq_some_iff.mp h).1
  | later h _ _ _ => exact (List.getElem?_eq_some_iff.mp h).1
def needR (ds : List FR) (b : Int) (r : Nat) : Bool := match ds[r]? with
  | some d => needF d b
  | none => false
def nD (ks : List Nat) : List (Key × V) := ks.map (fun r : Nat => ((Sum.inl (r : Int) : Key), V.bl true))
theorem nD_val (ks : List Nat) (r : Nat) : valV (nD ks) (Sum.inl (r : Int)) = if r ∈ ks then some (.bl true) else none := by
  induction ks with
  | nil => rfl
  | cons x t ih =>
    show valV ((Sum.inl (x : Int), V.bl true) :: nD t) _ = _
    by_cases e : x = r
    · subst e
      rw [valV_pos rfl, if_pos (by simp)]
    · have ne : ¬ ((Sum.inl (x : Int) : Key) = Sum.inl (r : Int)) := fun z => e (by have := Sum.inl.inj z; omega)
      rw [valV_neg ne, ih]
      by_cases h : r ∈ t
      · rw [if_pos h, if_pos (by simp [h])]
      · rw [if_neg h, if_neg (by simp [h]; omega)]
theorem nD_put {ks : List Nat} {r : Nat} (h : ¬ r ∈ ks) : putK (nD ks) (Sum.inl (r : Int)) (.bl true) = nD (ks ++ [r]) := by
  rw [putK_new _ (by rw [nD_val, if_neg h])]
  unfold nD
  rw [List.map_append]
  rfl
theorem nD_len (ks : List Nat) : (nD ks).length = ks.length := by unfold nD; rw [List.length_map]
theorem nodup_lenN : ∀ {ms : List Nat} {n : Nat}, ms.Nodup → (∀ j ∈ ms, j < n) → ms.length ≤ n := fun {ms n} hn h => by
  have h2 := nodup_len (ms := ms.map fun r : Nat => (r : Int)) (xs := (List.range n).map fun r : Nat => (r : Int)) (by
    rw [List.nodup_iff_pairwise_ne, List.pairwise_map]
    exact (List.nodup_iff_pairwise_ne.mp hn).imp fun hne e => hne (by omega)) (fun j hj => by
    obtain ⟨r, hr, rfl⟩ := List.mem_map.mp hj
    exact List.mem_map.mpr ⟨r, List.mem_range.mpr (h r hr), rfl⟩)
  simpa using h2
/-- what is true of the found ones (ks) and the waiting ones (ws) -/
structure Wl (ds : List FR) (b : Int) (ks ws : List Nat) : Prop where
  nd : ks.Nodup
  wd : ws.Nodup
  sub : ∀ x ∈ ws, x ∈ ks
  need : ∀ x ∈ ks, NeedsR ds b x
  base : ∀ r, needR ds b r = true → r ∈ ks
/-- those led to from found ones that do not wait are found -/
def Shut (ds : List FR) (b : Int) (ks ws : List Nat) : Prop := ∀ s ∈ ks, ¬ s ∈ ws → ∀ (r : Nat) d, ds[r]? = some d → wrF d b = false → (s : Int) ∈ ahd d r → r ∈ ks
theorem Wl.all {ds : List FR} {b : Int} {ks : List Nat} (h : Wl ds b ks []) (hs : Shut ds b ks []) (r : Nat) : r ∈ ks ↔ NeedsR ds b r := by
  refine ⟨h.need r, fun z => ?_⟩
  induction z with
  | now h1 h2 => exact h.base _ (by unfold needR; rw [h1]; exact h2)
  | later h1 h2 h3 _ ih => exact hs _ ih (by simp) _ _ h1 h2 h3
theorem Wl.len {ds : List FR} {b : Int} {ks ws : List Nat} (h : Wl ds b ks ws) : ks.length ≤ ds.length := nodup_lenN h.nd fun x hx => (h.need x hx).lt
theorem Wl.wlen {ds : List FR} {b : Int} {ks ws : List Nat} (h : Wl ds b ks ws) : ws.length ≤ ds.length := nodup_lenN h.wd fun x hx => (h.need x (h.sub x hx)).lt
section
variable {P : Program} {w : World} {K : PySem.W.Frag} {mg : Str → Option Value} {base : Heap}
def spRNeed : Sp := fun vs H Q _ => ∃ (lr la : Addr) (as : List Addr) (b : Int) (ds : List FR), vs = [.ref lr, .ref la, .int b] ∧ RowsF H lr ds ∧ AheadA H la as ds ∧ ds.length ≤ 3000 ∧ ∀ (p : Addr) (ks : List Nat) (H' : Hp), Same H H' → H p = none → H' p = some (.dK (nD ks)) → (∀ r, r ∈ ks ↔ NeedsR ds b r) → Q (.ref p) H'
theorem scRN : FnScope ["rows", "ahead", "box", "waiting", "needing", "r", "s"] ["rows", "ahead", "box"] (defScope sRNeed) := ⟨rfl, rfl, rfl, by decide +kernel, rfl, by decide +kernel, by decide +kernel⟩
def csRNC1 : Scope := { kind := .function, names := [(".0", .local), ("r", .local), ("row", .local), ("needs_at_once", .globalImplicit), ("box", .free)], isGenerator := false, isCoroutine := false, more := [] }
theorem scRNC1 : CompSc (defScope sRNeed) csRNC1 ["rows", "ahead", "box", "waiting", "needing", "r", "s"] ["r", "row", "box"] [none, none, some 2] := ⟨rfl, by decide +kernel, by decide +kernel, by decide +kernel, by decide +kernel, by decide +kernel⟩
theorem ok_rneed {f fN fW : Addr} {fd fdN fdW : FuncData} (F : Fun K "rows_that_need" "rows_that_need" sRNeed f fd) (T : Txt K w.params mg) (GN : FnOk P w K mg base CX0 2 fN fdN ["row", "box"] spNeeds) (kN : PySem.W.keepIn K (.ref fN) = true) (bN : Binds K fdN ["row", "box"] []) (mN : mg "needs_at_once" = some (.ref fN)) (GW : FnOk P w K mg base CX0 1 fW fdW ["row"] spWrites) (kW : PySem.W.keepIn K (.ref fW) = true) (bW : Binds K fdW ["row"] []) (mW : mg "writes_of" = some (.ref fW)) : FnOk P w K mg base CX0 3 f fd ["rows", "ahead", "box"] spRNeed := by
  refine F.ok scRN (fun vs H Q E h => ?_) (fun cdv A outer s H vs Q E hr h => ?_)
  · obtain ⟨lr, la, as, b, ds, rfl, _⟩ := h
    rfl
  · obtain ⟨lr, la, as, b, ds, rfl, hR, hA, hn, k⟩ := h
    have hr1 : Room 1 (A.deeper (PyProof.Rows.envOfC "rows_that_need" (defScope sRNeed) s.heap.objs.size f cdv)) := hr.mono (by decide)
    have hu : (A.deeper (PyProof.Rows.envOfC "rows_that_need" (defScope sRNeed) s.heap.objs.size f cdv)).units + 1 < cLine := Nat.lt_of_le_of_lt (Nat.add_le_add_left (by decide : 1 ≤ 64) _) hr.units
    refine wrapX (pssx_cons (psx_of (ps_comp (i := 3) (N' := ["r", "row", "box"]) (fr := [none, none, some 2]) scRN.nd rfl rfl scRNC1 rfl (pi_enum rfl T.enum (pa_cons (pv 0) pa_nil)) (fun C s0 H0 fp => (pg_two (K := K) (i := 0) (j := 1) rfl rfl scRNC1.nd rfl (Or.inl rfl) rfl (Or.inl rfl))) (fun C s0 H0 fp => (pts_one (pt_val (pe_call GN hr (by rfl) mN kN bN .nil pass0 (pa_cons (pv 1) (pa_cons (pv 2) pa_nil)))))) (fun C s0 H0 fp => (pv 0))))
      (pssx_cons (psx_of (ps_set (i := 4) scRN.nd rfl (Or.inl rfl) pe_dnewK))
      (pssx_cons (psx_of (ps_for PassesOwn.never rfl (pi_list (pv 3)) (pg_name (i := 5) scRN.nd rfl (Or.inl rfl)) (pss_one (ps_dput hu (pv 4) (pv 5) pe_bl rfl))))
      (pssx_cons (psx_of (ps_while PassesOwn.never (pt_cmpR op_gt (pe_callB call_len_seq (by rfl) T.len bt_len (pa_cons (pv 3) pa_nil)) pe_int (nomark _)) (pss_cons (ps_set (i := 6) scRN.nd rfl (Or.inl rfl) (pe_bm0 PySem.F.plainAttrs_list PySem.F.slot_list_pop PySem.F.type_list_pop mt_pop (pv 3)))
      (pss_one (ps_for PassesOwn.never rfl (pi_list (pe_ix ix_list (pv 1) (pv 6) (fun _ _ => rfl))) (pg_name (i := 5) scRN.nd rfl (Or.inl rfl)) (pss_one (ps_if (pw_and (pt_cmp (pc_dnotin hu (pv 5) (pv 4))) (pw_and1 (pt_cmpR op_notIn_seq (pv 2) (pe_call GW hr1 (by rfl) mW kW bW .nil pass0 (pa_cons (pe_ix ix_list (pv 0) (pv 5) (fun _ _ => rfl)) pa_nil)) rfl))).pt (pss_cons (ps_dput hu (pv 4) (pv 5) pe_bl rfl)
      (pss_one (ps_expr (pe_bm PySem.F.plainAttrs_list PySem.F.slot_list_append PySem.F.type_list_append mt_append (pv 3) (pa_cons (pv 5) pa_nil))))) pss_nil)))))))
      (pssx_one (psx_of (ps_ret (pv 4)))))))) ?_
    have hlr := hR
    obtain ⟨qs, r1, r2, r3⟩ := hR
    -- those that need it at once
    refine ⟨_, rfl, lr, rfl, ⟨_, SqL.of r1⟩, fun D nD' => comp_enum (K := K) (a := lr) (xs := qs.map V.ref) (fun i σ ys G => ∃ (v1 v2 : Option V), σ = [v1, v2, some (.int b)] ∧ ys = nats ((List.range i).filter (needR ds b)) ∧ Same H G ∧ G D = some (.lst ys)) ?_ ?_ ?_ ?_⟩
    · exact ⟨none, none, rfl, rfl, same_new nD', upd_same⟩
    · rintro i σ ys G _ ⟨v1, v2, rfl, rfl, s1, _⟩
      exact SqL.of (s1 _ _ r1)
    · rintro i x σ ys G t hx nt ⟨v1, v2, rfl, rfl, s1, hD⟩
      rw [List.getElem?_map] at hx
      obtain ⟨q, hq, rfl⟩ := Option.map_eq_some_iff.mp hx
      have hil := (List.getElem?_eq_some_iff.mp hq).1
      have hd : ds[i]? = some (ds[i]'(by omega)) := List.getElem?_eq_getElem _
      generalize ds[i]'(by omega) = d at hd
      have s2 := same_new (o := .tup [V.int i, V.ref q]) nt
      have ht : upd G t (.tup [V.int i, V.ref q]) t = _ := upd_same
      have hD2 := s2 _ _ hD
      generalize upd G t (.tup [V.int i, V.ref q]) = G1 at s2 ht hD2 ⊢
      have s12 := s1.trans s2
      have hrg : (List.range (i + 1)).filter (needR ds b) = if needF d b = true then (List.range i).filter (needR ds b) ++ [i] else (List.range i).filter (needR ds b) := by
        have e : needR ds b i = needF d b := by unfold needR; rw [hd]
        rw [List.range_succ, List.filter_append]
        cases h : needF d b
        · rw [List.filter_cons_of_neg (by rw [e, h]; decide)]; simp
        · rw [List.filter_cons_of_pos (by rw [e, h])]; simp
      refine ⟨t, _, rfl, SqT.of ht, rfl, _, _, rfl, _, _, rfl, rfl, ?_⟩
      refine ⟨_, rfl, _, rfl, q, b, d, rfl, (r3 i q d hq hd).same s12, fun G2 s3 => ⟨_, rfl, ?_⟩⟩
      refine ite2 (fun e => ?_) (fun e => ?_)
      · refine ⟨_, rfl, s3 _ _ hD2, ?_, _, _, rfl, ?_, same_put (s12.trans s3) nD', upd_same⟩
        · rw [nats_len]
          exact small_lt (Nat.le_trans (List.length_filter_le _ _) (by rw [List.length_range]; omega))
        · rw [hrg, if_pos e, ← nats_snoc]
      · refine ⟨_, _, rfl, ?_, s12.trans s3, s3 _ _ hD2⟩
        rw [hrg, if_neg e]
    · rintro σ ys G ⟨v1, v2, rfl, rfl, s1, hD⟩
      rw [List.length_map, r2] at hD
      obtain ⟨w0, hw0⟩ : ∃ w0, w0 = (List.range ds.length).filter (needR ds b) := ⟨_, rfl⟩
      rw [← hw0] at hD
      have w0mem : ∀ r, r ∈ w0 ↔ needR ds b r = true := fun r => by
        rw [hw0, List.mem_filter, List.mem_range]
        refine ⟨fun z => z.2, fun z => ⟨?_, z⟩⟩
        unfold needR at z
        cases e : ds[r]? with
        | none => rw [e] at z; cases z
        | some d => exact (List.getElem?_eq_some_iff.mp e).1
      have w0nd : w0.Nodup := by rw [hw0]; exact List.nodup_range.sublist List.filter_sublist
      have w0need : ∀ r ∈ w0, NeedsR ds b r := fun r hr => by
        have z := (w0mem r).mp hr
        unfold needR at z
        cases e : ds[r]? with
        | none => rw [e] at z; cases z
        | some d => rw [e] at z; exact .now e z
      -- they are found
      refine fun p np => ?_
      have hp0 : H p = none := s1.free np
      have neDp : D ≠ p := fun z => by rw [← z, hD] at np; cases np
      have s2 := s1.trans (same_new (o := .dK []) np)
      have hp : upd G p (.dK []) p = some (.dK (nD ([] : List Nat))) := upd_same
      have hD2 := same_new (o := .dK []) np _ _ hD
      generalize upd G p (.dK []) = G1 at s2 hp hD2 ⊢
      refine ⟨_, rfl, D, rfl, ⟨_, SqL.of hD2⟩, for_list (K := K) (a := D) (xs := nats w0) (fun j σ G2 => ∃ v5 : Option V, σ = [some (.ref lr), some (.ref la), some (.int b), some (.ref D), some (.ref p), v5, none] ∧ Same H G2 ∧ G2 D = some (.lst (nats w0)) ∧ G2 p = some (.dK (nD (w0.take j)))) ?_ ?_ ?_ ?_⟩
      · exact ⟨_, rfl, s2, hD2, hp⟩
      · rintro j σ G2 _ ⟨v5, rfl, _, h, _⟩
        exact SqL.of h
      · rintro j x σ G2 hx ⟨v5, rfl, s3, hD3, hp3⟩
        obtain ⟨r, hr', rfl⟩ := nats_get hx
        have hj := (List.getElem?_eq_some_iff.mp hr').1
        have hnot : ¬ r ∈ w0.take j := fun z => by
          have := List.take_append_drop j w0
          have h2 := w0nd
          rw [← this, List.nodup_append] at h2
          refine h2.2.2 r z r ?_ rfl
          rw [List.drop_eq_getElem_cons hj]
          have e := (List.getElem?_eq_some_iff.mp hr').2
          rw [e]
          simp
        refine ⟨_, rfl, _, rfl, p, _, rfl, DPut.k (k := Sum.inl (r : Int)) hp3 (by rw [nD_len]; exact small_lt (by rw [List.length_take]; have := nodup_lenN w0nd (fun x hx => (w0need x hx).lt); omega)), ?_⟩
        rw [nD_put hnot]
        refine ⟨_, rfl, same_put s3 hp0, by rw [upd_ne neDp]; exact hD3, ?_⟩
        rw [List.take_add_one, hr']
        exact upd_same
      · rintro σ G2 ⟨v5, rfl, s3, hD3, hp3⟩
        rw [nats_len, List.take_length] at hp3
        -- and those that lead to them
        have hwl0 : Wl ds b w0 w0 := ⟨w0nd, w0nd, fun x hx => hx, w0need, fun r hr => (w0mem r).mpr hr⟩
        have hsh0 : Shut ds b w0 w0 := fun s hs hns => absurd hs hns
        refine ⟨fun mm σ G3 => ∃ (ks ws : List Nat) (v5 v6 : Option V), σ = [some (.ref lr), some (.ref la), some (.int b), some (.ref D), some (.ref p), v5, v6] ∧ Same H G3 ∧ G3 D = some (.lst (nats ws)) ∧ G3 p = some (.dK (nD ks)) ∧ Wl ds b ks ws ∧ Shut ds b ks ws ∧ mm = 2 * (ds.length - ks.length) + ws.length, ⟨_, w0, w0, v5, none, rfl, s3, hD3, hp3, hwl0, hsh0, rfl⟩, ?_⟩
        rintro mm σ G3 ⟨ks, ws, v5', v6, rfl, s4, hD4, hp4, hwl, hsh, rfl⟩
        refine ⟨_, rfl, D, _, rfl, .inl (SqL.of hD4), _, _, rfl, rfl, _, rfl, ?_⟩
        rw [nats_len]
        refine ite2 (fun e => ?_) (fun e => ?_)
        · have e : (0 : Int) < (ws.length : Int) := of_decide_eq_true e
          obtain ⟨ws0, sx, rfl⟩ : ∃ ys x, ws = ys ++ [x] := ⟨_, _, (List.dropLast_concat_getLast (fun z => by rw [z] at e; simp at e)).symm⟩
          refine ⟨fun σ G4 => ∃ (ks' ws' : List Nat) (v5 v6 : Option V), σ = [some (.ref lr), some (.ref la), some (.int b), some (.ref D), some (.ref p), v5, v6] ∧ Same H G4 ∧ G4 D = some (.lst (nats ws')) ∧ G4 p = some (.dK (nD ks')) ∧ Wl ds b ks' ws' ∧ Shut ds b ks' ws' ∧ 2 * (ds.length - ks'.length) + ws'.length < 2 * (ds.length - ks.length) + (ws0 ++ [sx]).length, fun σ' H' ⟨ks', ws', v5, v6, a1, a2, a3, a4, a5, a6, a7⟩ => ⟨_, a7, ks', ws', v5, v6, a1, a2, a3, a4, a5, a6, rfl⟩, ?_⟩
          have hsx : sx ∈ ks := hwl.sub sx (by simp)
          have hsn : ¬ sx ∈ ws0 := fun z => by
            have := hwl.wd
            rw [List.nodup_append] at this
            exact this.2.2 sx z sx (by simp) rfl
          refine ⟨_, rfl, .inl ⟨rfl, _, SqL.of hD4⟩, D, nats (ws0 ++ [sx]), .int (sx : Int), rfl, rfl, hD4, (by rw [nats_len, ← nats_snoc]; simp [nats]), ?_⟩
          have ed : (nats (ws0 ++ [sx])).dropLast = nats ws0 := by rw [← nats_snoc]; simp
          rw [ed]
          have s5 : Same H (upd G3 D (.lst (nats ws0))) := same_put s4 nD'
          have hD5 : upd G3 D (.lst (nats ws0)) D = _ := upd_same
          have hp5 : upd G3 D (.lst (nats ws0)) p = some (.dK (nD ks)) := by rw [upd_ne (Ne.symm neDp)]; exact hp4
          generalize upd G3 D (.lst (nats ws0)) = G4 at s5 hD5 hp5 ⊢
          have hwl5 : Wl ds b ks ws0 := ⟨hwl.nd, by have := hwl.wd; rw [List.nodup_append] at this; exact this.1, fun x hx => hwl.sub x (by simp [hx]), hwl.need, hwl.base⟩
          -- the rows ahead of it
          obtain ⟨q1, q2, q3⟩ := hA
          have hsl : sx < ds.length := (hwl.need sx hsx).lt
          have has : as[sx]? = some (as[sx]'(by omega)) := List.getElem?_eq_getElem _
          generalize as[sx]'(by omega) = ax at has
          obtain ⟨rs, g1, g2⟩ := q3 sx ax has
          have neaD : ax ≠ D := fun z => by rw [z, nD'] at g1; cases g1
          refine ⟨_, rfl, _, rfl, la, _, _, .ref ax, rfl, rfl, SqL.of (s5 _ _ q1), atI_nat (j := sx) (by rw [List.getElem?_map, has]; rfl), ax, rfl, ⟨_, SqL.of (s5 _ _ g1)⟩, ?_⟩
          refine for_list (K := K) (a := ax) (xs := nats rs) (fun j σ G5 => ∃ (ks' ws' : List Nat) (v5 : Option V), σ = [some (.ref lr), some (.ref la), some (.int b), some (.ref D), some (.ref p), v5, some (.int (sx : Int))] ∧ Same H G5 ∧ G5 D = some (.lst (nats ws')) ∧ G5 p = some (.dK (nD ks')) ∧ Wl ds b ks' ws' ∧ (∀ x ∈ ks, x ∈ ks') ∧ ¬ sx ∈ ws' ∧ (∀ s ∈ ks', s ≠ sx → ¬ s ∈ ws' → ∀ (r : Nat) d, ds[r]? = some d → wrF d b = false → (s : Int) ∈ ahd d r → r ∈ ks') ∧ (∀ r ∈ rs.take j, ∀ d, ds[r]? = some d → wrF d b = false → r ∈ ks') ∧ 2 * (ds.length - ks'.length) + ws'.length ≤ 2 * (ds.length - ks.length) + ws0.length) ?_ ?_ ?_ ?_
          · refine ⟨ks, ws0, _, rfl, s5, hD5, hp5, hwl5, fun x hx => hx, hsn, fun s hs hne hnw r d h1 h2 h3 => hsh s hs (fun z => ?_) r d h1 h2 h3, fun r hr => by simp at hr, Nat.le_refl _⟩
            rcases List.mem_append.mp z with z | z
            · exact hnw z
            · exact hne (List.mem_singleton.mp z)
          · rintro j σ G5 _ ⟨ks', ws', v5, rfl, s6, _⟩
            exact SqL.of (s6 _ _ g1)
          · rintro j x σ G5 hx ⟨ks', ws', v5, rfl, s6, hD6, hp6, hwl6, hkk, hsn6, hsh6, hrs6, hme⟩
            obtain ⟨r, hr', rfl⟩ := nats_get hx
            obtain ⟨d, hd, hsd⟩ := (g2 r).mp (List.mem_of_getElem? hr')
            have tk : rs.take (j + 1) = rs.take j ++ [r] := by rw [List.take_add_one, hr']; rfl
            refine ⟨_, rfl, _, rfl, p, _, rfl, DGet.k (k := Sum.inl (r : Int)) hp6, _, rfl, ?_⟩
            rw [nD_val]
            by_cases hin : r ∈ ks'
            · rw [if_pos hin]
              refine iteN (by decide) ?_
              refine ⟨ks', ws', _, rfl, s6, hD6, hp6, hwl6, hkk, hsn6, hsh6, fun r' hr'' d' h1 h2 => ?_, hme⟩
              rw [tk] at hr''
              rcases List.mem_append.mp hr'' with z | z
              · exact hrs6 r' z d' h1 h2
              · rw [List.mem_singleton.mp z]; exact hin
            · rw [if_neg hin]
              refine iteP (by decide) ?_
              obtain ⟨qs', q, y1, y2, y2', y3⟩ := (hlr.same s6).get hd
              obtain ⟨items, i1, i2, _, i4⟩ := y3.parts
              refine ⟨_, rfl, _, rfl, _, rfl, lr, _, _, _, rfl, rfl, SqL.of y1, y2, q, d.u, items, rfl, i1, i2, fun l ms G6 s7 nl hl hw => ?_⟩
              refine ⟨l, _, rfl, .inl (SqL.of hl), rfl, flat_ints ms, _, rfl, ?_⟩
              rw [show (if true = true then !inV (.int b) (ms.map V.int) else inV (.int b) (ms.map V.int)) = !wrF d b by rw [if_pos rfl, inV_int, wrote_iff i2 i4 hw b]]
              have s67 := s6.trans s7
              have hD7 := s7 _ _ hD6
              have hp7 := s7 _ _ hp6
              refine ite2 (fun ew => ?_) (fun ew => ?_)
              · have ew : wrF d b = false := by simpa using ew
                have hneed : NeedsR ds b r := .later hd ew hsd (hwl.need sx hsx)
                have hnew : ¬ r ∈ ws' := fun z => hin (hwl6.sub r z)
                have hl1 := hwl6.len
                have hl2 := hwl6.wlen
                have hlt : ks'.length < ds.length := by
                  have := nodup_lenN (ms := ks' ++ [r]) (n := ds.length) (by
                    rw [List.nodup_append]
                    exact ⟨hwl6.nd, by simp, fun x hx y hy e => hin (by rw [← List.mem_singleton.mp hy, ← e]; exact hx)⟩) (fun x hx => by
                    rcases List.mem_append.mp hx with z | z
                    · exact (hwl6.need x z).lt
                    · rw [List.mem_singleton.mp z]; exact hneed.lt)
                  rw [List.length_append, List.length_singleton] at this
                  omega
                refine ⟨_, rfl, _, rfl, p, _, rfl, DPut.k (k := Sum.inl (r : Int)) hp7 (by rw [nD_len]; exact small_lt (by omega)), ?_⟩
                rw [nD_put hin]
                have s8 : Same H (upd G6 p (.dK (nD (ks' ++ [r])))) := same_put s67 hp0
                have hD8 : upd G6 p (.dK (nD (ks' ++ [r]))) D = some (.lst (nats ws')) := by rw [upd_ne neDp]; exact hD7
                have hp8 : upd G6 p (.dK (nD (ks' ++ [r]))) p = _ := upd_same
                generalize upd G6 p (.dK (nD (ks' ++ [r]))) = G7 at s8 hD8 hp8 ⊢
                refine ⟨_, rfl, .inl ⟨rfl, _, SqL.of hD8⟩, _, rfl, D, _, _, rfl, rfl, hD8, small_lt (by rw [nats_len]; omega), ?_⟩
                rw [nats_snoc]
                refine ⟨ks' ++ [r], ws' ++ [r], _, rfl, same_put s8 nD', upd_same, by rw [upd_ne (Ne.symm neDp)]; exact hp8, ⟨?_, ?_, fun x hx => ?_, fun x hx => ?_, fun x hx => by simp [hwl6.base x hx]⟩, fun x hx => by simp [hkk x hx], fun z => ?_, fun s hs hne hnw r' d' h1 h2 h3 => ?_, fun r' hr'' d' h1 h2 => ?_, by simp; omega⟩
                · rw [List.nodup_append]
                  exact ⟨hwl6.nd, by simp, fun x hx y hy e => hin (by rw [← List.mem_singleton.mp hy, ← e]; exact hx)⟩
                · rw [List.nodup_append]
                  exact ⟨hwl6.wd, by simp, fun x hx y hy e => hnew (by rw [← List.mem_singleton.mp hy, ← e]; exact hx)⟩
                · rcases List.mem_append.mp hx with z | z
                  · simp [hwl6.sub x z]
                  · simp [List.mem_singleton.mp z]
                · rcases List.mem_append.mp hx with z | z
                  · exact hwl6.need x z
                  · rw [List.mem_singleton.mp z]; exact hneed
                · rcases List.mem_append.mp z with z | z
                  · exact hsn6 z
                  · exact hin (by rw [← List.mem_singleton.mp z]; exact hkk sx hsx)
                · rcases List.mem_append.mp hs with z | z
                  · have := hsh6 s z hne (fun y => hnw (by simp [y])) r' d' h1 h2 h3
                    simp [this]
                  · exact absurd (by rw [List.mem_singleton.mp z]; simp) hnw
                · rw [tk] at hr''
                  rcases List.mem_append.mp hr'' with z | z
                  · have := hrs6 r' z d' h1 h2
                    simp [this]
                  · simp [List.mem_singleton.mp z]
              · refine ⟨ks', ws', _, rfl, s67, hD7, hp7, hwl6, hkk, hsn6, hsh6, fun r' hr'' d' h1 h2 => ?_, hme⟩
                rw [tk] at hr''
                rcases List.mem_append.mp hr'' with z | z
                · exact hrs6 r' z d' h1 h2
                · have er := List.mem_singleton.mp z
                  subst er
                  rw [hd] at h1
                  cases h1
                  rw [h2] at ew
                  exact absurd rfl ew
          · rintro σ G5 ⟨ks', ws', v5, rfl, s6, hD6, hp6, hwl6, hkk, hsn6, hsh6, hrs6, hme⟩
            rw [nats_len, List.take_length] at hrs6
            refine ⟨ks', ws', _, _, rfl, s6, hD6, hp6, hwl6, fun s hs hnw r d h1 h2 h3 => ?_, by simp; omega⟩
            by_cases hne : s = sx
            · subst hne
              exact hrs6 r ((g2 r).mpr ⟨d, h1, h3⟩) d h1 h2
            · exact hsh6 s hs hne hnw r d h1 h2 h3
        · have e : ws = [] := by
            cases ws with
            | nil => rfl
            | cons x t => exact absurd (decide_eq_true (by simp; try omega)) e
          subst e
          exact ⟨_, rfl, k p ks G3 s4 hp0 hp4 (hwl.all hsh)⟩
end
end My


set_option Elab.async false
set_option linter.all false
set_option maxRecDepth 100000
set_option maxHeartbeats 4000000
namespace L2
open PySem PySem.Spec PyProof.Rows
structure CompSc1 (sc scope : Scope) (N N' : List Str) (fr : List (Option Nat)) (y0 : Str) : Prop where
  kind : scope.kind = .function
  cf : ∀ n acc, cellsFrom n scope.names acc = (y0, n) :: acc
  pc : ∀ h : Heap, pushCells h scope.names = h.push { cls := .type "cell", data := .cell none }
  only : ∀ z ∈ scope.names, z.2 = .cell → z.1 = y0
  isc : scope.names.lookup y0 = some .cell
  names : ∀ y ∈ scope.names, y.2 = .local → scope.names.lookup y.1 = some .local
  free : ∀ y ∈ scope.names, y.2 = .free → sc.names.lookup y.1 = some .cell
  nd : N'.Nodup
  fr : frOk sc scope N N' fr = true
def cxComp1 (X : Cx) (scope : Scope) (C : Addr) (N' : List Str) (s₀ : Shared) (H₀ : Hp) (fp : List Addr) (y0 : Str) : Cx where
  prog := X.prog
  w := X.w
  K := X.K
  mg := X.mg
  base := X.base
  A := X.A
  N := N'
  s₀ := s₀
  H₀ := H₀
  env := compEnvC scope ((y0, C + 1) :: clOf scope X.env) C X.env
  outer := X.stack
  stack := X.stack
  ex := fp
  calm := true
  fn := fun x => x == y0
  pn := []
  xe := fun _ _ => False


theorem newEnv1 {M : Model} {A : Around} {E : Value → Shared → Prop} {s : Shared} {scope : Scope} {globals : Addr} {closure : List (Str × Addr)} {qual : Str} {outer : Env} {code : Value} {builtins : Addr} {Q : Env → Shared → Prop} {y0 : Str}
    (cf : ∀ n acc, cellsFrom n scope.names acc = (y0, n) :: acc) (pc : ∀ h : Heap, pushCells h scope.names = h.push { cls := .type "cell", data := .cell none })
    (hQ : ∀ h' : Heap, h' = (s.heap.push { cls := .type "dict", data := .dict #[] }).push { cls := .type "cell", data := .cell none } → h'.Ns s.heap.objs.size (fun _ => none) → h'.IsCell (s.heap.objs.size + 1) none → (∀ b o, s.heap.get? b = some o → h'.get? b = some o) →
      Q { scope, locals := s.heap.objs.size, globals, cells := (y0, s.heap.objs.size + 1) :: closure, qual, func := none, code := outer.code, frame := outer.frame, builtins := outer.builtins } { s with heap := h' }) :
    wpAny M A (newFunctionEnv scope globals closure [] qual none code (some outer) builtins) Q E s := by
  simp only [newFunctionEnv, Option.isSome_some, if_true]
  refine wpAny_bind (wpAny_alloc ?_)
  refine wpAny_bind (wpAny_layCells _ (fun name kind cells => by cases hkc : kind == NameKind.cell <;> simp [hkc]) _ _ _ _ ?_)
  rw [cf, pc]
  rw [show ({ s with heap := s.heap.push { cls := .type "dict", data := .dict #[] } } : Shared).heap.objs.size = s.heap.objs.size + 1 from Heap.size_push ..]
  refine wpAny_bind ?_
  rw [List.forIn_nil]
  refine wpAny_pure (wpAny_pure (hQ _ rfl ?_ ?_ ?_))
  · exact (Heap.Ns.new s.heap (.type "dict")).keeps fun b o e => Heap.get?_push_of_some _ e
  · have := Heap.get?_push_size (s.heap.push { cls := .type "dict", data := .dict #[] }) (o := { cls := .type "cell", data := .cell none }) rfl
    rw [Heap.size_push] at this
    exact ⟨_, this, rfl⟩
  · intro b o e
    exact Heap.get?_push_of_some _ (Heap.get?_push_of_some _ e)
section
variable {X : Cx} {scope : Scope} {N' : List Str} {fr : List (Option Nat)} {pins : List (Addr × Obj)} {σ : St} {H : Hp} {s : Shared} {fp : List Addr} {y0 : Str}
theorem Inv.block1 {h1 : Heap} {t1 : Nat} {m : Str → Option Value} (S : CompSc1 X.env.scope scope X.N N' fr y0) (hc : X.calm = true) (I : Inv X pins σ H s) (hf : ∀ b ∈ fp, FpOk X pins H b) (hlt : ∀ b ∈ fp, b < s.heap.objs.size)
    (hns : h1.Ns s.heap.objs.size m) (old : ∀ b o, s.heap.get? b = some o → h1.get? b = some o) (hcell : h1.IsCell (s.heap.objs.size + 1) none) :
    Inv (cxComp1 X scope s.heap.objs.size N' s H fp y0) [] (frSt fr σ) H { s with heap := h1, toks := t1 } := by
  have hfree : ∀ y ∈ scope.names, y.2 = .free → ∃ c, X.env.cells.lookup y.1 = some c := fun y hy e => I.ok.has y.1 (.inl (S.free y hy e))
  have cl1 : ∀ y c, (clOf scope X.env).lookup y = some c → X.env.cells.lookup y = some c := fun y c e => by
    rcases clOf_mem (cs := []) hfree (PySem.mem_of_lookup e) with q | q
    · exact absurd q (by simp)
    · exact q
  have has0 : ∀ y, y ≠ y0 → ((relabel scope X.env).names.lookup y = some .cell ∨ (relabel scope X.env).names.lookup y = some .free) → ∃ c, (clOf scope X.env).lookup y = some c := fun y hne hy => by
    have q : (y, NameKind.free) ∈ scope.names := by
      have m : ∃ k, (k = NameKind.cell ∨ k = NameKind.free) ∧ (y, k) ∈ (relabel scope X.env).names := by
        rcases hy with hy | hy
        · exact ⟨_, .inl rfl, PySem.mem_of_lookup hy⟩
        · exact ⟨_, .inr rfl, PySem.mem_of_lookup hy⟩
      obtain ⟨k, hk, m⟩ := m
      obtain ⟨⟨n, k0⟩, hm, e⟩ := List.mem_map.mp m
      dsimp only at e
      by_cases hq : (k0 == NameKind.free && X.env.scope.kind == .function && X.env.kindOf n == some .cell) = true
      · rw [if_pos hq] at e
        simp only [Bool.and_eq_true, beq_iff_eq] at hq
        injection e with e1 e2
        rw [← e1, ← hq.1.1]
        exact hm
      · rw [if_neg hq] at e
        injection e with e1 e2
        subst e1 e2
        rcases hk with hk | hk
        · exact absurd (S.only _ hm hk) hne
        · rw [← hk]; exact hm
    obtain ⟨c, mc⟩ := clOf_has (env := X.env) (cs := []) q
    exact lookup_has mc
  have lk : ∀ {y c}, List.lookup y ((y0, s.heap.objs.size + 1) :: clOf scope X.env) = some c → (y = y0 ∧ c = s.heap.objs.size + 1) ∨ (y ≠ y0 ∧ (clOf scope X.env).lookup y = some c) := fun {y c} e => by
    rw [List.lookup_cons] at e
    cases hy : y == y0 with
    | true => rw [hy] at e; exact .inl ⟨by simpa using hy, (Option.some.inj e).symm⟩
    | false => rw [hy] at e; exact .inr ⟨by simpa using hy, e⟩
  have lk1 : ∀ {y}, y ≠ y0 → List.lookup y ((y0, s.heap.objs.size + 1) :: clOf scope X.env) = (clOf scope X.env).lookup y := fun {y} hne => by
    rw [List.lookup_cons]
    have : (y == y0) = false := by simpa using hne
    rw [this]
  have has : ∀ y, ((relabel scope X.env).names.lookup y = some .cell ∨ (relabel scope X.env).names.lookup y = some .free) → ∃ c, List.lookup y ((y0, s.heap.objs.size + 1) :: clOf scope X.env) = some c := fun y hy => by
    by_cases hne : y = y0
    · subst hne; exact ⟨s.heap.objs.size + 1, by rw [List.lookup_cons]; simp⟩
    · rw [lk1 hne]; exact has0 y hne hy
  have ltC : ∀ y c, X.env.cells.lookup y = some c → c < s.heap.objs.size := fun y c e => by
    obtain ⟨v, q⟩ := I.cell y c e
    exact q.lt
  refine ⟨⟨I.ok.mod, S.kind, I.ok.glob, I.ok.blt, Nat.le_refl _, fun x y c e1 e2 => (by
        rcases lk e1 with ⟨a1, b1⟩ | ⟨a1, b1⟩ <;> rcases lk e2 with ⟨a2, b2⟩ | ⟨a2, b2⟩
        · rw [a1, a2]
        · exact absurd (ltC _ _ (cl1 _ _ b2)) (by rw [b1]; exact Nat.not_lt.mpr (Nat.le_succ _))
        · exact absurd (ltC _ _ (cl1 _ _ b1)) (by rw [b2]; exact Nat.not_lt.mpr (Nat.le_succ _))
        · exact I.ok.inj x y c (cl1 x c b1) (cl1 y c b2)), has, fun x c e z => (by
        rcases lk z with ⟨a1, b1⟩ | ⟨a1, b1⟩
        · rw [b1]; exact Nat.le_succ _
        · have e : (x == y0) = true := e
          exact absurd (by simpa using e) a1), fun _ => I.ok.hd hc, I.ok.frames, .inl rfl,
      fun b hb => ⟨Nat.ne_of_lt (hlt b hb), fun x c e => (by
        rcases lk e with ⟨a1, b1⟩ | ⟨a1, b1⟩
        · rw [b1]; exact Nat.ne_of_gt (Nat.lt_succ_of_lt (hlt b hb))
        · exact (hf b hb).2.2.2.2.1 x c (cl1 x c b1))⟩, I.bs, Nat.le_trans I.ok.bsz I.sz, fun b o e hb => ?_, fun b hb z => ?_, I.stack, I.stkFree⟩,
    rfl, I.bare, Un.kept old, ⟨m, hns, fun i x v e1 e2 e3 => ?_⟩, fun x c e => ?_, I.fresh, fun x c e => (by
        rcases lk e with ⟨a1, b1⟩ | ⟨a1, b1⟩
        · rw [b1]; exact I.hok.fresh (Nat.le_succ _)
        · exact I.freeC x c (cl1 x c b1)), fun p hp => absurd hp (by simp [cxComp1]), I.hok.kept old, ?_⟩
  · rcases (hf b hb).2.2.2.1 with z | z
    · exact I.ok.noex b o e z
    · exact absurd (Nat.lt_of_lt_of_le (Heap.lt_size e) (Nat.le_trans I.ok.bsz z)) (Nat.lt_irrefl _)
  · rcases List.mem_cons.mp (I.stkSub b z) with q | q
    · exact (hf b hb).2.1 q
    · exact (hf b hb).2.2.1 q
  · -- a name of the block at its entry: one from around
    have e2 : (frSt fr σ)[i]? = some (some v) := e2
    unfold frSt at e2
    rw [List.getElem?_map] at e2
    cases q : fr[i]? with
    | none => rw [q] at e2; cases e2
    | some o =>
      rw [q] at e2
      cases o with
      | none => cases e2
      | some j =>
        have e2 : (σ[j]?).join = some v := Option.some.inj e2
        have e4 : σ[j]? = some (some v) := by
          cases r : σ[j]? with
          | none => rw [r] at e2; cases e2
          | some w => rw [r] at e2; exact congrArg some e2
        obtain ⟨f1, f2, f3⟩ := frOk_at S.fr e1 q
        obtain ⟨m0, _, hl⟩ := I.loc
        obtain ⟨u, r, l⟩ := hl j x v f1 e4 (.inr (.inl f3))
        refine ⟨u, r, .inr ⟨.inl (lookup_relabel_cell I.ok.kind f2 f3), ?_⟩⟩
        have hxy : x ≠ y0 := fun z => by rw [z, S.isc] at f2; cases f2
        obtain ⟨c, hc⟩ := has0 x hxy (.inl (lookup_relabel_cell I.ok.kind f2 f3))
        rcases l with ⟨k, _⟩ | ⟨_, c', hc', ho⟩
        · have k : X.env.scope.names.lookup x = some .local := k
          rw [f3] at k; cases k
        · have e : c = c' := Option.some.inj ((cl1 x c hc).symm.trans hc')
          subst e
          obtain ⟨o, ho, hd⟩ := ho
          exact ⟨c, (lk1 hxy).trans hc, o, old c o ho, hd⟩
  · rcases lk e with ⟨a1, b1⟩ | ⟨a1, b1⟩
    · rw [b1]; exact ⟨none, hcell⟩
    · obtain ⟨v, o, ho, hd⟩ := I.cell x c (cl1 x c b1)
      exact ⟨v, o, old c o ho, hd⟩
  · show (frSt fr σ).length = N'.length
    unfold frSt
    rw [List.length_map]
    exact frOk_len S.fr
end
theorem comp_run1 {X : Cx} {elt tg iter : Expr} {ifs : List Expr} {scope : Scope} {pos cpos : Pos} {wi : TI} {g : TG} {tt : TT} {te : TE} {N' : List Str} {fr : List (Option Nat)} {y0 : Str} (S : CompSc1 X.env.scope scope X.N N' fr y0) (hc : X.calm = true) (hi : PI X tg iter wi)
    (hg : ∀ C s0 H0 fp, PG (cxComp1 X scope C N' s0 H0 fp y0) tg g) (ht : ∀ C s0 H0 fp, PTs (cxComp1 X scope C N' s0 H0 fp y0) ifs tt) (he : ∀ C s0 H0 fp, PE (cxComp1 X scope C N' s0 H0 fp y0) elt te)
    (hs : ∀ x, foldedSetIterable iter X.env x = pure x) {pins : List (Addr × Obj)} {s : Shared} {σ : St} {H : Hp} {Q : VK} (I : Inv X pins σ H s) (h : tComp fr wi g tt te σ H Q) (use : Option (Value → Sem Unit)) (QQ : Value → Shared → Prop)
    (fin : ∀ (D C : Addr) (H5 : Hp) (s6 : Shared), Inv X pins σ H5 s6 → Q (.ref D) H5 → H5 C = none → C ≠ X.env.locals → X.s₀.heap.objs.size ≤ C → (∀ x c, X.env.cells.lookup x = some c → c ≠ C) → (∀ p ∈ X.pn ++ pins, p.1 ≠ C) → (∃ m, s6.heap.Ns C m) →
      compPost (model X.prog X.w) X.A X.xe use QQ (.ref D) C (.ok .next) s6) :
    wpAny (model X.prog X.w) X.A (comprehension (.ListComp elt [⟨tg, iter, ifs, 0⟩] scope pos) scope X.env cpos (newList []) false (eval iter X.env) use) QQ X.xe s := by
  have hfree : ∀ y ∈ scope.names, y.2 = .free → ∃ c, X.env.cells.lookup y.1 = some c := fun y hy e => I.ok.has y.1 (.inl (S.free y hy e))
  refine wpAny_comprehension_free (use := use) rfl hs (clos_of hfree) S.kind S.names (thn (hi pins s σ H _ I h) fun v s1 h1 => thn h1 fun itv s2 h2 => ?_)
  obtain ⟨it, fp, tn, J, H2, e, I2, T, st2, f2, hD⟩ := h2
  subst e
  obtain ⟨W, ⟨m0, w0⟩, turn⟩ := hD s2.heap.objs.size I2.fresh
  -- the new list
  refine wpAny_newObj_type ?_
  have I3 : Inv X pins σ (upd H2 s2.heap.objs.size (.lst [])) { s2 with heap := s2.heap.push { cls := .type "list", data := .seq ([] : List Value).toArray }, toks := s2.toks } := I2.lnew (ys := []) .nil (Nat.zero_le _)
  revert I3
  generalize eD : s2.heap.objs.size = D at *
  generalize e3 : ({ s2 with heap := s2.heap.push { cls := .type "list", data := .seq ([] : List Value).toArray }, toks := s2.toks } : Shared) = s3
  intro I3
  have k3 : ∀ b o, s2.heap.get? b = some o → s3.heap.get? b = some o := fun b o e => by rw [← e3]; exact Heap.get?_push_of_some _ e
  refine newEnv1 S.cf S.pc (fun h4 eh4 hns hcl4 old => ?_)
  have fD : ∀ b ∈ fp, b ≠ D := fun b hb z => by
    obtain ⟨o, ho, _⟩ := T.obj _ _ st2 b hb
    exact absurd (Heap.lt_size ho) (by rw [z, eD]; exact Nat.lt_irrefl _)
  have f3 : ∀ b ∈ fp, FpOk X pins (upd H2 D (.lst [])) b := fun b hb => ⟨by rw [upd_ne (fD b hb)]; exact (f2 b hb).1, (f2 b hb).2⟩
  have l3 : ∀ b ∈ fp, b < s3.heap.objs.size := fun b hb => by
    obtain ⟨o, ho, _⟩ := T.obj _ _ st2 b hb
    exact Heap.lt_size (k3 b o ho)
  have I4 := Inv.block1 (t1 := s3.toks) (scope := scope) S hc I3 f3 l3 hns old hcl4
  generalize eX : cxComp1 X scope s3.heap.objs.size N' s3 (upd H2 D (.lst [])) fp y0 = X' at I4
  have st4 : tn 0 h4 := T.keep _ _ _ st2 fun b hb o e => old b o (k3 b o e)
  have stat : ∀ {H' : Hp}, (∀ b ∈ fp, H' b = none) → ∀ b ∈ fp, FpOk X' [] H' b := fun {H'} hn b hb => by
    subst eX
    refine ⟨hn b hb, Nat.ne_of_lt (l3 b hb), ?_, .inl hb, ?_, fun p hp => absurd hp (by simp [cxComp1])⟩
    · exact I4.ok.exfs b hb
    · exact (I4.ok.exf b hb).2
  show codeAny _ _ (.compStart _ 0 (.ref it) (.ref D) (compEnvC scope ((y0, s3.heap.objs.size + 1) :: clOf scope X.env) s3.heap.objs.size X.env)) (compPost _ _ _ use _ (.ref D) s3.heap.objs.size) _
  have hX : X'.prog = X.prog ∧ X'.w = X.w ∧ X'.K = X.K ∧ X'.A = X.A ∧ X'.calm = true ∧ X'.env = compEnvC scope ((y0, s3.heap.objs.size + 1) :: clOf scope X.env) s3.heap.objs.size X.env ∧ X'.xe = (fun _ _ => False) ∧ X'.s₀ = s3 ∧ X'.H₀ = upd H2 D (.lst []) ∧ X'.fs = frs X.stack ∧ X'.ex = fp := by
    subst eX
    exact ⟨rfl, rfl, rfl, rfl, rfl, rfl, rfl, rfl, rfl, rfl, rfl⟩
  have hg' : PG X' tg g := by subst eX; exact hg _ _ _ _
  have ht' : PTs X' ifs tt := by subst eX; exact ht _ _ _ _
  have he' : PE X' elt te := by subst eX; exact he _ _ _ _
  clear eX
  obtain ⟨x1, x2, x3, x4, x5, x6, x7, x8, x9, x10, x11⟩ := hX
  have loop : codeAny (model X.prog X.w) X.A (.compLoop (.ListComp elt [⟨tg, iter, ifs, 0⟩] scope pos) 0 (.ref it) (.ref D) (compEnvC scope ((y0, s3.heap.objs.size + 1) :: clOf scope X.env) s3.heap.objs.size X.env))
      (compPost (model X.prog X.w) X.A X.xe use QQ (.ref D) s3.heap.objs.size) { s3 with heap := h4, toks := s3.toks } := by
    refine compLoop_any (fun n s' => ∃ i σ' ys H', Inv X' [] σ' H' s' ∧ tn i s'.heap ∧ (∀ b ∈ fp, H' b = none) ∧ W i n σ' ys H') ?_ m0 ⟨0, _, [], _, I4, st4, fun b hb => (f3 b hb).1, w0⟩
    rintro n s5 ⟨i, σ5, ys, H5, I5, st5, fr5, w5⟩
    rcases turn i n σ5 ys H5 w5 with ⟨stop, qn⟩ | ⟨go, N, hN, step⟩
    · have z := T.done X' x1 x2 x3 x5 i [] s5 σ5 H5 (fun _ _ => False) I5 (stat fr5) st5 stop
      rw [x4] at z
      refine thn z fun r s6 ⟨hr, I6⟩ => ?_
      subst hr
      -- the end
      obtain ⟨mm, hn6, _⟩ := I6.loc
      have hL : X'.env.locals = s3.heap.objs.size := by rw [x6]; rfl
      rw [hL] at hn6
      have nC : H5 s3.heap.objs.size = none := by have := I6.free; rw [hL] at this; exact this
      have base := I6.base
      rw [x8, x9, x10, x11] at base
      have hok : HOk X.prog X.w H5 s6.heap := by have q := I6.hok; rw [x1, x2] at q; exact q
      have os : s6.os = s3.os := by have := I6.os; rw [x8] at this; exact this
      have IX : Inv X pins σ H5 s6 := I3.call' os base hok I6.bare fun b hb => ⟨(f3 b hb).2.2.2.1, (f3 b hb).2.1, (f3 b hb).2.2.2.2.1, (f3 b hb).2.2.2.2.2⟩
      refine fin D s3.heap.objs.size H5 s6 IX qn nC (Nat.ne_of_gt I3.lt) I3.sz (fun x c e => ?_) (fun p hp => ?_) ⟨mm, hn6⟩
      · obtain ⟨v, q⟩ := I3.cell x c e
        exact Nat.ne_of_lt q.lt
      · exact Nat.ne_of_lt (Heap.lt_size (I3.pin p hp).1)
    · have z := T.item X' x1 x2 x3 x5 i [] s5 σ5 H5 (fun _ _ => False) I5 (stat fr5) st5 go
      rw [x4] at z
      refine thn z fun r s6 ⟨u, hr, h6⟩ => ?_
      subst hr
      refine thn h6 fun _ s7 ⟨x, H7, I7, r7, y7, st7, fr7⟩ => ?_
      have I7' := I7.pinned (stat fr7) (T.obj _ _ st7)
      have again : ∀ {σ' : St} {H' : Hp} {s' : Shared}, Inv X' ([] ++ pinsAt fp s7.heap) σ' H' s' → Inv X' [] σ' H' s' ∧ tn (i + 1) s'.heap ∧ ∀ b ∈ fp, H' b = none := fun {σ' H' s'} J => by
        refine ⟨J.unpinned, T.keep _ _ _ st7 fun b hb o e => (J.pin (b, o) (List.mem_append_right _ (List.mem_append_right _ (mem_pinsAt hb e)))).1, fun b hb => ?_⟩
        obtain ⟨o, e, d⟩ := T.obj _ _ st7 b hb
        exact (J.pin (b, o) (List.mem_append_right _ (List.mem_append_right _ (mem_pinsAt hb e)))).2.1
      have z := hg' _ s7 σ5 H7 x u _ I7' r7 (step x H7 y7)
      rw [x1, x2, x4, x6, x7] at z
      refine thn z fun _ s8 ⟨σ8, H8, I8, q8⟩ => ?_
      have z := ht' _ s8 σ8 H8 _ I8 q8
      rw [x1, x2, x4, x6, x7] at z
      refine thn z fun b s9 ⟨H9, I9, q9⟩ => ?_
      cases b with
      | false =>
        rw [if_neg Bool.false_ne_true] at q9 ⊢
        obtain ⟨m', hm, w9⟩ := hN _ _ _ q9
        obtain ⟨a1, a2, a3⟩ := again I9
        exact ⟨m', hm, i + 1, σ8, ys, H9, a1, a2, a3, w9⟩
      | true =>
        rw [if_pos rfl] at q9 ⊢
        have z := he' _ s9 σ8 H9 _ I9 q9
        rw [x1, x2, x4, x6, x7] at z
        refine thn z fun v' s10 ⟨y, H10, I10, r10, hD10, hz, w10⟩ => ?_
        have z := mt_append (X := X') _ s10 σ8 H10 (.ref D) [y] (.ref D) [v'] (fun _ H' => N σ8 (ys ++ [y]) H') I10 rfl (.cons r10 .nil) ⟨D, ys, y, rfl, rfl, hD10, hz, w10⟩
        rw [x1, x2, x4, x7] at z
        refine thn z fun _ s11 ⟨_, H11, I11, _, w11⟩ => ?_
        obtain ⟨m', hm, w11⟩ := hN _ _ _ w11
        obtain ⟨a1, a2, a3⟩ := again I11
        exact ⟨m', hm, i + 1, σ8, _, H11, a1, a2, a3, w11⟩
  exact codeAny_compStart_list loop (T.self _ 0 _ _ _ st4 loop)
theorem pe_comp1 {X : Cx} {elt tg iter : Expr} {ifs : List Expr} {scope : Scope} {pos : Pos} {wi : TI} {g : TG} {tt : TT} {te : TE} {N' : List Str} {fr : List (Option Nat)} {y0 : Str} (S : CompSc1 X.env.scope scope X.N N' fr y0) (hc : X.calm = true) (hi : PI X tg iter wi)
    (hg : ∀ C s0 H0 fp, PG (cxComp1 X scope C N' s0 H0 fp y0) tg g) (ht : ∀ C s0 H0 fp, PTs (cxComp1 X scope C N' s0 H0 fp y0) ifs tt) (he : ∀ C s0 H0 fp, PE (cxComp1 X scope C N' s0 H0 fp y0) elt te)
    (hs : ∀ x, foldedSetIterable iter X.env x = pure x := by intro _; rfl) : PE X (.ListComp elt [⟨tg, iter, ifs, 0⟩] scope pos) (tComp fr wi g tt te) := by
  intro pins s σ H Q I h
  rw [eval_ListComp]
  refine comp_run1 S hc hi hg ht he hs I h none _ fun D C H5 s6 IX q nC c1 c2 c3 c4 hm => ?_
  obtain ⟨m, hm⟩ := hm
  refine ⟨m, hm, fun h' hs' => ⟨.ref D, H5, IX.turned (t' := s6.toks) (it := C) (fun b o hb e => hs'.extBut b o hb e) nC c1 (.inr c2) c3 c4, rfl, q⟩⟩
end L2


set_option Elab.async false
set_option linter.all false
set_option maxRecDepth 100000
set_option maxHeartbeats 4000000
namespace My
open PySem L2
def relS (cs s : Scope) : Scope := { cs with names := cs.names.map fun (n, k) => if (k == NameKind.free && s.kind == .function && s.names.lookup n == some .cell) then (n, NameKind.cell) else (n, k) }
def rTupOf (K : PySem.W.Frag) : List V → Hp → VK → Prop := fun xs H Q => ∃ p ys, xs = [.ref p] ∧ ((SqL K H p ys ∧ ∀ l, H l = none → Q (.ref l) (upd H l (.tup ys))) ∨ (SqT K H p ys ∧ Q (.ref p) H))
def L2x (ks : List Nat) : List (Key × V) := nD ks
/-! ### the greatest claims -/
noncomputable def needB (ds : List FR) (b : Int) (r : Nat) : Bool := @decide (NeedsR ds b r) (Classical.propDecidable _)
theorem needB_iff {ds : List FR} {b : Int} {r : Nat} : needB ds b r = true ↔ NeedsR ds b r := by
  unfold needB
  exact @decide_eq_true_iff _ (Classical.propDecidable _)
noncomputable def freeRow (ds : List FR) (r : Nat) : List Int := ([0, 1, 2, 3, 4, 5, 6, 7] : List Int).filter fun b => !needB ds b r
noncomputable def freeCl (ds : List FR) : List (List Int) := (List.range ds.length).map (freeRow ds)
theorem free_len (ds : List FR) : (freeCl ds).length = ds.length := by unfold freeCl; rw [List.length_map, List.length_range]
theorem free_at {ds : List FR} {r : Nat} (h : r < ds.length) : (freeCl ds)[r]? = some (freeRow ds r) := by
  unfold freeCl
  rw [List.getElem?_map, List.getElem?_range h]
  rfl
theorem free_mem {ds : List FR} {r : Nat} {b : Int} : b ∈ freeRow ds r ↔ (0 ≤ b ∧ b ≤ 7) ∧ ¬ NeedsR ds b r := by
  unfold freeRow
  rw [List.mem_filter]
  refine and_congr ?_ ?_
  · constructor
    · intro h
      simp at h
      omega
    · intro h
      have : b = 0 ∨ b = 1 ∨ b = 2 ∨ b = 3 ∨ b = 4 ∨ b = 5 ∨ b = 6 ∨ b = 7 := by omega
      simp
      exact this
  · rw [Bool.not_eq_true', ← needB_iff, Bool.not_eq_true]
theorem free_good (ds : List FR) (r : Nat) : (∀ b ∈ freeRow ds r, 0 ≤ b ∧ b ≤ 7) ∧ (freeRow ds r).Pairwise (· ≤ ·) ∧ (freeRow ds r).Nodup ∧ (freeRow ds r).length ≤ 8 :=
  ⟨fun b hb => (free_mem.mp hb).1, (show ([0, 1, 2, 3, 4, 5, 6, 7] : List Int).Pairwise (· ≤ ·) by decide).sublist List.filter_sublist, (show ([0, 1, 2, 3, 4, 5, 6, 7] : List Int).Nodup by decide).sublist List.filter_sublist, List.length_filter_le _ _⟩
/-- all of them are right -/
theorem free_right {ds : List FR} (hP : ProgF ds) : firstBad ds (freeCl ds) = none := bad_none fun r hr => by
  unfold badR
  have hd : ds[r]? = some ds[r] := List.getElem?_eq_getElem hr
  rw [hd, free_at hr]
  show ((freeRow ds r).any fun b => !rightD ds[r] (freeCl ds) r b) = false
  generalize ds[r] = d at hd
  rw [Bool.eq_false_iff]
  intro z
  obtain ⟨b, hb, hz⟩ := List.any_eq_true.mp z
  obtain ⟨hb7, hn⟩ := free_mem.mp hb
  have h1 : needF d b = false := Bool.eq_false_iff.mpr fun y => hn (.now hd y)
  have : rightD d (freeCl ds) r b = true := by
    unfold rightD
    rw [h1, Bool.not_false, Bool.true_and, Bool.or_eq_true]
    cases hw : wrF d b with
    | true => exact .inl rfl
    | false =>
      refine .inr (List.all_eq_true.mpr fun s hs => ?_)
      obtain ⟨s0, s1⟩ := (hP r d hd).2 s hs
      obtain ⟨sn, rfl⟩ := Int.eq_ofNat_of_zero_le s0
      unfold inCl
      rw [Int.toNat_natCast, free_at (by omega)]
      exact decide_eq_true (free_mem.mpr ⟨hb7, fun y => hn (.later hd hw hs y)⟩)
  rw [this] at hz
  cases hz
section
variable {P : Program} {w : World} {K : PySem.W.Frag} {mg : Str → Option Value} {base : Heap}
def spFBox : Sp := fun vs H Q _ => ∃ (lr : Addr) (ds : List FR), vs = [.ref lr] ∧ RowsF H lr ds ∧ ProgF ds ∧ ds.length ≤ 3000 ∧ ∀ (l : Addr) (H' : Hp), Same H H' → H l = none → ClaimsF H' l (freeCl ds) → Q (.ref l) H'
theorem scFB : FnScope ["rows", "ahead", "needing"] ["rows"] (defScope sFBox) := ⟨rfl, rfl, rfl, by decide +kernel, rfl, by decide +kernel, by decide +kernel⟩
def csFBC1 : Scope := { kind := .function, names := [(".0", .local), ("box", .local), ("rows_that_need", .globalImplicit), ("ahead", .free), ("rows", .free)], isGenerator := false, isCoroutine := false, more := [] }
theorem scFBC1 : CompSc (defScope sFBox) csFBC1 ["rows", "ahead", "needing"] ["box", "rows", "ahead"] [none, some 0, some 1] := ⟨rfl, by decide +kernel, by decide +kernel, by decide +kernel, by decide +kernel, by decide +kernel⟩
def csFBC2 : Scope := { kind := .function, names := [(".0", .local), ("r", .cell), ("tuple", .globalImplicit), ("ALL_BOXES", .globalImplicit), ("needing", .free)], isGenerator := false, isCoroutine := false, more := [] }
theorem scFBC2 : CompSc1 (defScope sFBox) csFBC2 ["rows", "ahead", "needing"] ["r", "needing"] [none, some 2] "r" := ⟨rfl, fun _ _ => rfl, fun _ => rfl, by decide +kernel, by decide +kernel, by decide +kernel, by decide +kernel, by decide +kernel, by decide +kernel⟩
def csFBC3 : Scope := { kind := .function, names := [(".0", .local), ("box", .local), ("needing", .free), ("r", .free)], isGenerator := false, isCoroutine := false, more := [] }
theorem scFBC3 : CompSc (relS csFBC2 (defScope sFBox)) csFBC3 ["r", "needing"] ["box", "r", "needing"] [none, some 0, some 1] := ⟨rfl, by decide +kernel, by decide +kernel, by decide +kernel, by decide +kernel, by decide +kernel⟩
theorem ok_fbox {f fA fN : Addr} {fd fdA fdN : FuncData} (F : Fun K "free_boxes" "free_boxes" sFBox f fd) (T : Txt K w.params mg) (GA : FnOk P w K mg base CX0 4 fA fdA ["rows"] spRAhead) (kA : PySem.W.keepIn K (.ref fA) = true) (bA : Binds K fdA ["rows"] []) (mA : mg "rows_ahead_of" = some (.ref fA)) (GN : FnOk P w K mg base CX0 3 fN fdN ["rows", "ahead", "box"] spRNeed) (kN : PySem.W.keepIn K (.ref fN) = true) (bN : Binds K fdN ["rows", "ahead", "box"] []) (mN : mg "rows_that_need" = some (.ref fN)) : FnOk P w K mg base CX0 5 f fd ["rows"] spFBox := by
  refine F.ok scFB (fun vs H Q E h => ?_) (fun cdv A outer s H vs Q E hr h => ?_)
  · obtain ⟨lr, ds, rfl, _⟩ := h
    rfl
  · obtain ⟨lr, ds, rfl, hR, hP, hn, k⟩ := h
    have hrN : Room 3 (A.deeper (PyProof.Rows.envOfC "free_boxes" (defScope sFBox) s.heap.objs.size f cdv)) := hr.mono (by decide)
    have hu : (A.deeper (PyProof.Rows.envOfC "free_boxes" (defScope sFBox) s.heap.objs.size f cdv)).units + 1 < cLine := Nat.lt_of_le_of_lt (Nat.add_le_add_left (by decide : 1 ≤ 64) _) hr.units
    obtain ⟨p8, hp8, hq8⟩ := T.allb
    refine wrapX (pssx_cons (psx_of (ps_set (i := 1) scFB.nd rfl (Or.inr rfl) (pe_call GA hr (by rfl) mA kA bA .nil pass0 (pa_cons (pv 0) pa_nil))))
      (pssx_cons (psx_of (ps_set (i := 2) scFB.nd rfl (Or.inr rfl) (pe_comp (N' := ["box", "rows", "ahead"]) (fr := [none, some 0, some 1]) scFBC1 rfl (pi_tup (pe_glob (v := .ref p8) (by rfl) hp8 rfl)) (fun C s0 H0 fp => (pg_name (i := 0) scFBC1.nd rfl (Or.inl rfl))) (fun C s0 H0 fp => pts_nil) (fun C s0 H0 fp => (pe_call GN hrN (by rfl) mN kN bN .nil pass0 (pa_cons (pv 1) (pa_cons (pv 2) (pa_cons (pv 0) pa_nil))))))))
      (pssx_one (psx_of (ps_ret (pe_comp1 (y0 := "r") (N' := ["r", "needing"]) (fr := [none, some 2]) scFBC2 rfl (pi_range1 rfl T.range (pa_cons (pe_callB call_len_seq (by rfl) T.len bt_len (pa_cons (pv 0) pa_nil)) pa_nil)) (fun C s0 H0 fp => (pg_name (i := 0) scFBC2.nd rfl (Or.inr rfl))) (fun C s0 H0 fp => pts_nil) (fun C s0 H0 fp => (pe_callTy (r := rTupOf K) call_tuple_of (by rfl) T.tuple bt_tuple (pa_cons (pe_comp (wi := iTup K (tC (V.ref p8))) (N' := ["box", "r", "needing"]) (fr := [none, some 0, some 1]) scFBC3 rfl (pi_tup (pe_glob (v := .ref p8) (by rfl) hp8 rfl)) (fun C s0 H0 fp => (pg_name (i := 0) scFBC3.nd rfl (Or.inl rfl))) (fun C s0 H0 fp => (pts_one (pt_cmp (pc_dnotin hu (pv 1) (pe_ix (r := rIxL K) ix_list (pv 2) (pv 0) (fun _ _ => rfl)))))) (fun C s0 H0 fp => (pv 0))) pa_nil))))))))) ?_
    refine ⟨_, rfl, lr, ds, rfl, hR, hP, hn, fun la as G1 s1 hA => ?_⟩
    have hi8 : ∀ (i : Nat) x, (([0, 1, 2, 3, 4, 5, 6, 7] : List Int).map V.int)[i]? = some x → x = .int (i : Int) ∧ i < 8 := fun i x h => by
      match i, h with
      | 0, h => cases h; exact ⟨rfl, by decide⟩
      | 1, h => cases h; exact ⟨rfl, by decide⟩
      | 2, h => cases h; exact ⟨rfl, by decide⟩
      | 3, h => cases h; exact ⟨rfl, by decide⟩
      | 4, h => cases h; exact ⟨rfl, by decide⟩
      | 5, h => cases h; exact ⟨rfl, by decide⟩
      | 6, h => cases h; exact ⟨rfl, by decide⟩
      | 7, h => cases h; exact ⟨rfl, by decide⟩
    have hlr1 := hR.same s1
    -- for each box the rows that need it
    refine ⟨p8, rfl, ⟨_, hq8 _⟩, fun D nD => comp_tup (K := K) (a := p8) (xs := ([0, 1, 2, 3, 4, 5, 6, 7] : List Int).map V.int) (fun i σ ys G => ∃ (v : Option V) (es : List Addr), σ = [v, some (.ref lr), some (.ref la)] ∧ ys = es.map V.ref ∧ es.length = i ∧ (∀ (j : Nat) a, es[j]? = some a → ∃ ks, G a = some (.dK (L2x ks)) ∧ ∀ r, r ∈ ks ↔ NeedsR ds (j : Int) r) ∧ Same G1 G ∧ G D = some (.lst ys)) ?_ ?_ ?_ ?_⟩
    · exact ⟨none, [], rfl, rfl, rfl, fun j a h => by simp at h, same_new nD, upd_same⟩
    · rintro i σ ys G _ ⟨v, es, rfl, rfl, _, _, s2, _⟩
      exact hq8 _
    · rintro i x σ ys G hx ⟨v, es, rfl, rfl, hl, hes, s2, hD⟩
      obtain ⟨rfl, hi⟩ := hi8 i x hx
      refine ⟨_, rfl, _, rfl, _, rfl, lr, la, as, (i : Int), ds, rfl, hlr1.same s2, hA.same s2, hn, fun pd ks G2 s3 np hp hks => ⟨s3 _ _ hD, small_lt (by rw [List.length_map]; omega), _, es ++ [pd], rfl, by simp, by simp [hl], fun j a h => ?_, same_put (s2.trans s3) nD, upd_same⟩⟩
      by_cases hj : j < es.length
      · rw [List.getElem?_append_left hj] at h
        obtain ⟨ks', y1, y2⟩ := hes j a h
        exact ⟨ks', by rw [upd_ne (fun z => by rw [z, hD] at y1; cases y1)]; exact s3 _ _ y1, y2⟩
      · have h3 := (List.getElem?_eq_some_iff.mp h).1
        rw [List.length_append, List.length_singleton] at h3
        have ej : j = es.length := by omega
        subst ej
        rw [show (es ++ [pd])[es.length]? = some pd by simp] at h
        cases h
        rw [hl]
        exact ⟨ks, by rw [upd_ne (fun z => by rw [z, hD] at np; cases np)]; exact hp, hks⟩
    · rintro σ ys G ⟨v, es, rfl, rfl, hl, hes, s2, hD⟩
      have hl8 : es.length = 8 := hl
      obtain ⟨qs, r1, r2, r3⟩ := hlr1.same s2
      have s12 := s1.trans s2
      -- for each row the others
      refine ⟨_, rfl, lr, _, rfl, .inl (SqL.of r1), _, rfl, by rw [List.length_map]; omega, by rw [List.length_map]; omega, fun D2 nD2 => ?_⟩
      refine comp_range (n := (((qs.map V.ref).length : Nat) : Int).toNat) (fun i σ ys G2 => ∃ (v : Option V) (ts : List Addr), σ = [v, some (.ref D)] ∧ ys = ts.map V.ref ∧ ts.length = i ∧ (∀ (j : Nat) t, ts[j]? = some t → G2 t = some (.tup ((freeRow ds j).map V.int))) ∧ Same G G2 ∧ G2 D2 = some (.lst ys)) ?_ ?_ ?_
      · exact ⟨none, [], rfl, rfl, rfl, fun j a h => by simp at h, same_new nD2, upd_same⟩
      · rintro i σ ys G2 hi ⟨v, ts, rfl, rfl, hlt, hts, s3, hD2⟩
        have hin : i < ds.length := by
          rw [Int.toNat_natCast, List.length_map, r2] at hi
          exact hi
        have e0 : (0 : Int) + (i : Int) = (i : Int) := by omega
        rw [e0]
        refine ⟨p8, rfl, ⟨_, hq8 _⟩, fun D3 nD3 => comp_tup (K := K) (a := p8) (xs := ([0, 1, 2, 3, 4, 5, 6, 7] : List Int).map V.int) (fun j σ zs G3 => ∃ v : Option V, σ = [v, some (.int (i : Int)), some (.ref D)] ∧ zs = ((([0, 1, 2, 3, 4, 5, 6, 7] : List Int).take j).filter fun b => !needB ds b i).map V.int ∧ Same G2 G3 ∧ G3 D3 = some (.lst zs)) ?_ ?_ ?_ ?_⟩
        · exact ⟨none, rfl, rfl, same_new nD3, upd_same⟩
        · rintro j σ zs G3 _ ⟨v, rfl, rfl, _, _⟩
          exact hq8 _
        · rintro j x σ zs G3 hx ⟨v, rfl, rfl, s4, hD3⟩
          obtain ⟨rfl, hj⟩ := hi8 j x hx
          have hej : es[j]? = some (es[j]'(by omega)) := List.getElem?_eq_getElem _
          generalize es[j]'(by omega) = ej at hej
          obtain ⟨ks, y1, y2⟩ := hes j ej hej
          have y3 := s4 _ _ (s3 _ _ y1)
          have h8 : ([0, 1, 2, 3, 4, 5, 6, 7] : List Int)[j]? = some (j : Int) := by
            rw [List.getElem?_map] at hx
            obtain ⟨y, hy, e⟩ := Option.map_eq_some_iff.mp hx
            rw [hy]
            exact congrArg some (V.int.inj e)
          have tk : ([0, 1, 2, 3, 4, 5, 6, 7] : List Int).take (j + 1) = ([0, 1, 2, 3, 4, 5, 6, 7] : List Int).take j ++ [(j : Int)] := by rw [List.take_add_one, h8]; rfl
          refine ⟨_, rfl, _, rfl, _, rfl, D, _, _, .ref ej, rfl, rfl, SqL.of (s4 _ _ (s3 _ _ hD)), atI_nat (j := j) (by rw [List.getElem?_map, hej]; rfl), ej, _, rfl, DGet.k (k := Sum.inl (i : Int)) y3, _, rfl, ?_⟩
          have hb : (!(valV (L2x ks) (Sum.inl (i : Int))).isSome) = !needB ds (j : Int) i := by
            refine congrArg _ ?_
            unfold L2x
            rw [nD_val, Bool.eq_iff_iff, needB_iff, ← y2 i]
            by_cases z : i ∈ ks
            · rw [if_pos z]; exact ⟨fun _ => z, fun _ => rfl⟩
            · rw [if_neg z]; exact ⟨fun y => (by cases y), fun y => absurd y z⟩
          rw [hb]
          refine ite2 (fun e => ?_) (fun e => ?_)
          · refine ⟨_, rfl, hD3, small_lt ?_, _, rfl, ?_, same_put s4 nD3, upd_same⟩
            · rw [List.length_map]
              exact Nat.le_trans (List.length_filter_le _ _) (by rw [List.length_take]; simp; omega)
            · rw [tk, List.filter_append, List.map_append, List.filter_cons_of_pos (p := fun b => !needB ds b i) e]
              rfl
          · refine ⟨_, rfl, ?_, s4, hD3⟩
            rw [tk, List.filter_append, List.filter_cons_of_neg (p := fun b => !needB ds b i) e]
            simp
        · rintro σ zs G3 ⟨v, rfl, rfl, s4, hD3⟩
          have hD3 : G3 D3 = some (.lst ((freeRow ds i).map V.int)) := hD3
          have hD24 := s4 _ _ hD2
          refine ⟨D3, _, rfl, .inl ⟨SqL.of hD3, fun t nt => ⟨same_new nt _ _ hD24, small_lt (by rw [List.length_map]; omega), _, ts ++ [t], rfl, by simp, by simp [hlt], fun j a h => ?_, same_put (s3.trans (s4.trans (same_new nt))) nD2, upd_same⟩⟩⟩
          by_cases hj : j < ts.length
          · rw [List.getElem?_append_left hj] at h
            have y1 := hts j a h
            rw [upd_ne (fun z => by rw [z, hD2] at y1; cases y1)]
            exact same_new nt _ _ (s4 _ _ y1)
          · have h3 := (List.getElem?_eq_some_iff.mp h).1
            rw [List.length_append, List.length_singleton] at h3
            have ej : j = ts.length := by omega
            subst ej
            rw [show (ts ++ [t])[ts.length]? = some t by simp] at h
            cases h
            rw [upd_ne (fun z => by rw [z, hD24] at nt; cases nt), hlt]
            exact upd_same
      · rintro σ ys G2 ⟨v, ts, rfl, rfl, hlt, hts, s3, hD2⟩
        rw [Int.toNat_natCast, List.length_map, r2] at hlt
        refine k D2 G2 (s12.trans s3) (s12.free nD2) ⟨_, hD2, by rw [List.length_map, free_len]; exact hlt, fun i c ms h1 h2 => ?_⟩
        rw [List.getElem?_map] at h1
        obtain ⟨t, ht, rfl⟩ := Option.map_eq_some_iff.mp h1
        have hi := (List.getElem?_eq_some_iff.mp ht).1
        rw [free_at (by omega)] at h2
        cases h2
        obtain ⟨f1, f2, f3, f4⟩ := free_good ds i
        exact ⟨t, rfl, hts i t ht, f1, f2, f3, by omega⟩
end
end My


set_option Elab.async false
set_option linter.all false
set_option maxRecDepth 100000
set_option maxHeartbeats 4000000
namespace L2
open PySem PySem.Spec PyProof.Rows
/-! ### for x in reversed(xs) -/
/-- the list at a, n long, from its end -/
def Itv (K : PySem.W.Frag) (a : Addr) (n : Nat) : It :=
  ⟨fun i H => i < n ∧ ∃ xs, SqL K H a xs ∧ xs.length = n, fun i H x H' => H' = H ∧ ∀ xs, SqL K H a xs → xs[n - 1 - i]? = some x, fun i H => i = n⟩
theorem turn_rev {P : Program} {w : World} {K : PySem.W.Frag} {tg : Expr} (a it : Addr) (n : Nat) : Turn P w K tg (Itv K a n) [it] it (fun i h => h.IsRevIter it a ((n : Int) - 1 - (i : Int))) where
  mem := by simp
  obj := fun i h st b hb => by
    have e : b = it := by simpa using hb
    subst e
    obtain ⟨o, e, c, d⟩ := st
    exact ⟨o, e, fun v z => by rw [d] at z; cases z⟩
  keep := fun i h h' st k => st.at fun o e => k it (by simp) o e
  item := by
    intro X hP hw hK hc i pins s σ H E I hf st hg
    subst hP hw hK
    obtain ⟨hlt, xs, hq, hx⟩ := hg
    obtain ⟨its, rv, p, hz⟩ := I.list hq
    have hx' : xs[n - 1 - i]? = some (xs[n - 1 - i]'(by omega)) := List.getElem?_eq_getElem _
    obtain ⟨u, hu, ru⟩ := rv.get hx'
    obtain ⟨f0, f1, f2, f3, f4, f5⟩ := hf it (by simp)
    have e : (n : Int) - 1 - (i : Int) = ((n - 1 - i : Nat) : Int) := by omega
    rw [e] at st
    refine wpAny_pyNext_rev_item st p.isList (x := u) (by simpa using hu) fun h' st' sb => ?_
    have e2 : ((n - 1 - i : Nat) : Int) - 1 = (n : Int) - 1 - ((i + 1 : Nat) : Int) := by omega
    rw [e2] at st'
    have I1 : Inv X pins σ H { s with heap := h' } := I.turned (t' := s.toks) (fun b o hb e => (sb.2 b hb).trans e) f0 f1 f3 f4 f5
    obtain ⟨o, e, c, d⟩ := id st'
    exact ⟨u, rfl, go_of (s := { s with heap := h' }) e c d (by decide) ⟨_, H, I1, ru, ⟨rfl, fun ys hy => by rw [I.list_inj hy hq]; exact hx'⟩, st', fun b hb => (hf b hb).1⟩⟩
  done := by
    intro X hP hw hK hc i pins s σ H E I hf st hg
    subst hP hw hK
    have hg : i = n := hg
    subst hg
    obtain ⟨f0, f1, f2, f3, f4, f5⟩ := hf it (by simp)
    have e : (i : Int) - 1 - (i : Int) = -1 := by omega
    rw [e] at st
    exact wpAny_pyNext_rev_end (I.ok.hd hc) st fun h' eb => ⟨rfl, I.turned (t' := s.toks) (fun b o hb e => eb b o hb e) f0 f1 f3 f4 f5⟩
  self := fun _ _ _ _ _ st h => wpAny_pyIter_revIter st h
section
variable {X : Cx} {tg : Expr}
def iRev (K : PySem.W.Frag) (ta : TA) : TI := fun σ H R => ta σ H fun vs H1 => ∃ (a : Addr) (xs : List V), vs = [.ref a] ∧ SqL K H1 a xs ∧ R (Itv K a xs.length) H1
theorem pi_rev {a : Expr} {ta : TA} {p pos : Pos} (hg : Gl X "reversed") (hm : X.mg "reversed" = none) (ha : PA X [a] ta) (hs : starEach [a] X.env = [(false, eval a X.env)] := by rfl) : PI X tg (.Call (.Name "reversed" p) [a] [] pos) (iRev X.K ta) := by
  intro pins s σ H R I h
  refine Call_ (ld_blt I hg hm boot_reversed (PyProof.Rows.callWith_type1 (thn (ha pos pins s σ H _ I h) fun us s1 ⟨vs, H1, I1, r1, q1⟩ => ?_) hs rfl))
  obtain ⟨b, xs, e, hq, q⟩ := q1
  subst e
  obtain ⟨u, rfl, ru⟩ := vals1 r1
  cases ru
  obtain ⟨its, rv, p', hz⟩ := I1.list hq
  have hl := rv.length
  refine call_reversed_list p'.isList ?_
  have hit : (s1.heap.push (revObj b ((its.toArray.size : Int) - 1))).IsRevIter s1.heap.objs.size b ((its.toArray.size : Int) - 1) := ⟨_, Heap.get?_push_size _ rfl, rfl, rfl⟩
  refine wpAny_pyIter_revIter hit ?_
  have hsz : its.toArray.size = xs.length := by rw [List.size_toArray]; exact hl.symm
  refine ⟨s1.heap.objs.size, [s1.heap.objs.size], _, _, H1, rfl, I1.kept (t' := s1.toks) fun b o e => Heap.get?_push_of_some _ e, turn_rev b _ xs.length, ?_, fun b hb => ?_, q⟩
  · have e : (xs.length : Int) - 1 - ((0 : Nat) : Int) = (its.toArray.size : Int) - 1 := by rw [hsz]; omega
    show Heap.IsRevIter _ _ _ _
    rw [e]
    exact hit
  · have e : b = s1.heap.objs.size := by simpa using hb
    subst e
    exact I1.fpOk (Nat.le_refl _) (I1.hok.fresh (Nat.le_refl _))
end
theorem for_rev {K : PySem.W.Frag} {a : Addr} {xs : List V} {g : TG} {tb : TS} {D : Ends} {σ : St} {H : Hp} (Pv : Nat → St → Hp → Prop) (h0 : Pv 0 σ H) (hl : ∀ i σ H, i ≤ xs.length → Pv i σ H → SqL K H a xs)
    (hs : ∀ i x σ H, i < xs.length → xs[xs.length - 1 - i]? = some x → Pv i σ H → g x σ H fun σ2 H2 => tb { D with nx := Pv (i + 1), ct := Pv (i + 1), bk := D.nx } σ2 H2) (hd : ∀ σ H, Pv xs.length σ H → D.nx σ H) :
    ∃ W : Nat → Nat → St → Hp → Prop, (∃ m, W 0 m σ H) ∧ ∀ i m σ H, W i m σ H →
      ((Itv K a xs.length).stop i H ∧ D.nx σ H) ∨ ((Itv K a xs.length).go i H ∧ ∃ N : St → Hp → Prop, (∀ σ' H', N σ' H' → ∃ m', m' < m ∧ W (i + 1) m' σ' H') ∧ ∀ x H', (Itv K a xs.length).yld i H x H' → g x σ H' fun σ2 H2 => tb { D with nx := N, ct := N, bk := D.nx } σ2 H2) := by
  refine ⟨fun i m σ H => m = xs.length - i ∧ i ≤ xs.length ∧ Pv i σ H, ⟨xs.length, by simp, Nat.zero_le _, h0⟩, ?_⟩
  rintro i m σ H ⟨rfl, hi, p⟩
  have q := hl i σ H hi p
  by_cases hlt : i < xs.length
  · refine .inr ⟨⟨hlt, xs, q, rfl⟩, Pv (i + 1), fun σ' H' p' => ⟨xs.length - (i + 1), by omega, rfl, hlt, p'⟩, fun x H' y => ?_⟩
    obtain ⟨e, y⟩ := y
    subst e
    exact hs i x σ _ hlt (y xs q) p
  · have e : i = xs.length := by omega
    subst e
    exact .inl ⟨rfl, hd σ H p⟩
end L2


set_option Elab.async false
set_option linter.all false
set_option maxRecDepth 100000
set_option maxHeartbeats 4000000
namespace My
open PySem L2
theorem ints_da (K : PySem.W.Frag) (H : Hp) (ms : List Int) : ∀ (i : Nat) x d, (ms.map V.int)[i]? = some x → (ms.map Da.int)[i]? = some d → DaAt K H x d := fun i x d h1 h2 => by
  rw [List.getElem?_map] at h1 h2
  obtain ⟨j, hj, rfl⟩ := Option.map_eq_some_iff.mp h1
  rw [hj] at h2
  cases h2
  exact .int _
theorem ints_nb (ms : List Int) : (Da.lst (ms.map Da.int)).Nb 1 := .lst fun d hd => by
  obtain ⟨j, _, rfl⟩ := List.mem_map.mp hd
  exact .int
theorem row_snd {H : Hp} {q : Addr} {d : FR} (h : RowF H q d) (hu : d.u ∈ (["copy", "load", "add", "less", "keep"] : List Str)) : ∃ b c : Int, d.is = [b, c] ∧ H q = some (.tup [.str d.u, .int b, .int c]) := by
  obtain ⟨⟨_, _, _, _, _, h5, _⟩, h⟩ := h
  have hw := (by decide : ∀ u ∈ (["copy", "load", "add", "less", "keep"] : List Str), u ∈ w2 ∧ ¬ u = "table") _ hu
  obtain ⟨b, c, e⟩ := h5 hw.1
  rcases h with ⟨z, _⟩ | ⟨_, h⟩
  · exact absurd z hw.2
  · exact ⟨b, c, e, by rw [h, e]; rfl⟩
theorem row_fst {H : Hp} {q : Addr} {d : FR} (h : RowF H q d) (hu : d.u ∈ w1 ∨ d.u ∈ w2) : ∃ (b : Int) (r : List Int) (items : List V), d.is = b :: r ∧ H q = some (.tup (.str d.u :: .int b :: items)) := by
  obtain ⟨⟨_, h1, _, _, _, h5, h6⟩, h⟩ := h
  rcases h with ⟨z, b, p, e, h, _⟩ | ⟨_, h⟩
  · exact ⟨b, [], _, e, h⟩
  · rcases hu with z | z
    · obtain ⟨b, r, e⟩ := h6 z
      exact ⟨b, r, r.map V.int, e, by rw [h, e]; rfl⟩
    · obtain ⟨b, c, e⟩ := h5 z
      exact ⟨b, [c], [.int c], e, by rw [h, e]; rfl⟩
theorem row_tg1 {H : Hp} {q : Addr} {d : FR} (h : RowF H q d) (hu : d.u ∈ jcm) : ∃ (t : Int) (items : List V), d.ts = [t] ∧ H q = some (.tup (.str d.u :: .int t :: items)) := by
  obtain ⟨⟨_, _, h2, _⟩, h⟩ := h
  obtain ⟨t, f, e1, e2⟩ := h2 hu
  rcases h with ⟨z, _⟩ | ⟨_, h⟩
  · exact absurd z ((by decide : ∀ u ∈ jcm, ¬ u = "table") _ hu)
  · exact ⟨t, [.int f], e2, by rw [h, e1]; rfl⟩
theorem row_tg2 {H : Hp} {q : Addr} {d : FR} (h : RowF H q d) (hu : d.u ∈ zb) : ∃ (b t : Int) (items : List V), d.ts = [t] ∧ H q = some (.tup (.str d.u :: .int b :: .int t :: items)) := by
  obtain ⟨⟨_, _, _, h3, _⟩, h⟩ := h
  obtain ⟨b, t, f, e1, e2⟩ := h3 hu
  rcases h with ⟨z, _⟩ | ⟨_, h⟩
  · exact absurd z ((by decide : ∀ u ∈ zb, ¬ u = "table") _ hu)
  · exact ⟨b, t, [.int f], e2, by rw [h, e1]; rfl⟩
theorem needF_no {d : FR} {b : Int} (h : d.Ok) (h1 : ¬ d.u ∈ ends3) (h2 : d.u ∈ (["copy", "load", "add", "less", "keep"] : List Str) → ¬ d.is[1]? = some b) (h3 : ¬ d.u ∈ (["set", "take", "copy", "load", "jump", "call", "mark"] : List Str) → ¬ d.is[0]? = some b) : needF d b = false := by
  unfold needF
  rw [decide_eq_false h1, Bool.false_or]
  have kA := (by decide +kernel : ∀ u ∈ fA, u ∈ (["copy", "load", "add", "less", "keep"] : List Str)) d.u
  have kB := (by decide +kernel : ∀ u ∈ fB, u ∈ (["copy", "load", "add", "less", "keep"] : List Str) ∧ ¬ u ∈ (["set", "take", "copy", "load", "jump", "call", "mark"] : List Str)) d.u
  have kC := (by decide +kernel : ∀ u ∈ fC, ¬ u ∈ (["set", "take", "copy", "load", "jump", "call", "mark"] : List Str)) d.u
  rw [Bool.or_eq_false_iff, Bool.or_eq_false_iff]
  refine ⟨?_, ?_, ?_⟩
  · rw [Bool.and_eq_false_iff]
    by_cases z : d.u ∈ fA
    · exact .inr (decide_eq_false (h2 (kA z)))
    · exact .inl (decide_eq_false z)
  · rw [Bool.and_eq_false_iff]
    by_cases z : d.u ∈ fB
    · refine .inr ?_
      rw [decide_eq_false (h3 (kB z).2), decide_eq_false (h2 (kB z).1)]
      rfl
    · exact .inl (decide_eq_false z)
  · rw [Bool.and_eq_false_iff]
    by_cases z : d.u ∈ fC
    · exact .inr (decide_eq_false (h3 (kC z)))
    · exact .inl (decide_eq_false z)
theorem needF_yes {d : FR} {b : Int} (h : d.u ∈ ends3 ∨ (d.u ∈ (["copy", "load", "add", "less", "keep"] : List Str) ∧ d.is[1]? = some b) ∨ (d.u ∈ all20 ∧ ¬ d.u ∈ ends3 ∧ ¬ d.u ∈ (["set", "take", "copy", "load", "jump", "call", "mark"] : List Str) ∧ d.is[0]? = some b)) : needF d b = true := by
  unfold needF
  simp only [Bool.or_eq_true, Bool.and_eq_true, decide_eq_true_iff]
  rcases h with h | ⟨h, e⟩ | ⟨h1, h2, h3, e⟩
  · exact .inl h
  · rcases (by decide +kernel : ∀ u ∈ (["copy", "load", "add", "less", "keep"] : List Str), u ∈ fA ∨ u ∈ fB) _ h with z | z
    · exact .inr (.inl ⟨z, e⟩)
    · exact .inr (.inr (.inl ⟨z, .inr e⟩))
  · rcases (by decide +kernel : ∀ u ∈ all20, ¬ u ∈ ends3 → ¬ u ∈ (["set", "take", "copy", "load", "jump", "call", "mark"] : List Str) → u ∈ fB ∨ u ∈ fC) _ h1 h2 h3 with z | z
    · exact .inr (.inr (.inl ⟨z, .inl e⟩))
    · exact .inr (.inr (.inr ⟨z, e⟩))
section
variable {P : Program} {w : World} {K : PySem.W.Frag} {mg : Str → Option Value} {base : Heap}
/-! ### _law_needs -/
def spLNeeds : Sp := fun vs H Q _ => ∃ (q : Addr) (b : Int) (d : FR), vs = [.ref q, .int b] ∧ RowF H q d ∧ ∀ H', Same H H' → Q (.bl (needF d b)) H'
theorem scLN : FnScope ["_law_row_here", "_law_box", "_law_word"] ["_law_row_here", "_law_box"] (defScope sLNeeds) := ⟨rfl, rfl, rfl, by decide +kernel, rfl, by decide +kernel, by decide +kernel⟩
theorem ok_lneeds {f : Addr} {fd : FuncData} (F : Fun K "_law_needs" "_law_needs" sLNeeds f fd) (T : Txt K w.params mg) : FnOk P w K mg base CX0 1 f fd ["_law_row_here", "_law_box"] spLNeeds := by
  refine F.ok scLN (fun vs H Q E h => ?_) (fun cdv A outer s H vs Q E hr h => ?_)
  · obtain ⟨q, b, d, rfl, _⟩ := h
    rfl
  · obtain ⟨q, b, d, rfl, g3, k⟩ := h
    obtain ⟨items, i1, _, i3, _⟩ := g3.parts
    have hok := g3.1
    have yes : needF d b = true → ∀ H', Same H H' → Q (.bl true) H' := fun e H' s' => by
      have kk := k H' s'
      rw [e] at kk
      exact kk
    have no : needF d b = false → ∀ H', Same H H' → Q (.bl false) H' := fun e H' s' => by
      have kk := k H' s'
      rw [e] at kk
      exact kk
    refine wrapX (pssx_cons (psx_of (ps_set (i := 2) scLN.nd rfl (Or.inl rfl) (pe_ix ix_tup (pv 0) pe_int (fun _ _ => rfl))))
      (pssx_mid (psx_if (pt_cmpR op_in_seq (pv 2) (pe_tup (pa_cons pe_str (pa_cons pe_str (pa_cons pe_str pa_nil)))) rfl) (pssx_one (psx_of (ps_ret pe_bl))) (pssx_nil pss_nil))
      (pssx_mid (psx_if (pw_and (pt_cmpR op_in_seq (pv 2) (pe_tup (pa_cons pe_str (pa_cons pe_str (pa_cons pe_str (pa_cons pe_str (pa_cons pe_str pa_nil)))))) rfl) (pw_and1 (pt_cmpR op_eq (pe_ix ix_tup (pv 0) pe_int (fun _ _ => rfl)) (pv 1) (nomark _)))).pt (pssx_one (psx_of (ps_ret pe_bl))) (pssx_nil pss_nil))
      (pssx_one (psx_of (ps_ret (pe_and (pe_cmpR op_notIn_seq (pv 2) (pe_tup (pa_cons pe_str (pa_cons pe_str (pa_cons pe_str (pa_cons pe_str (pa_cons pe_str (pa_cons pe_str (pa_cons pe_str pa_nil)))))))) rfl) (pe_one (pe_cmpR op_eq (pe_ix ix_tup (pv 0) pe_int (fun _ _ => rfl)) (pv 1) (nomark _)))))))))) ?_
    refine ⟨_, rfl, q, _, 0, _, rfl, rfl, SqT.of i1, at0 _ _, ?_⟩
    refine ⟨fun σ H1 => σ = [some (.ref q), some (.int b), some (.str d.u)] ∧ Same H H1 ∧ ¬ d.u ∈ ends3, ?_, ?_⟩
    · refine ⟨_, rfl, (by show 3 ≤ sizeLine; decide), fun t0 nt0 => ⟨t0, (["stop", "back", "halt"] : List Str).map V.str, rfl, .inr (SqT.of upd_same), rfl, rfl, _, rfl, ?_⟩⟩
      have st0 := same_new (o := .tup [V.str "stop", V.str "back", V.str "halt"]) nt0
      rw [show inV (.str d.u) ((["stop", "back", "halt"] : List Str).map V.str) = decide (d.u ∈ (["stop", "back", "halt"] : List Str)) from inV_str _ _]
      generalize upd H t0 (.tup [V.str "stop", V.str "back", V.str "halt"]) = H1 at st0 ⊢
      refine ite2 (fun e => ?_) (fun e => ?_)
      · exact yes (needF_yes (.inl (of_decide_eq_true e))) _ st0
      · exact ⟨rfl, st0, fun z => e (decide_eq_true z)⟩
    rintro σ H1 ⟨rfl, s1, n1⟩
    refine ⟨fun σ H2 => σ = [some (.ref q), some (.int b), some (.str d.u)] ∧ Same H H2 ∧ (d.u ∈ (["copy", "load", "add", "less", "keep"] : List Str) → ¬ d.is[1]? = some b), ?_, ?_⟩
    · refine ⟨_, rfl, (by show 5 ≤ sizeLine; decide), fun t0 nt0 => ⟨t0, (["copy", "load", "add", "less", "keep"] : List Str).map V.str, rfl, .inr (SqT.of upd_same), rfl, rfl, _, rfl, ?_⟩⟩
      have st0 := same_new (o := .tup [V.str "copy", V.str "load", V.str "add", V.str "less", V.str "keep"]) nt0
      rw [show inV (.str d.u) ((["copy", "load", "add", "less", "keep"] : List Str).map V.str) = decide (d.u ∈ (["copy", "load", "add", "less", "keep"] : List Str)) from inV_str _ _]
      generalize upd H1 t0 (.tup [V.str "copy", V.str "load", V.str "add", V.str "less", V.str "keep"]) = H2 at st0 ⊢
      have s2 := s1.trans st0
      refine ite2 (fun e => ?_) (fun e => ?_)
      · have e := of_decide_eq_true e
        obtain ⟨b0, c0, e1, e2⟩ := row_snd (g3.same s2) e
        refine ⟨_, rfl, q, _, 2, _, rfl, rfl, SqT.of e2, at2 _ _ _ _, _, rfl, rfl, _, rfl, ?_⟩
        refine ite2 (fun ee => ?_) (fun ee => ?_)
        · have ee : c0 = b := V.int.inj (of_decide_eq_true ee)
          exact yes (needF_yes (.inr (.inl ⟨e, by rw [e1, ee]; rfl⟩))) _ s2
        · refine ⟨rfl, s2, fun _ z => ee (decide_eq_true ?_)⟩
          rw [e1] at z
          simp at z
          rw [z]
      · exact ⟨rfl, s2, fun z => absurd (decide_eq_true z) e⟩
    rintro σ H2 ⟨rfl, s2, n2⟩
    refine ⟨_, rfl, (by show 7 ≤ sizeLine; decide), fun t0 nt0 => ⟨t0, (["set", "take", "copy", "load", "jump", "call", "mark"] : List Str).map V.str, rfl, .inr (SqT.of upd_same), rfl, rfl, _, rfl, ?_⟩⟩
    have st0 := same_new (o := .tup [V.str "set", V.str "take", V.str "copy", V.str "load", V.str "jump", V.str "call", V.str "mark"]) nt0
    rw [show inV (.str d.u) ((["set", "take", "copy", "load", "jump", "call", "mark"] : List Str).map V.str) = decide (d.u ∈ (["set", "take", "copy", "load", "jump", "call", "mark"] : List Str)) from inV_str _ _]
    generalize upd H2 t0 (.tup [V.str "set", V.str "take", V.str "copy", V.str "load", V.str "jump", V.str "call", V.str "mark"]) = H3 at st0 ⊢
    have s3 := s2.trans st0
    refine ite2 (fun e => ?_) (fun e => ?_)
    · have e : ¬ d.u ∈ (["set", "take", "copy", "load", "jump", "call", "mark"] : List Str) := by simpa using e
      obtain ⟨b0, r0, it, e1, e2⟩ := row_fst (g3.same s3) ((by decide +kernel : ∀ u ∈ all20, ¬ u ∈ ends3 → ¬ u ∈ (["set", "take", "copy", "load", "jump", "call", "mark"] : List Str) → u ∈ w1 ∨ u ∈ w2) _ hok.1 n1 e)
      refine ⟨_, rfl, q, _, 1, _, rfl, rfl, SqT.of e2, at1 _ _ _, _, rfl, rfl, ?_⟩
      by_cases hb : b0 = b
      · have kk := yes (needF_yes (.inr (.inr ⟨hok.1, n1, e, by rw [e1, hb]; rfl⟩))) _ s3
        rw [decide_eq_true (show V.int b0 = V.int b by rw [hb])]
        exact kk
      · have kk := no (needF_no hok n1 n2 fun _ z => hb (by rw [e1] at z; simpa using z)) _ s3
        rw [decide_eq_false (show ¬ V.int b0 = V.int b from fun z => hb (V.int.inj z))]
        exact kk
    · have e : d.u ∈ (["set", "take", "copy", "load", "jump", "call", "mark"] : List Str) := Decidable.byContradiction fun z => e (by rw [decide_eq_false z]; rfl)
      exact no (needF_no hok n1 n2 fun z => absurd e z) _ s3
/-! ### _law_later -/
def spLater : Sp := fun vs H Q _ => ∃ (lr : Addr) (ds : List FR) (r : Nat) (d : FR), vs = [.ref lr, .int (r : Int)] ∧ RowsF H lr ds ∧ ds[r]? = some d ∧ d.ts.length ≤ 16 ∧ ¬ d.u ∈ ends3 ∧ ∀ (l : Addr) (ms : List Int) (H' : Hp), Same H H' → H l = none → H' l = some (.lst (ms.map V.int)) → ms.length ≤ 17 → (∀ j, j ∈ ms ↔ j ∈ ahd d r) → Q (.ref l) H'
theorem scLL : FnScope ["_law_rows", "_law_number", "_law_row_here"] ["_law_rows", "_law_number"] (defScope sLater) := ⟨rfl, rfl, rfl, by decide +kernel, rfl, by decide +kernel, by decide +kernel⟩
theorem ok_later {f : Addr} {fd : FuncData} (F : Fun K "_law_later" "_law_later" sLater f fd) (T : Txt K w.params mg) : FnOk P w K mg base CX0 1 f fd ["_law_rows", "_law_number"] spLater := by
  refine F.ok scLL (fun vs H Q E h => ?_) (fun cdv A outer s H vs Q E hr h => ?_)
  · obtain ⟨lr, ds, r, d, rfl, _⟩ := h
    rfl
  · obtain ⟨lr, ds, r, d, rfl, hR, hd, ht, he, k⟩ := h
    obtain ⟨qs, qq, g1, g2, g2', g3⟩ := hR.get hd
    obtain ⟨items, i1, _, i3, _⟩ := g3.parts
    have hok := g3.1
    refine wrapX (pssx_cons (psx_of (ps_set (i := 2) scLL.nd rfl (Or.inl rfl) (pe_ix ix_list (pv 0) (pv 1) (fun _ _ => rfl))))
      (pssx_mid (psx_if (pw_or (pt_cmpR op_eq (pe_ix ix_tup (pv 2) pe_int (fun _ _ => rfl)) pe_str (nomark _)) (pw_or1 (pt_cmpR op_eq (pe_ix ix_tup (pv 2) pe_int (fun _ _ => rfl)) pe_str (nomark _)))).pt (pssx_one (psx_of (ps_ret (pe_lst (pa_cons (pe_ix ix_tup (pv 2) pe_int (fun _ _ => rfl)) pa_nil))))) (pssx_nil pss_nil))
      (pssx_mid (psx_if (pt_cmpR op_eq (pe_ix ix_tup (pv 2) pe_int (fun _ _ => rfl)) pe_str (nomark _)) (pssx_one (psx_of (ps_ret (pe_lst (pa_cons (pe_op op_add (pv 1) pe_int) (pa_cons (pe_ix ix_tup (pv 2) pe_int (fun _ _ => rfl)) pa_nil)))))) (pssx_nil pss_nil))
      (pssx_mid (psx_if (pw_or (pt_cmpR op_eq (pe_ix ix_tup (pv 2) pe_int (fun _ _ => rfl)) pe_str (nomark _)) (pw_or1 (pt_cmpR op_eq (pe_ix ix_tup (pv 2) pe_int (fun _ _ => rfl)) pe_str (nomark _)))).pt (pssx_one (psx_of (ps_ret (pe_lst (pa_cons (pe_op op_add (pv 1) pe_int) (pa_cons (pe_ix ix_tup (pv 2) pe_int (fun _ _ => rfl)) pa_nil)))))) (pssx_nil pss_nil))
      (pssx_mid (psx_if (pt_cmpR op_eq (pe_ix ix_tup (pv 2) pe_int (fun _ _ => rfl)) pe_str (nomark _)) (pssx_one (psx_of (ps_ret (pe_op op_cat (pe_lst (pa_cons (pe_op op_add (pv 1) pe_int) pa_nil)) (pe_callTy call_list_of (by rfl) T.list bt_list (pa_cons (pe_ix ix_tup (pv 2) pe_int (fun _ _ => rfl)) pa_nil)))))) (pssx_nil pss_nil))
      (pssx_one (psx_of (ps_ret (pe_lst (pa_cons (pe_op op_add (pv 1) pe_int) pa_nil)))))))))) ?_
    refine ⟨_, rfl, _, rfl, lr, _, _, _, rfl, rfl, SqL.of g1, g2, ?_⟩
    have rd0 : atI (.str d.u :: items) 0 = some (.str d.u) := at0 _ _
    have ahP : (d.u = "call" ∨ d.u ∈ notOn) → ∀ j, j ∈ ahd d r ↔ j ∈ d.ts := fun z j => by unfold ahd; rw [if_pos z]
    have ahN : ¬ (d.u = "call" ∨ d.u ∈ notOn) → ∀ j, j ∈ ahd d r ↔ j ∈ d.ts ∨ j = (r : Int) + 1 := fun z j => by unfold ahd; rw [if_neg z, List.mem_append, List.mem_singleton]
    let sg : St := [some (.ref lr), some (.int (r : Int)), some (.ref qq)]
    -- jump, call
    refine ⟨fun σ H1 => σ = [some (.ref lr), some (.int (r : Int)), some (.ref qq)] ∧ H1 = H ∧ ¬ d.u = "jump" ∧ ¬ d.u = "call", ?_, ?_⟩
    · have fin : d.u = "jump" ∨ d.u = "call" → ∃ v, [some (V.ref lr), some (V.int (r : Int)), some (V.ref qq)][2]? = some (some v) ∧ ∃ p xs i v', v = .ref p ∧ V.int 1 = .int i ∧ SqT K H p xs ∧ atI xs i = some v' ∧ 1 ≤ sizeLine ∧ ∀ l, H l = none → Q (.ref l) (upd H l (.lst [v'])) := fun e => by
        obtain ⟨t, it, e1, e2⟩ := row_tg1 g3 (by rcases e with e | e <;> rw [e] <;> decide)
        refine ⟨_, rfl, qq, _, 1, _, rfl, rfl, SqT.of e2, at1 _ _ _, by decide, fun l nl => k l [t] _ (same_new nl) nl upd_same (by simp) fun j => ?_⟩
        rw [ahP (by rcases e with e | e <;> rw [e] <;> decide), e1]
      refine ⟨_, rfl, qq, _, 0, _, rfl, rfl, SqT.of i1, rd0, rfl, _, rfl, ?_⟩
      refine ite2 (fun e => fin (.inl (strEq e))) (fun e => ?_)
      refine ⟨_, rfl, qq, _, 0, _, rfl, rfl, SqT.of i1, rd0, rfl, _, rfl, ?_⟩
      exact ite2 (fun e => fin (.inr (strEq e))) (fun e2 => ⟨rfl, rfl, strNe e, strNe e2⟩)
    rintro σ H1 ⟨rfl, rfl, nj, nc⟩
    -- mark
    refine ⟨fun σ H2 => σ = [some (.ref lr), some (.int (r : Int)), some (.ref qq)] ∧ H2 = H1 ∧ ¬ d.u = "mark", ?_, ?_⟩
    · refine ⟨_, rfl, qq, _, 0, _, rfl, rfl, SqT.of i1, rd0, rfl, _, rfl, ?_⟩
      refine ite2 (fun e => ?_) (fun e => ⟨rfl, rfl, strNe e⟩)
      have e := strEq e
      obtain ⟨t, it, e1, e2⟩ := row_tg1 g3 (by rw [e]; decide)
      refine ⟨_, rfl, _, _, rfl, rfl, _, rfl, qq, _, 1, _, rfl, rfl, SqT.of e2, at1 _ _ _, (by show 2 ≤ sizeLine; decide), fun l nl => k l [(r : Int) + 1, t] _ (same_new nl) nl upd_same (by simp) fun j => ?_⟩
      rw [ahN (by rw [e]; decide), e1]
      simp
      exact or_comm
    rintro σ H2 ⟨rfl, rfl, nm⟩
    -- zero, below
    refine ⟨fun σ H3 => σ = [some (.ref lr), some (.int (r : Int)), some (.ref qq)] ∧ H3 = H2 ∧ ¬ d.u ∈ zb, ?_, ?_⟩
    · have fin : d.u ∈ zb → ∃ v, [some (V.ref lr), some (V.int (r : Int)), some (V.ref qq)][1]? = some (some v) ∧ ∃ i j, v = .int i ∧ V.int 1 = .int j ∧ ∃ v2, [some (V.ref lr), some (V.int (r : Int)), some (V.ref qq)][2]? = some (some v2) ∧ ∃ p xs i' v', v2 = .ref p ∧ V.int 2 = .int i' ∧ SqT K H2 p xs ∧ atI xs i' = some v' ∧ 2 ≤ sizeLine ∧ ∀ l, H2 l = none → Q (.ref l) (upd H2 l (.lst [.int (i + j), v'])) := fun e => by
        obtain ⟨b0, t, it, e1, e2⟩ := row_tg2 g3 e
        refine ⟨_, rfl, _, _, rfl, rfl, _, rfl, qq, _, 2, _, rfl, rfl, SqT.of e2, at2 _ _ _ _, by decide, fun l nl => k l [(r : Int) + 1, t] _ (same_new nl) nl upd_same (by simp) fun j => ?_⟩
        rw [ahN ((by decide : ∀ u ∈ zb, ¬ (u = "call" ∨ u ∈ notOn)) _ e), e1]
        simp
        exact or_comm
      refine ⟨_, rfl, qq, _, 0, _, rfl, rfl, SqT.of i1, rd0, rfl, _, rfl, ?_⟩
      refine ite2 (fun e => fin (by rw [strEq e]; decide)) (fun e => ?_)
      refine ⟨_, rfl, qq, _, 0, _, rfl, rfl, SqT.of i1, rd0, rfl, _, rfl, ?_⟩
      refine ite2 (fun e => fin (by rw [strEq e]; decide)) (fun e2 => ⟨rfl, rfl, fun z => ?_⟩)
      rcases List.mem_cons.mp z with z | z
      · exact strNe e z
      · exact strNe e2 (List.mem_singleton.mp z)
    rintro σ H3 ⟨rfl, rfl, nz⟩
    -- table
    refine ⟨fun σ H4 => σ = [some (.ref lr), some (.int (r : Int)), some (.ref qq)] ∧ H4 = H3 ∧ ¬ d.u = "table", ?_, ?_⟩
    · refine ⟨_, rfl, qq, _, 0, _, rfl, rfl, SqT.of i1, rd0, rfl, _, rfl, ?_⟩
      refine ite2 (fun e => ?_) (fun e => ⟨rfl, rfl, strNe e⟩)
      have e := strEq e
      obtain ⟨b0, p, e1, e2, e3⟩ : ∃ b p, d.is = [b] ∧ H3 qq = some (.tup [.str d.u, .int b, .ref p]) ∧ H3 p = some (.tup (d.ts.map V.int)) := by
        rcases g3.2 with ⟨_, b0, p, e1, e2, e3⟩ | ⟨z, _⟩
        · exact ⟨b0, p, e1, e2, e3⟩
        · exact absurd e z
      refine ⟨_, rfl, _, _, rfl, rfl, (by show 1 ≤ sizeLine; decide), fun l0 m0 => ?_⟩
      have s0 := same_new (o := .lst [V.int ((r : Int) + 1)]) m0
      have h0 : upd H3 l0 (.lst [V.int ((r : Int) + 1)]) l0 = _ := upd_same
      generalize upd H3 l0 (.lst [V.int ((r : Int) + 1)]) = H5 at s0 h0 ⊢
      refine ⟨_, rfl, qq, _, 2, _, rfl, rfl, SqT.of (s0 _ _ e2), at2 _ _ _ _, p, _, rfl, .inr (SqT.of (s0 _ _ e3)), fun lx mx => ?_⟩
      have s1 := s0.trans (same_new (o := .lst (d.ts.map V.int)) mx)
      refine ⟨l0, lx, _, _, rfl, rfl, same_new mx _ _ h0, upd_same, small_len (by rw [List.length_map]; simp; omega), fun l4 m4 => ?_⟩
      refine k l4 (((r : Int) + 1) :: d.ts) _ (s1.trans (same_new m4)) (s1.free m4) upd_same (by simp; omega) fun j => ?_
      rw [ahN (by rw [e]; decide)]
      simp
      exact or_comm
    rintro σ H4 ⟨rfl, rfl, nt⟩
    refine ⟨_, rfl, _, _, rfl, rfl, (by show 1 ≤ sizeLine; decide), fun l nl => k l [(r : Int) + 1] _ (same_new nl) nl upd_same (by simp) fun j => ?_⟩
    have hcase := (by decide +kernel : ∀ u ∈ all20, ¬ u ∈ ends3 → ¬ u = "jump" → ¬ u = "call" → ¬ u = "mark" → ¬ u ∈ zb → ¬ u = "table" → ¬ (u = "call" ∨ u ∈ notOn) ∧ ¬ u ∈ jcm) _ hok.1 he nj nc nm nz nt
    rw [ahN hcase.1, hok.2.2.2.2.1 nt hcase.2 nz]
    simp
end
end My


set_option Elab.async false
set_option linter.all false
set_option maxRecDepth 100000
set_option maxHeartbeats 4000000
namespace My
open PySem L2
theorem to_nats : ∀ (ms : List Int), (∀ j ∈ ms, 0 ≤ j) → ∃ ns : List Nat, ms = ns.map fun r : Nat => (r : Int)
  | [], _ => ⟨[], rfl⟩
  | x :: t, h => by
    obtain ⟨ns, e⟩ := to_nats t fun j hj => h j (by simp [hj])
    obtain ⟨y, rfl⟩ := Int.eq_ofNat_of_zero_le (h x (by simp))
    exact ⟨y :: ns, by rw [e]; rfl⟩
/-! ### the walk: those come to (ks), those asked for (ws) -/
structure Wk (ds : List FR) (b : Int) (r0 : Nat) (ks ws : List Nat) : Prop where
  nd : ks.Nodup
  kin : ∀ x ∈ ks, x < ds.length
  win : ∀ x ∈ ws, x < ds.length
  ok : ∀ x ∈ ks, ∀ d, ds[x]? = some d → needF d b = false ∧ (wrF d b = false → ∀ s : Nat, (s : Int) ∈ ahd d x → s ∈ ks ∨ s ∈ ws)
  reach : ∀ x, x ∈ ks ∨ x ∈ ws → NeedsR ds b x → NeedsR ds b r0
  start : r0 ∈ ks ∨ r0 ∈ ws
  len : ws.length ≤ 1 + 17 * ks.length
theorem Wk.none {ds : List FR} {b : Int} {r0 : Nat} {ks : List Nat} (h : Wk ds b r0 ks []) : ¬ NeedsR ds b r0 := by
  have key : ∀ {x}, NeedsR ds b x → ¬ x ∈ ks := fun {x} hn => by
    induction hn with
    | now h1 h2 =>
      intro hx
      have := (h.ok _ hx _ h1).1
      rw [h2] at this
      cases this
    | later h1 h2 h3 _ ih =>
      intro hx
      rcases (h.ok _ hx _ h1).2 h2 _ h3 with z | z
      · exact ih z
      · cases z
  intro hn
  rcases h.start with z | z
  · exact key hn z
  · cases z
section
variable {P : Program} {w : World} {K : PySem.W.Frag} {mg : Str → Option Value} {base : Heap}
def spIsFree : Sp := fun vs H Q _ => ∃ (lr : Addr) (ds : List FR) (r : Nat) (b : Int), vs = [.ref lr, .int (r : Int), .int b] ∧ RowsF H lr ds ∧ ProgF ds ∧ r < ds.length ∧ ds.length ≤ 100 ∧ ∀ H', Same H H' → Q (.bl (!needB ds b r)) H'
theorem scIF : FnScope ["_law_rows", "_law_number", "_law_box", "_law_asked", "_law_come", "_law_at", "_law_row_here"] ["_law_rows", "_law_number", "_law_box"] (defScope sIsFree) := ⟨rfl, rfl, rfl, by decide +kernel, rfl, by decide +kernel, by decide +kernel⟩
theorem ok_isfree {f fN fL : Addr} {fd fdN fdL : FuncData} (F : Fun K "_law_is_free" "_law_is_free" sIsFree f fd) (T : Txt K w.params mg) (GN : FnOk P w K mg base CX0 1 fN fdN ["_law_row_here", "_law_box"] spLNeeds) (kN : PySem.W.keepIn K (.ref fN) = true) (bN : Binds K fdN ["_law_row_here", "_law_box"] []) (mN : mg "_law_needs" = some (.ref fN)) (GL : FnOk P w K mg base CX0 1 fL fdL ["_law_rows", "_law_number"] spLater) (kL : PySem.W.keepIn K (.ref fL) = true) (bL : Binds K fdL ["_law_rows", "_law_number"] []) (mL : mg "_law_later" = some (.ref fL)) : FnOk P w K mg base CX0 2 f fd ["_law_rows", "_law_number", "_law_box"] spIsFree := by
  refine F.ok scIF (fun vs H Q E h => ?_) (fun cdv A outer s H vs Q E hr h => ?_)
  · obtain ⟨lr, ds, r, b, rfl, _⟩ := h
    rfl
  · obtain ⟨lr, ds, r, b, rfl, hR, hP, hrl, hn, k⟩ := h
    have hu0 : (A.deeper (PyProof.Rows.envOfC "_law_is_free" (defScope sIsFree) s.heap.objs.size f cdv)).units + 6 < cLine := Nat.lt_of_le_of_lt (Nat.add_le_add_left (by decide : 6 ≤ 64) _) hr.units
    have hu : (A.deeper (PyProof.Rows.envOfC "_law_is_free" (defScope sIsFree) s.heap.objs.size f cdv)).units + 1 < cLine := Nat.lt_of_le_of_lt (Nat.add_le_add_left (by decide : 1 ≤ 64) _) hr.units
    refine wrapX (pssx_cons (psx_of (ps_set (i := 3) scIF.nd rfl (Or.inl rfl) (pe_lst (pa_cons (pv 1) pa_nil))))
      (pssx_cons (psx_of (ps_set (i := 4) scIF.nd rfl (Or.inl rfl) pe_dnewK))
      (pssx_cons (psx_of (ps_while PassesOwn.never (pt_cmpR (op_neA hu0) (pv 3) (pe_lst pa_nil) (nomark _)) (pss_cons (ps_set (i := 5) scIF.nd rfl (Or.inl rfl) (pe_bm0 PySem.F.plainAttrs_list PySem.F.slot_list_pop PySem.F.type_list_pop mt_pop (pv 3)))
      (pss_cons (ps_set (i := 6) scIF.nd rfl (Or.inl rfl) (pe_ix ix_list (pv 0) (pv 5) (fun _ _ => rfl)))
      (pss_one (ps_if (pt_cmp (pc_dnotin hu (pv 5) (pv 4))) (pss_cons (ps_dput hu (pv 4) (pv 5) pe_bl rfl)
      (pss_cons (ps_if (pt_val (pe_call GN hr (by rfl) mN kN bN .nil pass0 (pa_cons (pv 6) (pa_cons (pv 2) pa_nil)))) (pss_one (ps_ret pe_bl)) pss_nil)
      (pss_one (ps_if (pw_or (pt_cmpR op_notIn_seq (pe_ix ix_tup (pv 6) pe_int (fun _ _ => rfl)) (pe_tup (pa_cons pe_str (pa_cons pe_str (pa_cons pe_str (pa_cons pe_str pa_nil))))) rfl) (pw_or1 (pt_cmpR op_ne (pe_ix ix_tup (pv 6) pe_int (fun _ _ => rfl)) (pv 2) (nomark _)))).pt (pss_one (ps_set (i := 3) scIF.nd rfl (Or.inl rfl) (pe_op op_cat (pv 3) (pe_call GL hr (by rfl) mL kL bL .nil pass0 (pa_cons (pv 0) (pa_cons (pv 5) pa_nil)))))) pss_nil)))) pss_nil))))))
      (pssx_one (psx_of (ps_ret pe_bl)))))) ?_
    refine ⟨_, rfl, (by show 1 ≤ sizeLine; decide), fun l0 nl0 => ?_⟩
    have s1 := same_new (o := .lst [V.int (r : Int)]) nl0
    have h1 : upd H l0 (.lst [V.int (r : Int)]) l0 = some (.lst (nats [r])) := upd_same
    generalize upd H l0 (.lst [V.int (r : Int)]) = G0 at s1 h1 ⊢
    refine fun p np => ?_
    have hp0 : H p = none := s1.free np
    have ne0 : l0 ≠ p := fun z => by rw [← z, h1] at np; cases np
    have s2 := s1.trans (same_new (o := .dK []) np)
    have h2 := same_new (o := .dK []) np _ _ h1
    have hp : upd G0 p (.dK []) p = some (.dK (nD ([] : List Nat))) := upd_same
    generalize upd G0 p (.dK []) = G1 at s2 h2 hp ⊢
    have wk0 : Wk ds b r [] [r] := ⟨List.nodup_nil, fun x hx => (List.not_mem_nil hx).elim, fun x hx => by rw [List.mem_singleton.mp hx]; exact hrl, fun x hx => (List.not_mem_nil hx).elim, fun x hx hnx => by
      rcases hx with hx | hx
      · exact (List.not_mem_nil hx).elim
      · rw [List.mem_singleton.mp hx] at hnx; exact hnx, .inr (by simp), by simp⟩
    refine ⟨fun mm σ G => ∃ (l : Addr) (ks ws : List Nat) (v5 v6 : Option V), σ = [some (.ref lr), some (.int (r : Int)), some (.int b), some (.ref l), some (.ref p), v5, v6] ∧ H l = none ∧ l ≠ p ∧ Same H G ∧ G l = some (.lst (nats ws)) ∧ G p = some (.dK (nD ks)) ∧ Wk ds b r ks ws ∧ mm = 20 * (ds.length - ks.length) + ws.length, ⟨_, l0, [], [r], none, none, rfl, nl0, ne0, s2, h2, hp, wk0, rfl⟩, ?_⟩
    rintro mm σ G ⟨l, ks, ws, v5, v6, rfl, hl0, nelp, s3, hl, hpk, wk, rfl⟩
    refine ⟨_, rfl, Nat.le_of_ble_eq_true rfl, fun le ne => ?_⟩
    have s4 := s3.trans (same_new (o := .lst []) ne)
    have hl4 := same_new (o := .lst []) ne _ _ hl
    have hp4 := same_new (o := .lst []) ne _ _ hpk
    have he : upd G le (.lst []) le = _ := upd_same
    generalize upd G le (.lst []) = G2 at s4 hl4 hp4 he ⊢
    have hkl : ks.length ≤ ds.length := nodup_lenN wk.nd wk.kin
    have hlD : G2 l = some (.lst ((ws.map fun r : Nat => (r : Int)).map V.int)) := by rw [hl4, nats_ints]
    refine ⟨1, l, le, .lst ((ws.map fun r : Nat => (r : Int)).map Da.int), .lst [], rfl, rfl, .lst (SqL.of hlD) (by simp) (ints_da K _ _), .lst (SqL.of he) rfl (fun i x d h => by simp at h), ints_nb _, .lst (fun z hz => by cases hz), by decide, _, rfl, ?_⟩
    refine ite2 (fun e => ?_) (fun e => ?_)
    · have hne : ws ≠ [] := fun z => by rw [z] at e; simp at e
      obtain ⟨ws0, x, rfl⟩ : ∃ ys x, ws = ys ++ [x] := ⟨_, _, (List.dropLast_concat_getLast hne).symm⟩
      refine ⟨fun σ G4 => ∃ (l : Addr) (ks' ws' : List Nat) (v5 v6 : Option V), σ = [some (.ref lr), some (.int (r : Int)), some (.int b), some (.ref l), some (.ref p), v5, v6] ∧ H l = none ∧ l ≠ p ∧ Same H G4 ∧ G4 l = some (.lst (nats ws')) ∧ G4 p = some (.dK (nD ks')) ∧ Wk ds b r ks' ws' ∧ 20 * (ds.length - ks'.length) + ws'.length < 20 * (ds.length - ks.length) + (ws0 ++ [x]).length, fun σ' H' ⟨l, ks', ws', v5, v6, a1, a2, a3, a4, a5, a6, a7, a8⟩ => ⟨_, a8, l, ks', ws', v5, v6, a1, a2, a3, a4, a5, a6, a7, rfl⟩, ?_⟩
      have hxl : x < ds.length := wk.win x (by simp)
      refine ⟨_, rfl, .inl ⟨rfl, _, SqL.of hl4⟩, l, nats (ws0 ++ [x]), .int (x : Int), rfl, rfl, hl4, (by rw [nats_len, ← nats_snoc]; simp [nats]), ?_⟩
      have ed : (nats (ws0 ++ [x])).dropLast = nats ws0 := by rw [← nats_snoc]; simp
      rw [ed]
      have s5 : Same H (upd G2 l (.lst (nats ws0))) := same_put s4 hl0
      have hl5 : upd G2 l (.lst (nats ws0)) l = _ := upd_same
      have hp5 : upd G2 l (.lst (nats ws0)) p = some (.dK (nD ks)) := by rw [upd_ne (Ne.symm nelp)]; exact hp4
      generalize upd G2 l (.lst (nats ws0)) = G3 at s5 hl5 hp5 ⊢
      have hd : ds[x]? = some ds[x] := List.getElem?_eq_getElem hxl
      generalize ds[x] = d at hd
      obtain ⟨p1, p2⟩ := hP x d hd
      obtain ⟨qs, q, g1, g2, g2', g3⟩ := (hR.same s5).get hd
      refine ⟨_, rfl, _, rfl, lr, _, _, _, rfl, rfl, SqL.of g1, g2, ?_⟩
      refine ⟨_, rfl, _, rfl, p, _, rfl, DGet.k (k := Sum.inl (x : Int)) hp5, _, rfl, ?_⟩
      rw [nD_val]
      by_cases hin : x ∈ ks
      · rw [if_pos hin]
        refine iteN (by decide) ?_
        refine ⟨l, ks, ws0, _, _, rfl, hl0, nelp, s5, hl5, hp5, ⟨wk.nd, wk.kin, fun y hy => wk.win y (by simp [hy]), fun y hy d' h1 => ⟨(wk.ok y hy d' h1).1, fun h2 s' h3 => ?_⟩, fun y hy => wk.reach y (hy.imp id fun z => by simp [z]), ?_, ?_⟩, by simp⟩
        · rcases (wk.ok y hy d' h1).2 h2 s' h3 with z | z
          · exact .inl z
          · rcases List.mem_append.mp z with z | z
            · exact .inr z
            · rw [List.mem_singleton.mp z]; exact .inl hin
        · rcases wk.start with z | z
          · exact .inl z
          · rcases List.mem_append.mp z with z | z
            · exact .inr z
            · rw [List.mem_singleton.mp z]; exact .inl hin
        · have := wk.len
          rw [List.length_append, List.length_singleton] at this
          omega
      · rw [if_neg hin]
        refine iteP (by decide) ?_
        have hlt : ks.length < ds.length := by
          have := nodup_lenN (ms := ks ++ [x]) (n := ds.length) (by
            rw [List.nodup_append]
            exact ⟨wk.nd, by simp, fun y hy z hz e => hin (by rw [← List.mem_singleton.mp hz, ← e]; exact hy)⟩) (fun y hy => by
            rcases List.mem_append.mp hy with z | z
            · exact wk.kin y z
            · rw [List.mem_singleton.mp z]; exact hxl)
          rw [List.length_append, List.length_singleton] at this
          omega
        refine ⟨_, rfl, _, rfl, p, _, rfl, DPut.k (k := Sum.inl (x : Int)) hp5 (by rw [nD_len]; exact small_lt (by omega)), ?_⟩
        rw [nD_put hin]
        have s6 : Same H (upd G3 p (.dK (nD (ks ++ [x])))) := same_put s5 hp0
        have hl6 : upd G3 p (.dK (nD (ks ++ [x]))) l = some (.lst (nats ws0)) := by rw [upd_ne nelp]; exact hl5
        have hp6 : upd G3 p (.dK (nD (ks ++ [x]))) p = _ := upd_same
        generalize upd G3 p (.dK (nD (ks ++ [x]))) = G4 at s6 hl6 hp6 ⊢
        obtain ⟨qs', q', y1, y2, y2', y3⟩ := (hR.same s6).get hd
        have eq' : q' = q := by
          obtain ⟨zs, z1, _⟩ := hR
          have e1 := HO.lst.inj (Option.some.inj (g1.symm.trans (s5 _ _ z1)))
          have e2 := HO.lst.inj (Option.some.inj (y1.symm.trans (s6 _ _ z1)))
          rw [e1] at g2
          rw [e2] at y2
          exact V.ref.inj (Option.some.inj (y2.symm.trans g2))
        subst eq'
        refine ⟨_, rfl, _, rfl, q', b, d, rfl, y3, fun G5 s7 => ⟨_, rfl, ?_⟩⟩
        have s67 := s6.trans s7
        refine ite2 (fun e2 => ?_) (fun e2 => ?_)
        · have hnd : NeedsR ds b r := wk.reach x (.inr (by simp)) (.now hd e2)
          have kk := k _ s67
          rw [needB_iff.mpr hnd] at kk
          exact kk
        · have e2 : needF d b = false := by simpa using e2
          have hl7 := s7 _ _ hl6
          have hp7 := s7 _ _ hp6
          have g37 := y3.same s7
          have hok := g37.1
          have hne3 : ¬ d.u ∈ ends3 := fun z => by rw [needF_yes (b := b) (.inl z)] at e2; cases e2
          obtain ⟨items, i1, _, i3, _⟩ := g37.parts
          have nd' : (ks ++ [x]).Nodup := by
            rw [List.nodup_append]
            exact ⟨wk.nd, by simp, fun y hy z hz e => hin (by rw [← List.mem_singleton.mp hz, ← e]; exact hy)⟩
          have kin' : ∀ y ∈ ks ++ [x], y < ds.length := fun y hy => by
            rcases List.mem_append.mp hy with z | z
            · exact wk.kin y z
            · rw [List.mem_singleton.mp z]; exact hxl
          -- it goes on
          have goOn : wrF d b = false → ∀ (lx : Addr) (ms : List Int) (G6 : Hp), Same G5 G6 → G6 lx = some (.lst (nats ws0 ++ ms.map V.int)) → G5 lx = none → ms.length ≤ 17 → (∀ j, j ∈ ms ↔ j ∈ ahd d x) → ∃ (ks' ws' : List Nat), H lx = none ∧ lx ≠ p ∧ Same H G6 ∧ G6 lx = some (.lst (nats ws')) ∧ G6 p = some (.dK (nD ks')) ∧ Wk ds b r ks' ws' ∧ 20 * (ds.length - ks'.length) + ws'.length < 20 * (ds.length - ks.length) + (ws0 ++ [x]).length := fun hw lx ms G6 s8 hlx nlx hml hmm => by
            obtain ⟨ns, ens⟩ := to_nats ms fun j hj => (p2 j ((hmm j).mp hj)).1
            have hns : ∀ y ∈ ns, y < ds.length ∧ (y : Int) ∈ ahd d x := fun y hy => by
              have h1 : (y : Int) ∈ ms := by rw [ens]; exact List.mem_map.mpr ⟨y, hy, rfl⟩
              have h2 := (hmm _).mp h1
              exact ⟨by have := (p2 _ h2).2; omega, h2⟩
            have hnl : ns.length ≤ 17 := by rw [ens, List.length_map] at hml; exact hml
            refine ⟨ks ++ [x], ws0 ++ ns, s67.free nlx, (fun z => by rw [z, hp7] at nlx; cases nlx), s67.trans s8, ?_, s8 _ _ hp7, ⟨nd', kin', fun y hy => ?_, fun y hy d' h1 => ?_, fun y hy hny => ?_, ?_, ?_⟩, by simp; omega⟩
            · rw [hlx, ens, List.map_map]
              unfold nats
              rw [List.map_append]
              rfl
            · rcases List.mem_append.mp hy with z | z
              · exact wk.win y (by simp [z])
              · exact (hns y z).1
            · rcases List.mem_append.mp hy with z | z
              · refine ⟨(wk.ok y z d' h1).1, fun h2 s' h3 => ?_⟩
                rcases (wk.ok y z d' h1).2 h2 s' h3 with w | w
                · exact .inl (by simp [w])
                · rcases List.mem_append.mp w with w | w
                  · exact .inr (by simp [w])
                  · exact .inl (by simp [List.mem_singleton.mp w])
              · have ey := List.mem_singleton.mp z
                subst ey
                rw [hd] at h1
                cases h1
                refine ⟨e2, fun _ s' h3 => .inr ?_⟩
                have : (s' : Int) ∈ ms := (hmm _).mpr h3
                rw [ens] at this
                obtain ⟨t, ht, et⟩ := List.mem_map.mp this
                have : t = s' := by omega
                rw [← this]
                simp [ht]
            · rcases hy with hy | hy
              · rcases List.mem_append.mp hy with z | z
                · exact wk.reach y (.inl z) hny
                · exact wk.reach y (.inr (by simp [List.mem_singleton.mp z])) hny
              · rcases List.mem_append.mp hy with z | z
                · exact wk.reach y (.inr (by simp [z])) hny
                · exact wk.reach x (.inr (by simp)) (.later hd hw (hns y z).2 hny)
            · rcases wk.start with z | z
              · exact .inl (by simp [z])
              · rcases List.mem_append.mp z with z | z
                · exact .inr (by simp [z])
                · exact .inl (by simp [List.mem_singleton.mp z])
            · have := wk.len
              rw [List.length_append, List.length_singleton] at this
              simp
              omega
          have hwl := wk.len
          rw [List.length_append, List.length_singleton] at hwl
          refine ⟨_, rfl, q', _, 0, _, rfl, rfl, SqT.of i1, at0 _ _, (by show 4 ≤ sizeLine; decide), fun t0 nt0 => ⟨t0, (["set", "take", "copy", "load"] : List Str).map V.str, rfl, .inr (SqT.of upd_same), rfl, rfl, _, rfl, ?_⟩⟩
          have st0 := same_new (o := .tup [V.str "set", V.str "take", V.str "copy", V.str "load"]) nt0
          rw [show inV (.str d.u) ((["set", "take", "copy", "load"] : List Str).map V.str) = decide (d.u ∈ (["set", "take", "copy", "load"] : List Str)) from inV_str _ _]
          generalize upd G5 t0 (.tup [V.str "set", V.str "take", V.str "copy", V.str "load"]) = G6 at st0 ⊢
          have hl8 := st0 _ _ hl7
          have s8 := s67.trans st0
          have wr0 : ¬ d.u ∈ (["set", "take", "copy", "load"] : List Str) → wrF d b = false := fun e => by
            unfold wrF
            rw [Bool.and_eq_false_iff]
            by_cases z : d.u ∈ w7
            · refine .inr (decide_eq_false fun y => ?_)
              have hs := (by decide +kernel : ∀ u ∈ w7, ¬ u ∈ (["set", "take", "copy", "load"] : List Str) → ¬ u ∈ ends3 ∧ ¬ u ∈ (["set", "take", "copy", "load", "jump", "call", "mark"] : List Str)) _ z e
              have := needF_yes (b := b) (.inr (.inr ⟨hok.1, hs.1, hs.2, y⟩))
              rw [e2] at this
              cases this
            · exact .inl (decide_eq_false z)
          refine ite2 (fun e3 => ?_) (fun e3 => ?_)
          · have e3 : ¬ d.u ∈ (["set", "take", "copy", "load"] : List Str) := by simpa using e3
            refine ⟨_, rfl, _, rfl, _, rfl, lr, ds, x, d, rfl, hR.same s8, hd, p1, hne3, fun la ms G7 s9 nla hla hml hmm => ?_⟩
            refine ⟨l, la, _, _, rfl, rfl, s9 _ _ hl8, hla, small_len (by rw [nats_len, List.length_map]; omega), fun lx nx => ?_⟩
            obtain ⟨ks', ws', a1, a2, a3, a4, a5, a6, a7⟩ := goOn (wr0 e3) lx ms _ (st0.trans (s9.trans (same_new nx))) upd_same ((st0.trans s9).free nx) hml hmm
            exact ⟨lx, ks', ws', _, _, rfl, a1, a2, a3, a4, a5, a6, a7⟩
          · have e3 : d.u ∈ (["set", "take", "copy", "load"] : List Str) := Decidable.byContradiction fun z => e3 (by rw [decide_eq_false z]; rfl)
            obtain ⟨b0, r0, it, e4, e5⟩ := row_fst (g37.same st0) ((by decide +kernel : ∀ u ∈ (["set", "take", "copy", "load"] : List Str), u ∈ w1 ∨ u ∈ w2) _ e3)
            have hw7 := (by decide +kernel : ∀ u ∈ (["set", "take", "copy", "load"] : List Str), u ∈ w7) _ e3
            refine ⟨_, rfl, q', _, 1, _, rfl, rfl, SqT.of e5, at1 _ _ _, _, rfl, rfl, _, rfl, ?_⟩
            refine ite2 (fun e6 => ?_) (fun e6 => ?_)
            · have hb0 : ¬ b0 = b := fun z => by rw [decide_eq_true (show V.int b0 = V.int b by rw [z])] at e6; cases e6
              have hwf : wrF d b = false := by
                unfold wrF
                rw [Bool.and_eq_false_iff]
                exact .inr (decide_eq_false fun z => hb0 (by rw [e4] at z; simpa using z))
              refine ⟨_, rfl, _, rfl, _, rfl, lr, ds, x, d, rfl, hR.same s8, hd, p1, hne3, fun la ms G7 s9 nla hla hml hmm => ?_⟩
              refine ⟨l, la, _, _, rfl, rfl, s9 _ _ hl8, hla, small_len (by rw [nats_len, List.length_map]; omega), fun lx nx => ?_⟩
              obtain ⟨ks', ws', a1, a2, a3, a4, a5, a6, a7⟩ := goOn hwf lx ms _ (st0.trans (s9.trans (same_new nx))) upd_same ((st0.trans s9).free nx) hml hmm
              exact ⟨lx, ks', ws', _, _, rfl, a1, a2, a3, a4, a5, a6, a7⟩
            · have hb0 : b0 = b := Decidable.byContradiction fun z => e6 (by rw [decide_eq_false (show ¬ V.int b0 = V.int b from fun y => z (V.int.inj y))]; rfl)
              have hwf : wrF d b = true := by
                unfold wrF
                rw [decide_eq_true hw7, e4, hb0]
                simp
              refine ⟨l, ks ++ [x], ws0, _, _, rfl, hl0, nelp, s8, hl8, st0 _ _ hp7, ⟨nd', kin', fun y hy => wk.win y (by simp [hy]), fun y hy d' h1 => ?_, fun y hy hny => ?_, ?_, by simp; omega⟩, by simp; omega⟩
              · rcases List.mem_append.mp hy with z | z
                · refine ⟨(wk.ok y z d' h1).1, fun h2 s' h3 => ?_⟩
                  rcases (wk.ok y z d' h1).2 h2 s' h3 with w | w
                  · exact .inl (by simp [w])
                  · rcases List.mem_append.mp w with w | w
                    · exact .inr w
                    · exact .inl (by simp [List.mem_singleton.mp w])
                · have ey := List.mem_singleton.mp z
                  subst ey
                  rw [hd] at h1
                  cases h1
                  exact ⟨e2, fun h2 => by rw [hwf] at h2; cases h2⟩
              · rcases hy with hy | hy
                · rcases List.mem_append.mp hy with z | z
                  · exact wk.reach y (.inl z) hny
                  · exact wk.reach y (.inr (by simp [List.mem_singleton.mp z])) hny
                · exact wk.reach y (.inr (by simp [hy])) hny
              · rcases wk.start with z | z
                · exact .inl (by simp [z])
                · rcases List.mem_append.mp z with z | z
                  · exact .inr z
                  · exact .inl (by simp [List.mem_singleton.mp z])
    · have e : ws = [] := by
        cases ws with
        | nil => rfl
        | cons y t => exact absurd (by rw [Bool.true_xor, decide_eq_false (fun z => by cases Da.lst.inj z)]; rfl) e
      subst e
      have kk := k _ s4
      have hnb : needB ds b r = false := Bool.eq_false_iff.mpr fun z => wk.none (needB_iff.mp z)
      rw [hnb] at kk
      exact kk
end
end My


set_option Elab.async false
set_option linter.all false
set_option maxRecDepth 100000
set_option maxHeartbeats 4000000
namespace L2
open PySem PySem.Spec PyProof.Rows
/-! ### xs[::-1] of a list -/
theorem fm_range {α : Type} {f : Nat → Option α} {h : Nat → α} : ∀ (n : Nat), (∀ k, k < n → f k = some (h k)) → (List.range n).filterMap f = (List.range n).map h
  | 0, _ => rfl
  | n + 1, q => by
    rw [List.range_succ, List.filterMap_append, List.map_append, fm_range n (fun k hk => q k (by omega))]
    simp [q n (by omega)]
theorem pick_rev (its : List Value) : slicePick its.toArray none none (some (-1)) = its.reverse.toArray := by
  unfold slicePick
  congr 1
  have hb : sliceBounds none none (some (-1)) its.toArray.size = ((its.length : Int) - 1, -1, -1) := by
    simp [sliceBounds]
  rw [hb]
  have hr : sliceRange ((its.length : Int) - 1) (-1) (-1) = (List.range its.length).map fun k => its.length - 1 - k := by
    unfold sliceRange
    have hc : (if (-1 : Int) > 0 then if (its.length : Int) - 1 < -1 then (-1 - ((its.length : Int) - 1) + -1 - 1) / -1 else 0 else if (its.length : Int) - 1 > -1 then ((its.length : Int) - 1 - -1 - -1 - 1) / - -1 else 0).toNat = its.length := by
      rw [if_neg (by decide)]
      split
      · rw [show (- -1 : Int) = 1 by decide, Int.ediv_one]
        omega
      · omega
    simp only []
    rw [hc]
    refine List.map_congr_left fun k hk => ?_
    have := List.mem_range.mp hk
    omega
  simp only []
  rw [hr, List.filterMap_map]
  rcases its with _ | ⟨z, zs⟩
  · rfl
  · have q : ∀ k, k < (z :: zs).length → ((fun x => (z :: zs).toArray[x]?) ∘ fun k => (z :: zs).length - 1 - k) k = some ((z :: zs).reverse.getD k z) := fun k hk => by
      show (z :: zs).toArray[(z :: zs).length - 1 - k]? = _
      rw [List.getElem?_toArray]
      have h1 : (z :: zs).length - 1 - k < (z :: zs).length := by omega
      rw [List.getElem?_eq_getElem h1, List.getD_eq_getElem?_getD, List.getElem?_reverse hk, List.getElem?_eq_getElem h1]
      rfl
    rw [fm_range _ q]
    refine List.ext_getElem (by simp) fun i h1 h2 => ?_
    rw [List.getElem_map, List.getElem_range, List.getD_eq_getElem?_getD, List.getElem?_eq_getElem h2]
    rfl
theorem Vals_rev_aux {xs : List V} {its : List Value} (r : Vals xs its) : ∀ {ys : List V} {jts : List Value}, Vals ys jts → Vals (xs.reverseAux ys) (its.reverseAux jts) := by
  induction r with
  | nil => intro ys jts h; exact h
  | cons a _ ih => intro ys jts h; exact ih (.cons a h)
section
variable {X : Cx} {e st : Expr} {te : TE} {ts : TO} {pos p2 : Pos}
def tRev (K : PySem.W.Frag) (te : TE) (ts : TO) : TE := fun σ H Q => te σ H fun x H1 => ts σ H1 fun k H2 => k = some (-1) ∧ ∃ a xs, x = .ref a ∧ SqL K H2 a xs ∧ ∀ p, H2 p = none → Q (.ref p) (upd H2 p (.lst xs.reverse))
theorem pe_rev (he : PE X e te) (hs : PO X (some st) ts) : PE X (.Subscript e (.Slice none none (some st) p2) pos) (tRev X.K te ts) := by
  intro pins s σ H Q I h
  refine Subscript_ (thn (he pins s σ H _ I h) fun v s1 ⟨x, H1, I1, r1, q1⟩ => ?_)
  refine wpAny_Slice ?_
  rw [evalPart_none]
  refine wpAny_pure ?_
  refine wpAny_pure ?_
  refine thn (hs pins s1 σ H1 _ I1 q1) fun vs s3 ⟨u, H3, I3, pu, q3⟩ => ?_
  obtain ⟨rfl, a, xs, rfl, hx, q⟩ := q3
  cases r1
  have I4 : Inv X pins σ H3 { s3 with heap := s3.heap.push { cls := .type "slice", data := .fields #[.none, .none, vs] } } := I3.kept (t' := s3.toks) fun b ob q => Heap.get?_push_of_some _ q
  obtain ⟨its, r, ht, hz⟩ := I4.list hx
  have hlen := r.length
  show wpAny (model X.prog X.w) X.A (subscriptTail e (.Slice none none (some st) p2) (.ref a) (.ref s3.heap.objs.size)) (EP X pins σ Q) X.xe { s3 with heap := s3.heap.push { cls := .type "slice", data := .fields #[.none, .none, vs] } }
  refine tail_any (ops := [.ref a, .ref s3.heap.objs.size]) ht.isList.typeIs slot_list_getitem.lookup ?_ (by with_unfolding_all rfl)
  refine wpAny_getItem_list_slice ht.isList (Heap.IsSliceOf.new ..) .none .none pu (by simp) ?_ (by rw [List.size_toArray] <;> omega)
  rw [pick_rev]
  refine ⟨.ref _, _, I4.laid (t' := s3.toks) (o := .lst xs.reverse) (fun b ob q => Heap.get?_push_of_some _ q) (Nat.le_refl _) ?_, rfl, q _ (I4.hok.fresh (Nat.le_refl _))⟩
  exact ⟨by rw [List.length_reverse]; exact hz, _, 0, Vals_rev_aux r .nil, Heap.get?_push_size _ rfl⟩
end
end L2


set_option Elab.async false
set_option linter.all false
set_option maxRecDepth 100000
set_option maxHeartbeats 4000000
namespace My
open PySem L2
/-! ### plain rows: set and tell, and a stop behind them -/
def PlainD (d : FR) : Prop := d.ts = [] ∧ ((d.u = "set" ∧ ∃ b v : Int, d.is = [b, v] ∧ 0 ≤ b ∧ b ≤ 7) ∨ (d.u = "tell" ∧ ∃ b : Int, d.is = [b] ∧ 0 ≤ b ∧ b ≤ 7))
def stopD : FR := ⟨"stop", [], []⟩
def boxD (d : FR) : Int := d.is.headD 0
/-- which boxes are free ahead of a plain row, by those that are free behind it -/
def stepP (d : FR) (fr : List Int) : List Int := ([0, 1, 2, 3, 4, 5, 6, 7] : List Int).filter fun x => decide (x ∈ fr ∧ x ≠ boxD d) || decide (d.u = "set" ∧ x = boxD d)
def dueP : List FR → List (List Int)
  | [] => [[]]
  | d :: t => stepP d ((dueP t).headD []) :: dueP t
def Cbox (ms : List Int) : Prop := (∀ b ∈ ms, 0 ≤ b ∧ b ≤ 7) ∧ ms.Pairwise (· ≤ ·) ∧ ms.Nodup
theorem Cbox.len {ms : List Int} (h : Cbox ms) : ms.length ≤ 8 := by
  have := nodup_len (xs := [0, 1, 2, 3, 4, 5, 6, 7]) h.2.2 (fun j hj => by have := h.1 j hj; simp; omega)
  simpa using this
theorem Cbox.good {H : Hp} {ms : List Int} {q : Addr} (h : Cbox ms) (e : H q = some (.tup (ms.map V.int))) : GoodAt H (.ref q) ms := ⟨q, rfl, e, h.1, h.2.1, h.2.2, by have := h.len; omega⟩
theorem mem8 {b : Int} : b ∈ ([0, 1, 2, 3, 4, 5, 6, 7] : List Int) ↔ 0 ≤ b ∧ b ≤ 7 := by
  constructor
  · intro h
    simp at h
    omega
  · intro h
    have : b = 0 ∨ b = 1 ∨ b = 2 ∨ b = 3 ∨ b = 4 ∨ b = 5 ∨ b = 6 ∨ b = 7 := by omega
    simp
    exact this
theorem filt_box (p : Int → Bool) : Cbox (([0, 1, 2, 3, 4, 5, 6, 7] : List Int).filter p) := ⟨fun b hb => mem8.mp (List.mem_filter.mp hb).1, (show ([0, 1, 2, 3, 4, 5, 6, 7] : List Int).Pairwise (· ≤ ·) by decide).sublist List.filter_sublist, (show ([0, 1, 2, 3, 4, 5, 6, 7] : List Int).Nodup by decide).sublist List.filter_sublist⟩
theorem dueP_len : ∀ pl : List FR, (dueP pl).length = pl.length + 1
  | [] => rfl
  | d :: t => by rw [dueP, List.length_cons, dueP_len t, List.length_cons]
theorem dueP_box : ∀ (pl : List FR), ∀ c ∈ dueP pl, Cbox c
  | [], c, h => by
    rw [List.mem_singleton.mp h]
    exact ⟨by simp, by simp, by simp⟩
  | d :: t, c, h => by
    rcases List.mem_cons.mp h with rfl | h
    · exact filt_box _
    · exact dueP_box t c h
theorem dueP_ne (pl : List FR) : dueP pl ≠ [] := fun z => by have := dueP_len pl; rw [z] at this; simp at this
theorem head_box (pl : List FR) : Cbox ((dueP pl).headD []) := by
  cases e : dueP pl with
  | nil => exact absurd e (dueP_ne pl)
  | cons x t => exact dueP_box pl x (by rw [e]; simp)
theorem Cbox.eq {ms ns : List Int} (a : Cbox ms) (b : Cbox ns) (h : ∀ x, x ∈ ms ↔ x ∈ ns) : ms = ns := RisesTo.eq (p := fun x => x ∈ ms) ⟨a.2.1, a.2.2, fun _ => Iff.rfl⟩ ⟨b.2.1, b.2.2, fun x => (h x).symm⟩
theorem step_mem {d : FR} {fr : List Int} {x : Int} : x ∈ stepP d fr ↔ (0 ≤ x ∧ x ≤ 7) ∧ ((x ∈ fr ∧ x ≠ boxD d) ∨ (d.u = "set" ∧ x = boxD d)) := by
  unfold stepP
  rw [List.mem_filter, mem8, Bool.or_eq_true, decide_eq_true_iff, decide_eq_true_iff]
/-! what is needed -/
def NP : List FR → Int → Prop
  | [], _ => True
  | d :: t, b => (d.u = "set" ∧ b ≠ boxD d ∧ NP t b) ∨ (d.u = "tell" ∧ (b = boxD d ∨ NP t b))
theorem due_NP : ∀ (pl : List FR), (∀ d ∈ pl, PlainD d) → ∀ b : Int, 0 ≤ b → b ≤ 7 → (b ∈ (dueP pl).headD [] ↔ ¬ NP pl b)
  | [], _, b, _, _ => by simp [dueP, NP]
  | d :: t, h, b, h0, h7 => by
    have ih := due_NP t (fun x hx => h x (by simp [hx])) b h0 h7
    show b ∈ stepP d ((dueP t).headD []) ↔ ¬ NP (d :: t) b
    rw [step_mem, ih]
    obtain ⟨_, hd⟩ := h d (by simp)
    show ((0 ≤ b ∧ b ≤ 7) ∧ ((¬ NP t b ∧ b ≠ boxD d) ∨ (d.u = "set" ∧ b = boxD d))) ↔ ¬ ((d.u = "set" ∧ b ≠ boxD d ∧ NP t b) ∨ (d.u = "tell" ∧ (b = boxD d ∨ NP t b)))
    have e8 : (0 ≤ b ∧ b ≤ 7) = True := eq_true ⟨h0, h7⟩
    rw [e8, true_and]
    clear e8 ih h0 h7
    rcases hd with ⟨hu, _⟩ | ⟨hu, _⟩
    · have e1 : (d.u = "set") = True := eq_true hu
      have e2 : (d.u = "tell") = False := eq_false (by rw [hu]; decide)
      rw [e1, e2]
      generalize NP t b = N
      by_cases hb : b = boxD d <;> by_cases hN : N <;> simp [hb, hN]
    · have e1 : (d.u = "set") = False := eq_false (by rw [hu]; decide)
      have e2 : (d.u = "tell") = True := eq_true hu
      rw [e1, e2]
      generalize NP t b = N
      by_cases hb : b = boxD d <;> by_cases hN : N <;> simp [hb, hN]
theorem due_drop : ∀ (pl : List FR) (j : Nat) c, (dueP pl)[j]? = some c → c = (dueP (pl.drop j)).headD []
  | pl, 0, c, h => by
    rw [List.drop_zero]
    cases e : dueP pl with
    | nil => exact absurd e (dueP_ne pl)
    | cons x t => rw [e] at h; simp at h; rw [h]; rfl
  | [], j + 1, c, h => by simp [dueP] at h
  | d :: t, j + 1, c, h => by
    rw [List.drop_succ_cons]
    exact due_drop t j c (by rw [dueP] at h; simpa using h)
section
variable {ds pl : List FR}
theorem full_at (r : Nat) (h : r < ds.length) : (ds ++ (pl ++ [stopD]))[r]? = ds[r]? := List.getElem?_append_left h
theorem full_pl (j : Nat) (h : j < pl.length) : (ds ++ (pl ++ [stopD]))[ds.length + j]? = pl[j]? := by
  rw [List.getElem?_append_right (by omega), show ds.length + j - ds.length = j by omega, List.getElem?_append_left h]
theorem full_end : (ds ++ (pl ++ [stopD]))[ds.length + pl.length]? = some stopD := by
  rw [List.getElem?_append_right (by omega), show ds.length + pl.length - ds.length = pl.length by omega]
  simp
theorem needs_old (hP : ProgF ds) {b : Int} {r : Nat} (hr : r < ds.length) : NeedsR (ds ++ (pl ++ [stopD])) b r ↔ NeedsR ds b r := by
  constructor
  · intro h
    induction h with
    | now h1 h2 => rw [full_at _ hr] at h1; exact .now h1 h2
    | @later r s d h1 h2 h3 _ ih =>
      rw [full_at _ hr] at h1
      have := (hP r d h1).2 _ h3
      exact .later h1 h2 h3 (ih (by omega))
  · intro h
    clear hr
    induction h with
    | now h1 h2 => exact .now (by rw [full_at _ (List.getElem?_eq_some_iff.mp h1).1]; exact h1) h2
    | later h1 h2 h3 _ ih => exact .later (by rw [full_at _ (List.getElem?_eq_some_iff.mp h1).1]; exact h1) h2 h3 ih
theorem plain_ahd {d : FR} (h : PlainD d) (r : Nat) : ahd d r = [(r : Int) + 1] := by
  unfold ahd
  rw [h.1, if_neg]
  · rfl
  · rcases h.2 with ⟨z, _⟩ | ⟨z, _⟩ <;> rw [z] <;> decide
theorem plain_need {d : FR} (h : PlainD d) (b : Int) : needF d b = decide (d.u = "tell" ∧ b = boxD d) ∧ wrF d b = decide (d.u = "set" ∧ b = boxD d) := by
  obtain ⟨u, is, ts⟩ := d
  rcases h.2 with ⟨hu, c, v, e, _⟩ | ⟨hu, c, e, _⟩
  · have hu : u = "set" := hu
    have e : is = [c, v] := e
    subst hu e
    refine ⟨?_, ?_⟩
    · unfold needF boxD
      rw [decide_eq_false (by decide : ¬ ("set" : Str) ∈ ends3), decide_eq_false (by decide : ¬ ("set" : Str) ∈ fA), decide_eq_false (by decide : ¬ ("set" : Str) ∈ fB), decide_eq_false (by decide : ¬ ("set" : Str) ∈ fC)]
      simp only [Bool.false_or, Bool.false_and]
      exact (decide_eq_false (fun z => absurd z.1 (by decide : ¬ ("set" : Str) = "tell"))).symm
    · unfold wrF boxD
      rw [decide_eq_true (by decide : ("set" : Str) ∈ w7), Bool.true_and]
      refine decide_eq_decide.mpr ?_
      simp [eq_comm]
  · have hu : u = "tell" := hu
    have e : is = [c] := e
    subst hu e
    refine ⟨?_, ?_⟩
    · unfold needF boxD
      rw [decide_eq_false (by decide : ¬ ("tell" : Str) ∈ ends3), decide_eq_false (by decide : ¬ ("tell" : Str) ∈ fA), decide_eq_false (by decide : ¬ ("tell" : Str) ∈ fB), decide_eq_true (by decide : ("tell" : Str) ∈ fC)]
      simp only [Bool.false_or, Bool.false_and, Bool.true_and]
      refine decide_eq_decide.mpr ?_
      simp [eq_comm]
    · unfold wrF
      rw [decide_eq_false (by decide : ¬ ("tell" : Str) ∈ w7), Bool.false_and]
      exact (decide_eq_false (fun z => absurd z.1 (by decide : ¬ ("tell" : Str) = "set"))).symm
theorem needs_new (hpl : ∀ d ∈ pl, PlainD d) {b : Int} : ∀ (k j : Nat), pl.length - j = k → j ≤ pl.length → (NeedsR (ds ++ (pl ++ [stopD])) b (ds.length + j) ↔ NP (pl.drop j) b)
  | 0, j, hk, hj => by
    have e : j = pl.length := by omega
    subst e
    rw [List.drop_length]
    exact ⟨fun _ => trivial, fun _ => .now full_end (by unfold needF; rw [decide_eq_true (by decide : stopD.u ∈ ends3)]; rfl)⟩
  | k + 1, j, hk, hj => by
    have hjl : j < pl.length := by omega
    have ih := needs_new hpl (b := b) k (j + 1) (by omega) (by omega)
    have hd : pl[j]? = some pl[j] := List.getElem?_eq_getElem hjl
    have hp := hpl pl[j] (List.getElem_mem hjl)
    have hf : (ds ++ (pl ++ [stopD]))[ds.length + j]? = some pl[j] := (full_pl j hjl).trans hd
    rw [List.drop_eq_getElem_cons hjl]
    generalize pl[j] = d at hd hp hf
    obtain ⟨hn, hw⟩ := plain_need hp b
    have ha := plain_ahd hp (ds.length + j)
    show _ ↔ (d.u = "set" ∧ b ≠ boxD d ∧ NP (pl.drop (j + 1)) b) ∨ (d.u = "tell" ∧ (b = boxD d ∨ NP (pl.drop (j + 1)) b))
    rw [← ih]
    have hsucc : ((ds.length + j : Nat) : Int) + 1 = ((ds.length + (j + 1) : Nat) : Int) := by omega
    have excl : d.u = "set" ∨ d.u = "tell" := hp.2.imp (·.1) (·.1)
    constructor
    · intro h
      cases h with
      | now h1 h2 =>
        rw [hf] at h1
        cases h1
        rw [hn] at h2
        exact .inr ⟨(of_decide_eq_true h2).1, .inl (of_decide_eq_true h2).2⟩
      | @later _ s _ h1 h2 h3 h4 =>
        rw [hf] at h1
        cases h1
        rw [ha, List.mem_singleton, hsucc] at h3
        have es : s = ds.length + (j + 1) := by omega
        rw [es] at h4
        rw [hw] at h2
        rcases excl with e | e
        · exact .inl ⟨e, fun z => (of_decide_eq_false h2) ⟨e, z⟩, h4⟩
        · exact .inr ⟨e, .inr h4⟩
    · have lat : wrF d b = false → NeedsR (ds ++ (pl ++ [stopD])) b (ds.length + (j + 1)) → NeedsR (ds ++ (pl ++ [stopD])) b (ds.length + j) := fun h1 h2 => .later hf h1 (by rw [ha, hsucc]; simp) h2
      rintro (⟨e, h1, h2⟩ | ⟨e, h1 | h1⟩)
      · exact lat (by rw [hw]; exact decide_eq_false fun z => h1 z.2) h2
      · exact .now hf (by rw [hn]; exact decide_eq_true ⟨e, h1⟩)
      · exact lat (by rw [hw]; exact decide_eq_false fun z => by rw [e] at z; exact absurd z.1 (by decide)) h1
theorem free_full (hP : ProgF ds) (hpl : ∀ d ∈ pl, PlainD d) : freeCl (ds ++ (pl ++ [stopD])) = freeCl ds ++ dueP pl := by
  have hlen : (ds ++ (pl ++ [stopD])).length = ds.length + (pl.length + 1) := by simp
  refine List.ext_getElem? fun r => ?_
  by_cases h1 : r < ds.length
  · rw [free_at (by rw [hlen]; omega), List.getElem?_append_left (by rw [free_len]; exact h1), free_at h1]
    refine congrArg some (Cbox.eq ⟨(free_good _ _).1, (free_good _ _).2.1, (free_good _ _).2.2.1⟩ ⟨(free_good _ _).1, (free_good _ _).2.1, (free_good _ _).2.2.1⟩ fun x => ?_)
    rw [free_mem, free_mem, needs_old hP h1]
  · by_cases h2 : r < ds.length + (pl.length + 1)
    · obtain ⟨j, rfl⟩ : ∃ j, r = ds.length + j := ⟨r - ds.length, by omega⟩
      rw [free_at (by rw [hlen]; exact h2), List.getElem?_append_right (by rw [free_len]; omega), free_len, show ds.length + j - ds.length = j by omega]
      have hj : (dueP pl)[j]? = some ((dueP pl)[j]'(by rw [dueP_len]; omega)) := List.getElem?_eq_getElem _
      generalize (dueP pl)[j]'(by rw [dueP_len]; omega) = c at hj
      rw [hj]
      have hc := due_drop pl j c hj
      refine congrArg some (Cbox.eq ⟨(free_good _ _).1, (free_good _ _).2.1, (free_good _ _).2.2.1⟩ (dueP_box pl c (List.mem_of_getElem? hj)) fun x => ?_)
      rw [free_mem, needs_new hpl _ j rfl (by omega)]
      constructor
      · rintro ⟨⟨a, b⟩, z⟩
        rw [hc]
        exact (due_NP _ (fun d hd => hpl d (List.mem_of_mem_drop hd)) x a b).mpr z
      · intro z
        have hb := (dueP_box pl c (List.mem_of_getElem? hj)).1 x z
        rw [hc] at z
        exact ⟨hb, (due_NP _ (fun d hd => hpl d (List.mem_of_mem_drop hd)) x hb.1 hb.2).mp z⟩
    · rw [List.getElem?_eq_none (by rw [free_len, hlen]; omega), List.getElem?_eq_none (by rw [List.length_append, free_len, dueP_len]; omega)]
theorem prog_full (hP : ProgF ds) (hpl : ∀ d ∈ pl, PlainD d) : ProgF (ds ++ (pl ++ [stopD])) := fun r d hd => by
  have hlen : (ds ++ (pl ++ [stopD])).length = ds.length + (pl.length + 1) := by simp
  by_cases h1 : r < ds.length
  · rw [full_at r h1] at hd
    obtain ⟨a, b⟩ := hP r d hd
    exact ⟨a, fun s hs => ⟨(b s hs).1, by have := (b s hs).2; rw [hlen]; omega⟩⟩
  · obtain ⟨j, rfl⟩ : ∃ j, r = ds.length + j := ⟨r - ds.length, by omega⟩
    by_cases h2 : j < pl.length
    · rw [full_pl j h2] at hd
      have hp := hpl d (List.mem_of_getElem? hd)
      rw [plain_ahd hp, hp.1]
      refine ⟨by simp, fun s hs => ?_⟩
      rw [List.mem_singleton.mp hs, hlen]
      omega
    · have hr := (List.getElem?_eq_some_iff.mp hd).1
      rw [hlen] at hr
      have ej : j = pl.length := by omega
      subst ej
      rw [full_end] at hd
      cases hd
      exact ⟨by simp [stopD], fun s hs => by simp [ahd, stopD, notOn] at hs⟩
end
theorem plain_row {H : Hp} {q : Addr} {d : FR} (h : RowF H q d) (hp : PlainD d) : ∃ items, H q = some (.tup (.str d.u :: .int (boxD d) :: items)) := by
  obtain ⟨u, is, ts⟩ := d
  rcases h.2 with ⟨z, _⟩ | ⟨_, e⟩
  · rcases hp.2 with ⟨y, _⟩ | ⟨y, _⟩ <;> rw [y] at z <;> exact absurd z (by decide)
  · rcases hp.2 with ⟨_, b, v, e2, _⟩ | ⟨_, b, e2, _⟩
    · have e2 : is = [b, v] := e2
      subst e2
      exact ⟨_, e⟩
    · have e2 : is = [b] := e2
      subst e2
      exact ⟨_, e⟩
section
variable {P : Program} {w : World} {K : PySem.W.Frag} {mg : Str → Option Value} {base : Heap}
/-! ### _law_plain -/
def spPlain : Sp := fun vs H Q _ => ∃ c : Int, vs = [.int c] ∧ ∀ (l : Addr) (pl : List FR) (H' : Hp), Same H H' → H l = none → RowsF H' l (pl ++ [stopD]) → (∀ d ∈ pl, PlainD d) → pl.length = 1000 → Q (.ref l) H'
theorem scPl : FnScope ["_law_first", "_law_rows", "_law_k"] ["_law_first"] (defScope sPlain) := ⟨rfl, rfl, rfl, by decide +kernel, rfl, by decide +kernel, by decide +kernel⟩
theorem ok_plain {f : Addr} {fd : FuncData} (F : Fun K "_law_plain" "_law_plain" sPlain f fd) (T : Txt K w.params mg) : FnOk P w K mg base CX0 1 f fd ["_law_first"] spPlain := by
  refine F.ok scPl (fun vs H Q E h => ?_) (fun cdv A outer s H vs Q E hr h => ?_)
  · obtain ⟨c, rfl, _⟩ := h
    rfl
  · obtain ⟨c, rfl, k⟩ := h
    refine wrapX (pssx_cons (psx_of (ps_set (i := 1) scPl.nd rfl (Or.inl rfl) (pe_lst pa_nil)))
      (pssx_cons (psx_of (ps_for PassesOwn.never rfl (pi_range1 rfl T.range (pa_cons pe_int pa_nil)) (pg_name (i := 2) scPl.nd rfl (Or.inl rfl)) (pss_cons (ps_expr (pe_bm PySem.F.plainAttrs_list PySem.F.slot_list_append PySem.F.type_list_append mt_append (pv 1) (pa_cons (pe_tup (pa_cons pe_str (pa_cons (pe_op op_mod (pe_op op_add (pv 0) (pv 2)) pe_int) (pa_cons (pv 2) pa_nil)))) pa_nil)))
      (pss_one (ps_expr (pe_bm PySem.F.plainAttrs_list PySem.F.slot_list_append PySem.F.type_list_append mt_append (pv 1) (pa_cons (pe_tup (pa_cons pe_str (pa_cons (pe_op op_mod (pe_op op_add (pe_op op_fdivB (pv 0) pe_int) (pe_op op_mul pe_int (pv 2))) pe_int) pa_nil))) pa_nil)))))))
      (pssx_one (psx_of (ps_ret (pe_op op_cat (pv 1) (pe_lst (pa_cons (pe_tup (pa_cons pe_str pa_nil)) pa_nil)))))))) ?_
    refine ⟨Nat.le_of_ble_eq_true rfl, fun l nl => ?_⟩
    have s0 := same_new (o := .lst []) nl
    have h0 : upd H l (.lst []) l = _ := upd_same
    generalize upd H l (.lst []) = G0 at s0 h0 ⊢
    refine ⟨500, rfl, by decide, by decide, ?_⟩
    refine for_range (lo := 0) (n := 500) (fun i σ G => ∃ (v : Option V) (qs : List Addr) (pl : List FR), σ = [some (.int c), some (.ref l), v] ∧ Same H G ∧ G l = some (.lst (qs.map V.ref)) ∧ RowsN G qs pl 0 ∧ (∀ d ∈ pl, PlainD d) ∧ pl.length = 2 * i) ?_ ?_ ?_
    · exact ⟨none, [], [], rfl, s0, h0, .nil, fun d h => (List.not_mem_nil h).elim, rfl⟩
    · rintro i σ G hi ⟨v, qs, pl, rfl, s1, h1, hN, hp, hl⟩
      have e0 : (0 : Int) + (i : Int) = (i : Int) := by omega
      rw [e0]
      have ql : qs.length = 2 * i := by rw [hN.1, hl]
      refine ⟨_, rfl, .inl ⟨rfl, _, SqL.of h1⟩, _, rfl, _, rfl, _, _, rfl, rfl, _, _, rfl, rfl, (by show (0 : Int) < 8; decide), _, rfl, (by show 3 ≤ sizeLine; decide), fun q1 m1 => ?_⟩
      have hb1 : 0 ≤ (c + (i : Int)) % 8 ∧ (c + (i : Int)) % 8 < 8 := ⟨Int.emod_nonneg _ (by decide), Int.emod_lt_of_pos _ (by decide)⟩
      have sa := same_new (o := .tup [V.str "set", V.int ((c + (i : Int)) % 8), V.int (i : Int)]) m1
      have ha : upd G q1 (.tup [V.str "set", V.int ((c + (i : Int)) % 8), V.int (i : Int)]) q1 = _ := upd_same
      generalize hGa : upd G q1 (.tup [V.str "set", V.int ((c + (i : Int)) % 8), V.int (i : Int)]) = Ga at sa ha ⊢
      have r1 : RowF Ga q1 ⟨"set", [(c + (i : Int)) % 8, (i : Int)], []⟩ := row_two (by decide) ha
      refine ⟨l, _, _, rfl, rfl, sa _ _ h1, small_lt (by rw [List.length_map]; omega), ?_⟩
      have st1 : SameT Ga (upd Ga l (.lst (qs.map V.ref ++ [V.ref q1]))) := SameT.put (sa _ _ h1)
      have h2 : upd Ga l (.lst (qs.map V.ref ++ [V.ref q1])) l = some (.lst ((qs ++ [q1]).map V.ref)) := by rw [upd_same]; simp
      have s2 : Same H (upd Ga l (.lst (qs.map V.ref ++ [V.ref q1]))) := same_put (s1.trans sa) nl
      have hN2 := ((hN.same sa).tups st1).snoc (r1.tups st1) (by simp) (by simp)
      generalize upd Ga l (.lst (qs.map V.ref ++ [V.ref q1])) = Gb at h2 s2 hN2 ⊢
      clear hGa st1 r1 ha sa hN h1
      refine ⟨_, rfl, .inl ⟨rfl, _, SqL.of h2⟩, _, rfl, _, _, rfl, rfl, ⟨by show (0 : Int) < 8; decide, by show (8 : Int) < _; decide⟩, _, rfl, _, _, rfl, rfl, .inl ⟨by decide, by decide⟩, _, _, rfl, rfl, _, _, rfl, rfl, (by show (0 : Int) < 8; decide), (by show 2 ≤ sizeLine; decide), fun q2 m2 => ?_⟩
      have hb2 : 0 ≤ (c / 8 + 3 * (i : Int)) % 8 ∧ (c / 8 + 3 * (i : Int)) % 8 < 8 := ⟨Int.emod_nonneg _ (by decide), Int.emod_lt_of_pos _ (by decide)⟩
      have sc := same_new (o := .tup [V.str "tell", V.int ((c / 8 + 3 * (i : Int)) % 8)]) m2
      have hc : upd Gb q2 (.tup [V.str "tell", V.int ((c / 8 + 3 * (i : Int)) % 8)]) q2 = _ := upd_same
      generalize hGc : upd Gb q2 (.tup [V.str "tell", V.int ((c / 8 + 3 * (i : Int)) % 8)]) = Gc at sc hc ⊢
      have r2 : RowF Gc q2 ⟨"tell", [(c / 8 + 3 * (i : Int)) % 8], []⟩ := row_one (by decide) hc
      refine ⟨l, _, _, rfl, rfl, sc _ _ h2, small_lt (by rw [List.length_map, List.length_append]; simp; omega), ?_⟩
      have st2 : SameT Gc (upd Gc l (.lst ((qs ++ [q1]).map V.ref ++ [V.ref q2]))) := SameT.put (sc _ _ h2)
      refine ⟨_, qs ++ [q1] ++ [q2], pl ++ [⟨"set", [(c + (i : Int)) % 8, (i : Int)], []⟩] ++ [⟨"tell", [(c / 8 + 3 * (i : Int)) % 8], []⟩], rfl, same_put (s2.trans sc) nl, by rw [upd_same]; simp, ((hN2.same sc).tups st2).snoc (r2.tups st2) (by simp) (by simp), fun d hd => ?_, by simp [hl]; omega⟩
      rcases List.mem_append.mp hd with hd | hd
      · rcases List.mem_append.mp hd with hd | hd
        · exact hp d hd
        · rw [List.mem_singleton.mp hd]
          exact ⟨rfl, .inl ⟨rfl, _, _, rfl, hb1.1, by omega⟩⟩
      · rw [List.mem_singleton.mp hd]
        exact ⟨rfl, .inr ⟨rfl, _, rfl, hb2.1, by omega⟩⟩
    · rintro σ G ⟨v, qs, pl, rfl, s1, h1, hN, hp, hl⟩
      refine ⟨_, rfl, (by show 1 ≤ sizeLine; decide), fun q m => ?_⟩
      have s2 := same_new (o := .tup [V.str "stop"]) m
      have h2 : upd G q (.tup [V.str "stop"]) q = _ := upd_same
      generalize upd G q (.tup [V.str "stop"]) = G2 at s2 h2 ⊢
      refine ⟨(by show 1 ≤ sizeLine; decide), fun lq mq => ?_⟩
      have s3 := s2.trans (same_new (o := .lst [V.ref q]) mq)
      have h3 : upd G2 lq (.lst [V.ref q]) lq = _ := upd_same
      have h32 := same_new (o := .lst [V.ref q]) mq _ _ h2
      generalize upd G2 lq (.lst [V.ref q]) = G3 at s3 h3 h32 ⊢
      have ql : qs.length = 1000 := by rw [hN.1, hl]
      refine ⟨l, lq, _, _, rfl, rfl, s3 _ _ h1, h3, small_len (by rw [List.length_map]; simp; omega), fun lx nx => ?_⟩
      have s4 := s3.trans (same_new (o := .lst (qs.map V.ref ++ [V.ref q])) nx)
      have hN4 := (hN.same s4).snoc (d := stopD) (row_no (by decide) (same_new nx _ _ h32)) (by simp [stopD]) (by simp [stopD])
      refine k lx pl _ (s1.trans s4) ((s1.trans s3).free nx) ⟨qs ++ [q], by rw [upd_same]; simp, hN4.1, fun i q d g1 g2 => (hN4.2 i q d g1 g2).1⟩ hp (by omega)
end
end My


set_option Elab.async false
set_option linter.all false
set_option maxRecDepth 100000
set_option maxHeartbeats 4000000
namespace My
open PySem L2
theorem rev_get {α : Type} {xs : List α} {i : Nat} {x : α} (hi : i < xs.length) (h : xs[xs.length - 1 - i]? = some x) : xs.drop (xs.length - (i + 1)) = x :: xs.drop (xs.length - i) := by
  have e : xs.length - (i + 1) = xs.length - 1 - i := by omega
  have hl : xs.length - 1 - i < xs.length := by omega
  rw [e, List.drop_eq_getElem_cons hl]
  have h2 := (List.getElem?_eq_some_iff.mp h).2
  rw [h2, show xs.length - 1 - i + 1 = xs.length - i by omega]
def rIsi (K : PySem.W.Frag) : List V → Hp → VK → Prop := fun xs H Q => ∃ (x : V) (n : String) (t : Value) (b : Bool), xs = [x, .ty n] ∧ TyOf K H x t ∧ PySem.W.kitOne K t (.type n) = some b ∧ Q (.bl b) H
section
variable {P : Program} {w : World} {K : PySem.W.Frag} {mg : Str → Option Value} {base : Heap}
/-! ### _law_plain_due -/
def spPlainDue : Sp := fun vs H Q _ => ∃ (lr : Addr) (pl : List FR), vs = [.ref lr] ∧ RowsF H lr (pl ++ [stopD]) ∧ (∀ d ∈ pl, PlainD d) ∧ pl.length ≤ 2000 ∧ ∀ (l : Addr) (H' : Hp), Same H H' → H l = none → ClaimsF H' l (dueP pl) → Q (.ref l) H'
theorem scPd : FnScope ["_law_rows", "_law_free", "_law_found", "_law_row_here"] ["_law_rows"] (defScope sPlainDue) := ⟨rfl, rfl, rfl, by decide +kernel, rfl, by decide +kernel, by decide +kernel⟩
def csPdC1 : Scope := { kind := .function, names := [(".0", .local), ("_law_box", .local), ("_law_row_here", .free)], isGenerator := false, isCoroutine := false, more := [] }
theorem scPdC1 : CompSc (defScope sPlainDue) csPdC1 ["_law_rows", "_law_free", "_law_found", "_law_row_here"] ["_law_box", "_law_row_here"] [none, some 3] := ⟨rfl, by decide +kernel, by decide +kernel, by decide +kernel, by decide +kernel, by decide +kernel⟩
theorem ok_plaindue {f : Addr} {fd : FuncData} (F : Fun K "_law_plain_due" "_law_plain_due" sPlainDue f fd) (T : Txt K w.params mg) : FnOk P w K mg base CX0 1 f fd ["_law_rows"] spPlainDue := by
  refine F.ok scPd (fun vs H Q E h => ?_) (fun cdv A outer s H vs Q E hr h => ?_)
  · obtain ⟨lr, pl, rfl, _⟩ := h
    rfl
  · obtain ⟨lr, pl, rfl, hR, hpl, hn, k⟩ := h
    refine wrapX (pssx_cons (psx_of (ps_set (i := 1) scPd.nd rfl (Or.inl rfl) (pe_lst pa_nil)))
      (pssx_cons (psx_of (ps_set (i := 2) scPd.nd rfl (Or.inl rfl) (pe_lst (pa_cons (pe_tup pa_nil) pa_nil))))
      (pssx_cons (psx_of (ps_for PassesOwn.never rfl (pi_rev rfl T.rev (pa_cons (pe_slice sl_list (pv 0) po_none (po_some (pe_un un_neg pe_int))) pa_nil)) (pg_name (i := 3) scPd.nd rfl (Or.inr rfl)) (pss_cons (ps_comp (i := 1) (N' := ["_law_box", "_law_row_here"]) (fr := [none, some 3]) scPd.nd rfl rfl scPdC1 rfl (pi_list (pv 1)) (fun C s0 H0 fp => (pg_name (i := 0) scPdC1.nd rfl (Or.inl rfl))) (fun C s0 H0 fp => (pts_one (pt_cmpR op_ne (pv 0) (pe_ix (r := rIxT K) ix_tup (pv 1) pe_int (fun _ _ => rfl)) (nomark _)))) (fun C s0 H0 fp => (pv 0)))
      (pss_mid (ps_if (pt_cmpR op_eq (pe_ix ix_tup (pv 3) pe_int (fun _ _ => rfl)) pe_str (nomark _)) (pss_one (ps_set (i := 1) scPd.nd rfl (Or.inl rfl) (pe_callB call_sorted_l (by rfl) T.sorted bt_sorted (pa_cons (pe_op op_cat (pv 1) (pe_lst (pa_cons (pe_ix ix_tup (pv 3) pe_int (fun _ _ => rfl)) pa_nil))) pa_nil)))) pss_nil)
      (pss_one (ps_expr (pe_bm PySem.F.plainAttrs_list PySem.F.slot_list_append PySem.F.type_list_append mt_append (pv 2) (pa_cons (pe_callTy call_tuple_of (by rfl) T.tuple bt_tuple (pa_cons (pv 1) pa_nil)) pa_nil))))))))
      (pssx_one (psx_of (ps_ret (pe_rev (pv 2) (po_some (pe_un un_neg pe_int))))))))) ?_
    obtain ⟨qs, r1, r2, r3⟩ := hR
    have hql : qs.length = pl.length + 1 := by rw [r2]; simp
    refine ⟨Nat.le_of_ble_eq_true rfl, fun lf0 nf0 => ?_⟩
    have s1 := same_new (o := .lst []) nf0
    have h1 : upd H lf0 (.lst []) lf0 = some (.lst (([] : List Int).map V.int)) := upd_same
    generalize upd H lf0 (.lst []) = G1 at s1 h1 ⊢
    refine ⟨Nat.le_of_ble_eq_true rfl, fun te ne => ?_⟩
    have s2 := s1.trans (same_new (o := .tup []) ne)
    have h12 := same_new (o := .tup []) ne _ _ h1
    have he : upd G1 te (.tup []) te = some (.tup (([] : List Int).map V.int)) := upd_same
    generalize upd G1 te (.tup []) = G2 at s2 h12 he ⊢
    refine ⟨(by show 1 ≤ sizeLine; decide), fun lo no => ?_⟩
    have hlo0 : H lo = none := s2.free no
    have s3 := s2.trans (same_new (o := .lst [V.ref te]) no)
    have h13 := same_new (o := .lst [V.ref te]) no _ _ h12
    have he3 := same_new (o := .lst [V.ref te]) no _ _ he
    have hlo : upd G2 lo (.lst [V.ref te]) lo = _ := upd_same
    generalize upd G2 lo (.lst [V.ref te]) = G3 at s3 h13 he3 hlo ⊢
    -- all but the last
    obtain ⟨qs0, q9, rfl⟩ : ∃ ys x, qs = ys ++ [x] := ⟨_, _, (List.dropLast_concat_getLast (fun z => by rw [z] at hql; simp at hql)).symm⟩
    have hq0 : qs0.length = pl.length := by simp at hql; exact hql
    have ec : cutV ((qs0 ++ [q9]).map V.ref) none (some (-1)) = qs0.map V.ref := by
      have h1 : HT.sIx ((qs0 ++ [q9]).map V.ref).length 0 none = 0 := rfl
      have h2 : HT.sIx ((qs0 ++ [q9]).map V.ref).length ((qs0 ++ [q9]).map V.ref).length (some (-1)) = qs0.length := by
        rw [List.length_map, List.length_append, List.length_singleton]
        unfold HT.sIx
        simp
        try omega
      unfold cutV
      rw [h1, h2, List.drop_zero, Nat.sub_zero, List.map_append]
      simp
    refine ⟨_, rfl, 1, rfl, -1, rfl, lr, _, rfl, SqL.of (s3 _ _ r1), fun lc nc => ?_⟩
    have ec' : cutV ((qs0 ++ [q9]).map V.ref) none (some (-1)) = qs0.map V.ref := ec
    rw [ec']
    have s4 := s3.trans (same_new (o := .lst (qs0.map V.ref)) nc)
    have h14 := same_new (o := .lst (qs0.map V.ref)) nc _ _ h13
    have he4 := same_new (o := .lst (qs0.map V.ref)) nc _ _ he3
    have hlo4 := same_new (o := .lst (qs0.map V.ref)) nc _ _ hlo
    have hlc : upd G3 lc (.lst (qs0.map V.ref)) lc = _ := upd_same
    have neo : lo ≠ lc := fun z => by rw [z] at hlo; rw [hlo] at nc; cases nc
    generalize upd G3 lc (.lst (qs0.map V.ref)) = G4 at s4 h14 he4 hlo4 hlc ⊢
    have rowAt : ∀ (j : Nat) q, qs0[j]? = some q → ∃ d, pl[j]? = some d ∧ RowF H q d ∧ PlainD d := fun j q hq => by
      have hj := (List.getElem?_eq_some_iff.mp hq).1
      have hd : pl[j]? = some (pl[j]'(by omega)) := List.getElem?_eq_getElem _
      exact ⟨_, hd, r3 j q _ (by rw [List.getElem?_append_left hj]; exact hq) (by rw [List.getElem?_append_left (by omega)]; exact hd), hpl _ (List.mem_of_getElem? hd)⟩
    refine ⟨lc, _, rfl, SqL.of hlc, ?_⟩
    refine for_rev (K := K) (a := lc) (xs := qs0.map V.ref) (fun i σ G => ∃ (lf : Addr) (ts : List Addr) (v3 : Option V), σ = [some (.ref lr), some (.ref lf), some (.ref lo), v3] ∧ Same H G ∧ G lc = some (.lst (qs0.map V.ref)) ∧ G lf = some (.lst (((dueP (pl.drop (pl.length - i))).headD []).map V.int)) ∧ G lo = some (.lst (ts.map V.ref)) ∧ ts.length = i + 1 ∧ ∀ (j : Nat) t c, ts[j]? = some t → (dueP (pl.drop (pl.length - i))).reverse[j]? = some c → G t = some (.tup (c.map V.int))) ?_ ?_ ?_ ?_
    · refine ⟨lf0, [te], none, rfl, s4, hlc, ?_, hlo4, rfl, fun j t c g1 g2 => ?_⟩
      · rw [Nat.sub_zero, List.drop_length]
        exact h14
      · rw [Nat.sub_zero, List.drop_length] at g2
        match j, g1, g2 with
        | 0, g1, g2 => cases g1; cases g2; exact he4
    · rintro i σ G _ ⟨lf, ts, v3, rfl, _, h, _⟩
      exact SqL.of h
    · rintro i x σ G hi hx ⟨lf, ts, v3, rfl, s5, hlc5, hlf5, hlo5, hts, hg⟩
      rw [List.length_map] at hi
      rw [List.length_map, List.getElem?_map] at hx
      obtain ⟨q, hq, rfl⟩ := Option.map_eq_some_iff.mp hx
      obtain ⟨d, hd, hrow, hp⟩ := rowAt _ q hq
      rw [hq0] at hd hi
      have hsuf := rev_get hi hd
      obtain ⟨suf, hsu⟩ : ∃ suf, suf = pl.drop (pl.length - i) := ⟨_, rfl⟩
      rw [← hsu] at hsuf hlf5 hg
      obtain ⟨items, hit⟩ := plain_row (hrow.same s5) hp
      have hb0 := head_box suf
      generalize efr : (dueP suf).headD [] = fr at hlf5 hb0
      -- the others that are free
      refine ⟨_, rfl, lf, rfl, ⟨_, SqL.of hlf5⟩, fun D nD => comp_list (K := K) (a := lf) (xs := fr.map V.int) (fun j σ ys G5 => ∃ v : Option V, σ = [v, some (.ref q)] ∧ ys = ((fr.take j).filter fun x => decide (x ≠ boxD d)).map V.int ∧ Same G G5 ∧ G5 D = some (.lst ys)) ?_ ?_ ?_ ?_⟩
      · exact ⟨none, rfl, rfl, same_new nD, upd_same⟩
      · rintro j σ ys G5 _ ⟨v, rfl, rfl, s6, _⟩
        exact SqL.of (s6 _ _ hlf5)
      · rintro j x σ ys G5 hx ⟨v, rfl, rfl, s6, hD⟩
        rw [List.getElem?_map] at hx
        obtain ⟨b, hb, rfl⟩ := Option.map_eq_some_iff.mp hx
        have hjl := (List.getElem?_eq_some_iff.mp hb).1
        have tk : fr.take (j + 1) = fr.take j ++ [b] := by rw [List.take_add_one, hb]; rfl
        refine ⟨_, rfl, _, rfl, q, _, 1, _, rfl, rfl, SqT.of (s6 _ _ hit), at1 _ _ _, rfl, _, rfl, ?_⟩
        have ed : (!decide (V.int b = V.int (boxD d))) = decide (b ≠ boxD d) := by
          by_cases z : b = boxD d
          · rw [decide_eq_true (by rw [z]), decide_eq_false (by simp [z])]; rfl
          · rw [decide_eq_false (fun y => z (V.int.inj y)), decide_eq_true z]; rfl
        rw [ed]
        refine ite2 (fun e => ?_) (fun e => ?_)
        · refine ⟨_, rfl, hD, small_lt (by rw [List.length_map]; exact Nat.le_trans (List.length_filter_le _ _) (by rw [List.length_take]; have := hb0.len; omega)), _, rfl, ?_, same_put s6 nD, upd_same⟩
          rw [tk, List.filter_append, List.map_append, List.filter_cons_of_pos (p := fun x => decide (x ≠ boxD d)) e]
          rfl
        · refine ⟨_, rfl, ?_, s6, hD⟩
          rw [tk, List.filter_append, List.filter_cons_of_neg (p := fun x => decide (x ≠ boxD d)) e]
          simp
      · rintro σ ys G5 ⟨v, rfl, rfl, s6, hD⟩
        rw [List.length_map, List.take_length] at hD
        have s56 := s5.trans s6
        have hbf : Cbox (fr.filter fun x => decide (x ≠ boxD d)) := ⟨fun b hb => hb0.1 b (List.mem_filter.mp hb).1, hb0.2.1.sublist List.filter_sublist, hb0.2.2.sublist List.filter_sublist⟩
        have hstep : Cbox (stepP d fr) := filt_box _
        have hdb : 0 ≤ boxD d ∧ boxD d ≤ 7 := by
          unfold boxD
          rcases hp.2 with ⟨_, b, v, e, h⟩ | ⟨_, b, e, h⟩ <;> rw [e] <;> exact h
        refine ⟨fun σ G6 => ∃ lf : Addr, σ = [some (.ref lr), some (.ref lf), some (.ref lo), some (.ref q)] ∧ Same G5 G6 ∧ G6 lf = some (.lst ((stepP d fr).map V.int)), ?_, ?_⟩
        · refine ⟨_, rfl, q, _, 0, _, rfl, rfl, SqT.of (s6 _ _ hit), at0 _ _, rfl, _, rfl, ?_⟩
          refine ite2 (fun e => ?_) (fun e => ?_)
          · have e := strEq e
            refine ⟨_, rfl, _, rfl, q, _, 1, _, rfl, rfl, SqT.of (s6 _ _ hit), at1 _ _ _, (by show 1 ≤ sizeLine; decide), fun lb nb => ?_⟩
            have t1 := same_new (o := .lst [V.int (boxD d)]) nb
            have hb1 : upd G5 lb (.lst [V.int (boxD d)]) lb = _ := upd_same
            generalize upd G5 lb (.lst [V.int (boxD d)]) = G6 at t1 hb1 ⊢
            have hlen := hbf.len
            refine ⟨D, lb, _, _, rfl, rfl, t1 _ _ hD, hb1, small_len (by rw [List.length_map]; show _ + 1 ≤ _; omega), fun lx nx => ?_⟩
            have ex : (fr.filter fun x => decide (x ≠ boxD d)).map V.int ++ [V.int (boxD d)] = ((fr.filter fun x => decide (x ≠ boxD d)) ++ [boxD d]).map V.int := by rw [List.map_append]; rfl
            rw [ex]
            have t2 := t1.trans (same_new (o := .lst (((fr.filter fun x => decide (x ≠ boxD d)) ++ [boxD d]).map V.int)) nx)
            have hx2 : upd G6 lx (.lst (((fr.filter fun x => decide (x ≠ boxD d)) ++ [boxD d]).map V.int)) lx = _ := upd_same
            generalize upd G6 lx (.lst (((fr.filter fun x => decide (x ≠ boxD d)) ++ [boxD d]).map V.int)) = G7 at t2 hx2 ⊢
            refine ⟨lx, _, rfl, SqL.of hx2, by rw [List.length_append, List.length_singleton]; omega, fun ly ms ny hpm hpw => ?_⟩
            have em : ms = stepP d fr := by
              refine Cbox.eq ⟨fun b hb => ?_, hpw, hpm.nodup_iff.mpr ?_⟩ hstep fun x => ?_
              · rcases List.mem_append.mp (hpm.mem_iff.mp hb) with z | z
                · exact hbf.1 b z
                · rw [List.mem_singleton.mp z]; exact hdb
              · rw [List.nodup_append]
                refine ⟨hbf.2.2, by simp, fun x hx y hy e' => ?_⟩
                rw [List.mem_singleton.mp hy] at e'
                have := (List.mem_filter.mp hx).2
                rw [decide_eq_true_iff] at this
                exact this e'
              · rw [hpm.mem_iff, List.mem_append, List.mem_filter, List.mem_singleton, step_mem, decide_eq_true_iff]
                constructor
                · rintro (⟨z1, z2⟩ | z)
                  · exact ⟨hb0.1 x z1, .inl ⟨z1, z2⟩⟩
                  · exact ⟨by rw [z]; exact hdb, .inr ⟨e, z⟩⟩
                · rintro ⟨_, z | z⟩
                  · exact .inl z
                  · exact .inr z.2
            rw [em]
            exact ⟨ly, rfl, t2.trans (same_new ny), upd_same⟩
          · have e := strNe e
            refine ⟨D, rfl, .refl _, ?_⟩
            have em : (fr.filter fun x => decide (x ≠ boxD d)) = stepP d fr := by
              refine Cbox.eq hbf hstep fun x => ?_
              rw [List.mem_filter, step_mem, decide_eq_true_iff]
              constructor
              · rintro ⟨z1, z2⟩
                exact ⟨hb0.1 x z1, .inl ⟨z1, z2⟩⟩
              · rintro ⟨_, z | z⟩
                · exact z
                · exact absurd z.1 e
            rw [← em]
            exact hD
        · rintro σ G6 ⟨lf2, rfl, t3, hlf6⟩
          have s7 := s56.trans t3
          have hlo6 := (s6.trans t3) _ _ hlo5
          refine ⟨_, rfl, .inl ⟨rfl, _, SqL.of hlo6⟩, _, rfl, lf2, _, rfl, .inl ⟨SqL.of hlf6, fun t nt => ?_⟩⟩
          have t4 := same_new (o := .tup ((stepP d fr).map V.int)) nt
          have ht : upd G6 t (.tup ((stepP d fr).map V.int)) t = _ := upd_same
          have nto : t ≠ lo := fun z => by rw [z, hlo6] at nt; cases nt
          generalize upd G6 t (.tup ((stepP d fr).map V.int)) = G7 at t4 ht ⊢
          have hlo7 := t4 _ _ hlo6
          have s8 := s7.trans t4
          refine ⟨lo, _, _, rfl, rfl, hlo7, small_lt (by rw [List.length_map]; omega), ?_⟩
          have nefo : lf2 ≠ lo := fun z => by
            rw [z, hlo6] at hlf6
            have := HO.lst.inj (Option.some.inj hlf6)
            cases ts with
            | nil => simp at hts
            | cons a b =>
              cases e : stepP d fr with
              | nil => rw [e] at this; cases this
              | cons a' b' => rw [e] at this; cases this
          have hdue : dueP (pl.drop (pl.length - (i + 1))) = stepP d fr :: dueP suf := by rw [hsuf, dueP, efr]
          refine ⟨lf2, ts ++ [t], _, rfl, same_put s8 hlo0, by rw [upd_ne (Ne.symm neo)]; exact (t4 _ _ ((s6.trans t3) _ _ hlc5)), ?_, by rw [upd_same]; simp, by simp [hts], fun j t' c g1 g2 => ?_⟩
          · rw [upd_ne nefo, hdue]
            exact t4 _ _ hlf6
          · rw [hdue, List.reverse_cons] at g2
            have hdl : (dueP suf).reverse.length = ts.length := by
              rw [List.length_reverse, dueP_len, hsu, List.length_drop, hts]
              omega
            by_cases hj : j < ts.length
            · rw [List.getElem?_append_left hj] at g1
              rw [List.getElem?_append_left (by omega)] at g2
              have y1 := hg j t' c g1 g2
              rw [upd_ne (fun z => by rw [z, hlo5] at y1; cases y1)]
              exact t4 _ _ ((s6.trans t3) _ _ y1)
            · have h9 := (List.getElem?_eq_some_iff.mp g1).1
              rw [List.length_append, List.length_singleton] at h9
              have ej : j = ts.length := by omega
              subst ej
              rw [show (ts ++ [t])[ts.length]? = some t by simp] at g1
              cases g1
              rw [← hdl, List.getElem?_concat_length] at g2
              cases g2
              rw [upd_ne nto]
              exact ht
    · rintro σ G ⟨lf, ts, v3, rfl, s5, hlc5, hlf5, hlo5, hts, hg⟩
      rw [List.length_map, hq0] at hts
      rw [List.length_map, hq0, Nat.sub_self, List.drop_zero] at hg
      refine ⟨_, rfl, 1, rfl, -1, rfl, rfl, lo, _, rfl, SqL.of hlo5, fun lz nz => ?_⟩
      have s6 := same_new (o := .lst (ts.map V.ref).reverse) nz
      refine k lz _ (s5.trans s6) (s5.free nz) ⟨_, upd_same, by rw [List.length_reverse, List.length_map, hts, dueP_len], fun j x c g1 g2 => ?_⟩
      rw [← List.map_reverse, List.getElem?_map] at g1
      obtain ⟨t, ht, rfl⟩ := Option.map_eq_some_iff.mp g1
      have hj := (List.getElem?_eq_some_iff.mp ht).1
      rw [List.length_reverse] at hj
      have hdl : (dueP pl).length = ts.length := by rw [dueP_len, hts]
      have e1 : ts[ts.length - 1 - j]? = some t := by rw [← List.getElem?_reverse hj]; exact ht
      have e2 : (dueP pl).reverse[ts.length - 1 - j]? = some c := by
        rw [List.getElem?_reverse (by omega), show (dueP pl).length - 1 - (ts.length - 1 - j) = j by omega]
        exact g2
      exact (dueP_box pl c (List.mem_of_getElem? g2)).good (s6 _ _ (hg _ t c e1 e2))
/-! ### _law_formed -/
def spFormed : Sp := fun vs H Q _ => ∃ (lf lr : Addr) (cl : List (List Int)) (xs : List V), vs = [.ref lf, .ref lr] ∧ ClaimsF H lf cl ∧ H lr = some (.lst xs) ∧ xs.length = cl.length ∧ cl.length ≤ 3000 ∧ ∀ H', Same H H' → Q (.bl true) H'
theorem scFm : FnScope ["_law_found", "_law_rows", "_law_boxes"] ["_law_found", "_law_rows"] (defScope sFormed) := ⟨rfl, rfl, rfl, by decide +kernel, rfl, by decide +kernel, by decide +kernel⟩
def csFmC2 : Scope := { kind := .function, names := [(".0", .local), ("_law_box", .local), ("isinstance", .globalImplicit), ("bool", .globalImplicit)], isGenerator := false, isCoroutine := false, more := [] }
theorem scFmC2 : CompSc (defScope sFormed) csFmC2 ["_law_found", "_law_rows", "_law_boxes"] ["_law_box"] [none] := ⟨rfl, by decide +kernel, by decide +kernel, by decide +kernel, by decide +kernel, by decide +kernel⟩
theorem ok_formed {f : Addr} {fd : FuncData} (F : Fun K "_law_formed" "_law_formed" sFormed f fd) (T : Txt K w.params mg) : FnOk P w K mg base CX0 1 f fd ["_law_found", "_law_rows"] spFormed := by
  refine F.ok scFm (fun vs H Q E h => ?_) (fun cdv A outer s H vs Q E hr h => ?_)
  · obtain ⟨lf, lr, cl, xs, rfl, _⟩ := h
    rfl
  · obtain ⟨lf, lr, cl, xs, rfl, hC, hx, hl, hn, k⟩ := h
    have hu0 : (A.deeper (PyProof.Rows.envOfC "_law_formed" (defScope sFormed) s.heap.objs.size f cdv)).units + 6 < cLine := Nat.lt_of_le_of_lt (Nat.add_le_add_left (by decide : 6 ≤ 64) _) hr.units
    refine wrapX (pssx_cons (psx_if (pw_or (pt_not (pt_val (pe_callB call_isinst (by rfl) T.isi bt_isi (pa_cons (pv 0) (pa_cons (pe_bltn (v := .ty "list") (by rfl) T.list bt_list rfl) pa_nil))))) (pw_or1 (pt_cmpR op_ne (pe_callB call_len_seq (by rfl) T.len bt_len (pa_cons (pv 0) pa_nil)) (pe_callB call_len_seq (by rfl) T.len bt_len (pa_cons (pv 1) pa_nil)) (nomark _)))).pt (pssx_one (psx_of (ps_ret pe_bl))) (pssx_nil pss_nil))
      (pssx_cons (psx_of (ps_for PassesOwn.never rfl (pi_list (pv 0)) (pg_name (i := 2) scFm.nd rfl (Or.inl rfl)) (pss_one (ps_if (pw_or (pt_not (pt_val (pe_callB call_isinst (by rfl) T.isi bt_isi (pa_cons (pv 2) (pa_cons (pe_bltn (v := .ty "tuple") (by rfl) T.tuple bt_tuple rfl) pa_nil))))) (pw_or1 (pt_cmpR (op_neA hu0) (pe_comp (X := (cxOf CX0 P w K mg base ["_law_found", "_law_rows", "_law_boxes"] "_law_formed" (defScope sFormed) f cdv A outer s H E).nox) (N' := ["_law_box"]) (fr := [none]) scFmC2 rfl (pi_tup (pv 2)) (fun C s0 H0 fp => (pg_name (i := 0) scFmC2.nd rfl (Or.inl rfl))) (fun C s0 H0 fp => (pts_one (pt_val (pe_callB (r := rIsi K) call_isinst (by rfl) T.isi bt_isi (pa_cons (pv 0) (pa_cons (pe_bltn (v := .ty "bool") (by rfl) T.bool bt_bool rfl) pa_nil)))))) (fun C s0 H0 fp => (pv 0))) (pe_lst pa_nil) (nomark _)))).pt (pss_one (ps_ret pe_bl)) pss_nil))))
      (pssx_one (psx_of (ps_ret pe_bl))))) ?_
    obtain ⟨cs, c1, c2, c3⟩ := hC
    refine ⟨_, rfl, _, _, _, _, rfl, .lst c1, k_list_list, _, rfl, iteN (by decide) ?_⟩
    refine ⟨_, rfl, lf, _, rfl, .inl (SqL.of c1), _, rfl, lr, _, rfl, .inl (SqL.of hx), rfl, _, rfl, iteN (by rw [c2, hl]; simp) ?_⟩
    refine ⟨_, rfl, lf, rfl, ⟨_, SqL.of c1⟩, for_list (K := K) (a := lf) (xs := cs) (fun i σ G => ∃ v : Option V, σ = [some (.ref lf), some (.ref lr), v] ∧ Same H G) ?_ ?_ ?_ ?_⟩
    · exact ⟨none, rfl, .refl _⟩
    · rintro i σ G _ ⟨v, rfl, s1⟩
      exact SqL.of (s1 _ _ c1)
    · rintro i x σ G hx' ⟨v, rfl, s1⟩
      have hi := (List.getElem?_eq_some_iff.mp hx').1
      have hm : cl[i]? = some (cl[i]'(by omega)) := List.getElem?_eq_getElem _
      generalize cl[i]'(by omega) = ms at hm
      obtain ⟨q, rfl, hq, _⟩ := c3 i x ms hx' hm
      have hq1 := s1 _ _ hq
      refine ⟨_, rfl, _, _, _, _, rfl, .tup hq1, k_tuple_tuple, _, rfl, iteN (by decide) ?_⟩
      refine ⟨_, rfl, q, rfl, ⟨_, SqT.of hq1⟩, fun D nD => comp_tup (K := K) (a := q) (xs := ms.map V.int) (fun j σ ys G2 => ∃ v : Option V, σ = [v] ∧ ys = [] ∧ Same G G2 ∧ G2 D = some (.lst ys)) ?_ ?_ ?_ ?_⟩
      · exact ⟨none, rfl, rfl, same_new nD, upd_same⟩
      · rintro j σ ys G2 _ ⟨v, rfl, rfl, s2, _⟩
        exact SqT.of (s2 _ _ hq1)
      · rintro j y σ ys G2 hy ⟨v, rfl, rfl, s2, hD⟩
        rw [List.getElem?_map] at hy
        obtain ⟨b, hb, rfl⟩ := Option.map_eq_some_iff.mp hy
        exact ⟨_, rfl, _, _, _, _, rfl, .int _, k_int_bool, _, rfl, iteN (by decide) ⟨_, rfl, rfl, s2, hD⟩⟩
      · rintro σ ys G2 ⟨v, rfl, rfl, s2, hD⟩
        refine ⟨Nat.le_of_ble_eq_true rfl, fun le ne => ?_⟩
        refine ⟨1, D, le, .lst [], .lst [], rfl, rfl, .lst (SqL.of (same_new ne _ _ hD)) rfl (fun i x d h => by simp at h), .lst (SqL.of upd_same) rfl (fun i x d h => by simp at h), .lst (fun z hz => by cases hz), .lst (fun z hz => by cases hz), by decide, _, rfl, iteN (by decide) ?_⟩
        exact ⟨_, rfl, s1.trans (s2.trans (same_new ne))⟩
    · rintro σ G ⟨v, rfl, s1⟩
      exact k _ s1
end
end My


set_option Elab.async false
set_option linter.all false
set_option maxRecDepth 100000
set_option maxHeartbeats 4000000
namespace L2
open PySem PySem.Spec PyProof.Rows
/-- name = [..], the name a local one -/
theorem ps_comp1 {X : Cx} {elt tg iter : Expr} {ifs : List Expr} {scope : Scope} {pos spos py : Pos} {y : Str} {i : Nat} {wi : TI} {g : TG} {tt : TT} {te : TE} {N' : List Str} {fr : List (Option Nat)} {y0 : Str} (hN : X.N.Nodup) (hy : X.N[i]? = some y) (hl : X.env.scope.names.lookup y = some .local)
    (S : CompSc1 X.env.scope scope X.N N' fr y0) (hc : X.calm = true) (hi : PI X tg iter wi)
    (hg : ∀ C s0 H0 fp, PG (cxComp1 X scope C N' s0 H0 fp y0) tg g) (ht : ∀ C s0 H0 fp, PTs (cxComp1 X scope C N' s0 H0 fp y0) ifs tt) (he : ∀ C s0 H0 fp, PE (cxComp1 X scope C N' s0 H0 fp y0) elt te)
    (hs : ∀ x, foldedSetIterable iter X.env x = pure x := by intro _; rfl) (hsw : swapsWith (.ListComp elt [⟨tg, iter, ifs, 0⟩] scope pos) (some (.Name y py)) spos.line X.env = pure true := by rfl) :
    PS X (.Assign [.Name y py] (.ListComp elt [⟨tg, iter, ifs, 0⟩] scope pos) spos) (tAsg (tComp fr wi g tt te) (gName i)) := by
  intro pins s σ H D I h
  rw [exec_Assign_Name_used _ _ _ _ hsw]
  refine wpAny_bind (wpAny_standAt (wpAny_bind ?_))
  show wpAny _ X.A (do let _ ← comprehension (.ListComp elt [⟨tg, iter, ifs, 0⟩] scope pos) scope X.env _ (newList []) false (eval iter X.env) (some (assign (.Name y py) X.env))) _ _ s
  refine wpAny_bind (thn (comp_run1 S hc hi hg ht he hs I h (some (assign (.Name y py) X.env)) (fun _ s' => SP X pins D .next s') fun L C H5 s6 IX q nC c1 c2 c3 c4 hm => ?_) fun _ s' hq => wpAny_pure (wpAny_pure hq))
  obtain ⟨m, hm⟩ := hm
  show wpAny _ X.A (assign (.Name y py) X.env (.ref L)) _ _ _
  refine wpAny_assign_Name (store_ok2 IX hN hy (.inl hl) (show RelV (.ref L) (Value.ref L) from rfl) (fun s7 I7 hch => ?_) (.inr hl))
  obtain ⟨a, hsb, ha⟩ := hch
  have hCa : C ≠ a := by
    rcases ha with ha | ha
    · rw [ha]; exact c1
    · exact (c3 _ _ ha).symm
  refine ⟨m, hm.at' (fun o e => (hsb.2 C hCa).trans e), fun h' hs' => ⟨_, H5, I7.turned (t' := s7.toks) (it := C) (fun b o hb e => hs'.extBut b o hb e) nC c1 (.inr c2) c3 c4, q⟩⟩

end L2


set_option Elab.async false
set_option linter.all false
set_option maxRecDepth 100000
set_option maxHeartbeats 4000000
namespace My
open PySem L2
/-! ### rows and claims as data of == -/
def frDa (d : FR) : Da := if d.u = "table" then .tup [.str d.u, .int (d.is.headD 0), .tup (d.ts.map Da.int)] else .tup (.str d.u :: d.is.map Da.int)
theorem row_daF (K : PySem.W.Frag) {H : Hp} {q : Addr} {d : FR} (h : RowF H q d) : DaAt K H (.ref q) (frDa d) := by
  unfold frDa
  rcases h.2 with ⟨a, b, p, e, h1, h2⟩ | ⟨a, h1⟩
  · rw [if_pos a, e]
    refine .tup (SqT.of h1) rfl fun i x d' g1 g2 => ?_
    match i, g1, g2 with
    | 0, g1, g2 => cases g1; cases g2; exact .str _
    | 1, g1, g2 => cases g1; cases g2; exact .int _
    | 2, g1, g2 => cases g1; cases g2; exact .tup (SqT.of h2) (by simp) (ints_da K H _)
  · rw [if_neg a]
    refine .tup (SqT.of h1) (by simp) fun i x d' g1 g2 => ?_
    cases i with
    | zero => simp at g1 g2; subst g1; subst g2; exact .str _
    | succ i => exact ints_da K H d.is i x d' (by simpa using g1) (by simpa using g2)
theorem ints_nbT (ms : List Int) : (Da.tup (ms.map Da.int)).Nb 1 := .tup fun d hd => by
  obtain ⟨j, _, rfl⟩ := List.mem_map.mp hd
  exact .int
theorem fr_nb (d : FR) : (frDa d).Nb 2 := by
  unfold frDa
  split
  · refine .tup fun x hx => ?_
    rcases List.mem_cons.mp hx with rfl | hx
    · exact .str
    rcases List.mem_cons.mp hx with rfl | hx
    · exact .int
    rw [List.mem_singleton.mp hx]
    exact ints_nbT _
  · refine .tup fun x hx => ?_
    rcases List.mem_cons.mp hx with rfl | hx
    · exact .str
    obtain ⟨j, _, rfl⟩ := List.mem_map.mp hx
    exact .int
theorem rows_daF (K : PySem.W.Frag) {H : Hp} {l : Addr} {qs : List Addr} {ds : List FR} (hl : H l = some (.lst (qs.map V.ref))) (hn : qs.length = ds.length) (h : ∀ (i : Nat) q d, qs[i]? = some q → ds[i]? = some d → RowF H q d) : DaAt K H (.ref l) (.lst (ds.map frDa)) := by
  refine .lst (SqL.of hl) (by simp [hn]) fun i x e g1 g2 => ?_
  rw [List.getElem?_map] at g1 g2
  obtain ⟨q, hq, rfl⟩ := Option.map_eq_some_iff.mp g1
  obtain ⟨d, hd, rfl⟩ := Option.map_eq_some_iff.mp g2
  exact row_daF K (h i q d hq hd)
theorem claims_daF (K : PySem.W.Frag) {H : Hp} {l : Addr} {cs : List V} {cl : List (List Int)} (hl : H l = some (.lst cs)) (hn : cs.length = cl.length) (h : ∀ (i : Nat) c ms, cs[i]? = some c → cl[i]? = some ms → GoodAt H c ms) : DaAt K H (.ref l) (.lst (cl.map fun m => .tup (m.map Da.int))) := by
  refine .lst (SqL.of hl) (by simp [hn]) fun i x e g1 g2 => ?_
  rw [List.getElem?_map] at g2
  obtain ⟨ms, hm, rfl⟩ := Option.map_eq_some_iff.mp g2
  obtain ⟨q, rfl, hq, _⟩ := h i x ms g1 hm
  exact .tup (SqT.of hq) (by simp) (ints_da K H ms)
theorem claims_nb (cl : List (List Int)) : (Da.lst (cl.map fun m => .tup (m.map Da.int))).Nb 2 := .lst fun x hx => by
  obtain ⟨d, _, rfl⟩ := List.mem_map.mp hx
  exact ints_nbT d
theorem rows_nb (ds : List FR) : (Da.lst (ds.map frDa)).Nb 3 := .lst fun x hx => by
  obtain ⟨d, _, rfl⟩ := List.mem_map.mp hx
  exact fr_nb d
theorem ClaimsF.da (K : PySem.W.Frag) {H : Hp} {l : Addr} {cl : List (List Int)} (h : ClaimsF H l cl) : DaAt K H (.ref l) (.lst (cl.map fun m => .tup (m.map Da.int))) := by
  obtain ⟨cs, a, b, c⟩ := h
  exact claims_daF K a b c
theorem RowsF.da (K : PySem.W.Frag) {H : Hp} {l : Addr} {ds : List FR} (h : RowsF H l ds) : DaAt K H (.ref l) (.lst (ds.map frDa)) := by
  obtain ⟨qs, a, b, c⟩ := h
  exact rows_daF K a b c
theorem app_get {α β : Type} {P : α → β → Prop} {xs xs' : List α} {ys ys' : List β} (hl : xs.length = ys.length) (h : ∀ (i : Nat) x y, xs[i]? = some x → ys[i]? = some y → P x y) (h' : ∀ (i : Nat) x y, xs'[i]? = some x → ys'[i]? = some y → P x y) :
    ∀ (i : Nat) x y, (xs ++ xs')[i]? = some x → (ys ++ ys')[i]? = some y → P x y := fun i x y g1 g2 => by
  by_cases hi : i < xs.length
  · rw [List.getElem?_append_left hi] at g1
    rw [List.getElem?_append_left (by omega)] at g2
    exact h i x y g1 g2
  · rw [List.getElem?_append_right (by omega)] at g1 g2
    rw [← hl] at g2
    exact h' _ x y g1 g2
theorem pass2 {X : Cx} : Passes (CX2 X.prog X.w) X E0 := fun _ _ _ _ _ _ _ ⟨_, _, _, _, _, _, _, _, _, _, _, _, _, _, _, h⟩ => h.elim
section
variable {P : Program} {w : World} {K : PySem.W.Frag} {mg : Str → Option Value} {base : Heap}
def spLaw : Sp := fun vs H Q _ => ∃ (a : Addr) (ns : List Int), vs = [.ref a] ∧ SqL K H a (ns.map V.int) ∧ ns.length ≤ 63 ∧ ∀ H', Q (.bl true) H'
theorem scLaw : FnScope ["_law_script", "_law_boxes", "_law_rows", "_law_handed", "_law_due", "_law_found", "_law_plain_here"] ["_law_script"] (defScope sLaw) := ⟨rfl, rfl, rfl, by decide +kernel, rfl, by decide +kernel, by decide +kernel⟩
def csLawC1 : Scope := { kind := .function, names := [(".0", .local), ("_law_number", .cell), ("tuple", .globalImplicit), ("range", .globalImplicit), ("_law_rows", .free)], isGenerator := false, isCoroutine := false, more := [] }
theorem scLawC1 : CompSc1 (defScope sLaw) csLawC1 ["_law_script", "_law_boxes", "_law_rows", "_law_handed", "_law_due", "_law_found", "_law_plain_here"] ["_law_number", "_law_rows"] [none, some 2] "_law_number" := ⟨rfl, fun _ _ => rfl, fun _ => rfl, by decide +kernel, by decide +kernel, by decide +kernel, by decide +kernel, by decide +kernel, by decide +kernel⟩
def csLawC2 : Scope := { kind := .function, names := [(".0", .local), ("_law_box", .local), ("_law_is_free", .globalImplicit), ("_law_number", .free), ("_law_rows", .free)], isGenerator := false, isCoroutine := false, more := [] }
theorem scLawC2 : CompSc (relS csLawC1 (defScope sLaw)) csLawC2 ["_law_number", "_law_rows"] ["_law_box", "_law_rows", "_law_number"] [none, some 1, some 0] := ⟨rfl, by decide +kernel, by decide +kernel, by decide +kernel, by decide +kernel, by decide +kernel⟩
theorem ok_law {f fC fP fI fB fM fF fL fD cNF : Addr} {fd fdC fdP fdI fdB fdM fdF fdL fdD : FuncData} (F : Fun K "law" "law" sLaw f fd) (T : Txt K w.params mg) (GC : FnOk P w K mg base CX0 1 fC fdC ["_law_script", "_law_k"] (spCell (K := K))) (kC : PySem.W.keepIn K (.ref fC) = true) (bC : Binds K fdC ["_law_script", "_law_k"] []) (mC : mg "_law_cell_at" = some (.ref fC)) (GP : FnOk P w K mg base CX0 3 fP fdP ["_law_script", "_law_boxes"] (spProg (K := K))) (kP : PySem.W.keepIn K (.ref fP) = true) (bP : Binds K fdP ["_law_script", "_law_boxes"] []) (mP : mg "_law_program" = some (.ref fP)) (GI : FnOk P w K mg base CX0 2 fI fdI ["_law_rows", "_law_number", "_law_box"] spIsFree) (kI : PySem.W.keepIn K (.ref fI) = true) (bI : Binds K fdI ["_law_rows", "_law_number", "_law_box"] []) (mI : mg "_law_is_free" = some (.ref fI)) (GB : FnOk P w K mg base CX0 5 fB fdB ["rows"] spFBox) (kB : PySem.W.keepIn K (.ref fB) = true) (bB : Binds K fdB ["rows"] []) (mB : mg "free_boxes" = some (.ref fB)) (GM : FnOk P w K mg base CX0 1 fM fdM ["_law_found", "_law_rows"] spFormed) (kM : PySem.W.keepIn K (.ref fM) = true) (bM : Binds K fdM ["_law_found", "_law_rows"] []) (mM : mg "_law_formed" = some (.ref fM)) (GF : FnOk P w K mg base (CX2 P w) 5 fF fdF ["rows", "claims"] (spFree cNF)) (kF : PySem.W.keepIn K (.ref fF) = true) (bF : Binds K fdF ["rows", "claims"] []) (mF : mg "check_free" = some (.ref fF)) (GL : FnOk P w K mg base CX0 1 fL fdL ["_law_first"] spPlain) (kL : PySem.W.keepIn K (.ref fL) = true) (bL : Binds K fdL ["_law_first"] []) (mL : mg "_law_plain" = some (.ref fL)) (GD : FnOk P w K mg base CX0 1 fD fdD ["_law_rows"] spPlainDue) (kD : PySem.W.keepIn K (.ref fD) = true) (bD : Binds K fdD ["_law_rows"] []) (mD : mg "_law_plain_due" = some (.ref fD)) : FnOk P w K mg base CX0 6 f fd ["_law_script"] (spLaw (K := K)) := by
  refine F.ok scLaw (fun vs H Q E h => ?_) (fun cdv A outer s H vs Q E hr h => ?_)
  · obtain ⟨a, ns, rfl, _⟩ := h
    rfl
  · obtain ⟨a, ns, rfl, hS, hn, k⟩ := h
    have hrC : Room 1 (A.deeper (PyProof.Rows.envOfC "law" (defScope sLaw) s.heap.objs.size f cdv)) := hr.mono (by decide)
    have hrI : Room 2 (A.deeper (PyProof.Rows.envOfC "law" (defScope sLaw) s.heap.objs.size f cdv)) := hr.mono (by decide)
    have hrP : Room 3 (A.deeper (PyProof.Rows.envOfC "law" (defScope sLaw) s.heap.objs.size f cdv)) := hr.mono (by decide)
    have hu0 : (A.deeper (PyProof.Rows.envOfC "law" (defScope sLaw) s.heap.objs.size f cdv)).units + 6 < cLine := Nat.lt_of_le_of_lt (Nat.add_le_add_left (by decide : 6 ≤ 64) _) hr.units
    refine wrapX (pssx_cons (psx_of (ps_set (i := 1) scLaw.nd rfl (Or.inl rfl) (pe_op op_add pe_int (pe_op op_mod (pe_call GC hrC (by rfl) mC kC bC .nil pass0 (pa_cons (pv 0) (pa_cons pe_int pa_nil))) pe_int))))
      (pssx_cons (psx_of (ps_set (i := 2) scLaw.nd rfl (Or.inr rfl) (pe_call GP hrP (by rfl) mP kP bP .nil pass0 (pa_cons (pv 0) (pa_cons (pv 1) pa_nil)))))
      (pssx_cons (psx_of (ps_set (i := 3) scLaw.nd rfl (Or.inl rfl) (pe_callTy call_list_of (by rfl) T.list bt_list (pa_cons (pv 2) pa_nil))))
      (pssx_cons (psx_of (ps_comp1 (y0 := "_law_number") (i := 4) (N' := ["_law_number", "_law_rows"]) (fr := [none, some 2]) scLaw.nd rfl rfl scLawC1 rfl (pi_range1 rfl T.range (pa_cons (pe_callB call_len_seq (by rfl) T.len bt_len (pa_cons (pv 2) pa_nil)) pa_nil)) (fun C s0 H0 fp => (pg_name (i := 0) scLawC1.nd rfl (Or.inr rfl))) (fun C s0 H0 fp => pts_nil) (fun C s0 H0 fp => (pe_callTy (r := rTupOf K) call_tuple_of (by rfl) T.tuple bt_tuple (pa_cons (pe_comp (N' := ["_law_box", "_law_rows", "_law_number"]) (fr := [none, some 1, some 0]) scLawC2 rfl (pi_range1 rfl T.range (pa_cons pe_int pa_nil)) (fun C s0 H0 fp => (pg_name (i := 0) scLawC2.nd rfl (Or.inl rfl))) (fun C s0 H0 fp => (pts_one (pt_val (pe_call GI hrI (by rfl) mI kI bI .nil pass0 (pa_cons (pv 1) (pa_cons (pv 2) (pa_cons (pv 0) pa_nil))))))) (fun C s0 H0 fp => (pv 0))) pa_nil)))))
      (pssx_cons (psx_of (ps_set (i := 5) scLaw.nd rfl (Or.inl rfl) (pe_call GB hr (by rfl) mB kB bB .nil pass0 (pa_cons (pv 3) pa_nil))))
      (pssx_cons (psx_if (pw_or (pt_not (pt_val (pe_call GM hrC (by rfl) mM kM bM .nil pass0 (pa_cons (pv 5) (pa_cons (pv 2) pa_nil))))) (pw_or (pt_cmpR (op_neA hu0) (pv 5) (pv 4) (nomark _)) (pw_or1 (pt_cmpR (op_neA hu0) (pv 3) (pv 2) (nomark _))))).pt (pssx_one (psx_of (ps_ret pe_bl))) (pssx_nil pss_nil))
      (pssx_cons (psx_if (pt_cmpR op_notN (pe_call GF hr (by rfl) mF kF bF .nil pass2 (pa_cons (pv 3) (pa_cons (pv 5) pa_nil))) pe_non (nomark _)) (pssx_one (psx_of (ps_ret pe_bl))) (pssx_nil pss_nil))
      (pssx_cons (psx_of (ps_asg (pe_tup pa_nil) (pg_sub (pv 5) pe_int set_list)))
      (pssx_mid (psx_if (pt_cmpR op_eq (pe_op op_mod (pe_op op_fdivB (pe_call GC hrC (by rfl) mC kC bC .nil pass0 (pa_cons (pv 0) (pa_cons pe_int pa_nil))) pe_int) pe_int) pe_int (nomark _)) (pssx_cons (psx_of (ps_set (i := 6) scLaw.nd rfl (Or.inl rfl) (pe_call GL hrC (by rfl) mL kL bL .nil pass0 (pa_cons (pe_op op_fdivB (pe_call GC hrC (by rfl) mC kC bC .nil pass0 (pa_cons (pv 0) (pa_cons pe_int pa_nil))) pe_int) pa_nil))))
      (pssx_one (psx_if (pt_cmpR (op_neA hu0) (pe_call GB hr (by rfl) mB kB bB .nil pass0 (pa_cons (pe_op op_cat (pv 2) (pv 6)) pa_nil)) (pe_op op_cat (pv 4) (pe_call GD hrC (by rfl) mD kD bD .nil pass0 (pa_cons (pv 6) pa_nil))) (nomark _)) (pssx_one (psx_of (ps_ret pe_bl))) (pssx_nil pss_nil)))) (pssx_nil pss_nil))
      (pssx_one (psx_of (ps_ret (pe_cmpR (op_eqA hu0) (pe_call GB hr (by rfl) mB kB bB .nil pass0 (pa_cons (pv 3) pa_nil)) (pv 4) (nomark _)))))))))))))) ?_
    refine ⟨_, rfl, a, ns, 0, rfl, hS, by decide, fun c => ⟨_, _, rfl, rfl, (by show (0 : Int) < 7; decide), _, _, rfl, rfl, ?_⟩⟩
    have hbx : 0 ≤ c % 7 ∧ c % 7 < 7 := ⟨Int.emod_nonneg _ (by decide), Int.emod_lt_of_pos _ (by decide)⟩
    refine ⟨_, rfl, _, rfl, a, ns, _, rfl, hS, hn, by omega, by omega, fun lr ds H1 s1 nlr hR hP n1 n31 => ?_⟩
    have hlr := hR
    obtain ⟨qs, r1, r2, r3⟩ := hR
    refine ⟨_, rfl, lr, _, rfl, .inl (SqL.of r1), fun lh nh => ?_⟩
    have s2 := same_new (o := .lst (qs.map V.ref)) nh
    have hlh : RowsF (upd H1 lh (.lst (qs.map V.ref))) lh ds := ⟨qs, upd_same, r2, fun i q d g1 g2 => (r3 i q d g1 g2).same s2⟩
    have hlr2 := hlr.same s2
    have r12 := s2 _ _ r1
    have s12 := s1.trans s2
    generalize upd H1 lh (.lst (qs.map V.ref)) = H2 at s2 hlh hlr2 r12 s12 ⊢
    have hi8 : ∀ j : Nat, j < 8 → ([0, 1, 2, 3, 4, 5, 6, 7] : List Int)[j]? = some (j : Int) := fun j hj => (by decide : ∀ j : Nat, j < 8 → ([0, 1, 2, 3, 4, 5, 6, 7] : List Int)[j]? = some (j : Int)) j hj
    -- what is due
    refine ⟨_, rfl, lr, _, rfl, .inl (SqL.of r12), _, rfl, by rw [List.length_map]; omega, by rw [List.length_map]; omega, fun D nD => ?_⟩
    refine comp_range (n := (((qs.map V.ref).length : Nat) : Int).toNat) (fun i σ ys G2 => ∃ (v : Option V) (ts : List Addr), σ = [v, some (.ref lr)] ∧ ys = ts.map V.ref ∧ ts.length = i ∧ (∀ (j : Nat) t, ts[j]? = some t → G2 t = some (.tup ((freeRow ds j).map V.int))) ∧ Same H2 G2 ∧ G2 D = some (.lst ys)) ?_ ?_ ?_
    · exact ⟨none, [], rfl, rfl, rfl, fun j a h => by simp at h, same_new nD, upd_same⟩
    · rintro i σ ys G2 hi ⟨v, ts, rfl, rfl, hlt, hts, s3, hD2⟩
      have hin : i < ds.length := by
        rw [Int.toNat_natCast, List.length_map, r2] at hi
        exact hi
      have e0 : (0 : Int) + (i : Int) = (i : Int) := by omega
      rw [e0]
      refine ⟨8, rfl, by decide, by decide, fun D3 nD3 => ?_⟩
      refine comp_range (n := 8) (fun j σ zs G3 => ∃ v : Option V, σ = [v, some (.ref lr), some (.int (i : Int))] ∧ zs = ((([0, 1, 2, 3, 4, 5, 6, 7] : List Int).take j).filter fun b => !needB ds b i).map V.int ∧ Same G2 G3 ∧ G3 D3 = some (.lst zs)) ?_ ?_ ?_
      · exact ⟨none, rfl, rfl, same_new nD3, upd_same⟩
      · rintro j σ zs G3 hj ⟨v, rfl, rfl, s4, hD3⟩
        have e1 : (0 : Int) + (j : Int) = (j : Int) := by omega
        rw [e1]
        have tk : ([0, 1, 2, 3, 4, 5, 6, 7] : List Int).take (j + 1) = ([0, 1, 2, 3, 4, 5, 6, 7] : List Int).take j ++ [(j : Int)] := by rw [List.take_add_one, hi8 j hj]; rfl
        refine ⟨_, rfl, _, rfl, _, rfl, lr, ds, i, (j : Int), rfl, hlr2.same (s3.trans s4), hP, hin, by omega, fun G4 s5 => ⟨_, rfl, ?_⟩⟩
        refine ite2 (fun e => ?_) (fun e => ?_)
        · refine ⟨_, rfl, s5 _ _ hD3, small_lt ?_, _, rfl, ?_, same_put (s4.trans s5) nD3, upd_same⟩
          · rw [List.length_map]
            exact Nat.le_trans (List.length_filter_le _ _) (by rw [List.length_take]; simp; omega)
          · rw [tk, List.filter_append, List.map_append, List.filter_cons_of_pos (p := fun b => !needB ds b i) e]
            rfl
        · refine ⟨_, rfl, ?_, s4.trans s5, s5 _ _ hD3⟩
          rw [tk, List.filter_append, List.filter_cons_of_neg (p := fun b => !needB ds b i) e]
          simp
      · rintro σ zs G3 ⟨v, rfl, rfl, s4, hD3⟩
        have hD3 : G3 D3 = some (.lst ((freeRow ds i).map V.int)) := hD3
        have hD24 := s4 _ _ hD2
        refine ⟨D3, _, rfl, .inl ⟨SqL.of hD3, fun t nt => ⟨same_new nt _ _ hD24, small_lt (by rw [List.length_map]; omega), _, ts ++ [t], rfl, by simp, by simp [hlt], fun j a h => ?_, same_put (s3.trans (s4.trans (same_new nt))) nD, upd_same⟩⟩⟩
        by_cases hj : j < ts.length
        · rw [List.getElem?_append_left hj] at h
          have y1 := hts j a h
          rw [upd_ne (fun z => by rw [z, hD2] at y1; cases y1)]
          exact same_new nt _ _ (s4 _ _ y1)
        · have h3 := (List.getElem?_eq_some_iff.mp h).1
          rw [List.length_append, List.length_singleton] at h3
          have ej : j = ts.length := by omega
          subst ej
          rw [show (ts ++ [t])[ts.length]? = some t by simp] at h
          cases h
          rw [upd_ne (fun z => by rw [z, hD24] at nt; cases nt), hlt]
          exact upd_same
    · rintro σ ys G ⟨v, ts, rfl, rfl, hlt, hts, s3, hD⟩
      rw [Int.toNat_natCast, List.length_map, r2] at hlt
      have hDue : ClaimsF G D (freeCl ds) := ⟨_, hD, by rw [List.length_map, free_len]; exact hlt, fun i x ms g1 g2 => by
        rw [List.getElem?_map] at g1
        obtain ⟨t, ht, rfl⟩ := Option.map_eq_some_iff.mp g1
        have hi : i < ds.length := by have := (List.getElem?_eq_some_iff.mp ht).1; omega
        rw [free_at hi] at g2
        cases g2
        have fg := free_good ds i
        exact ⟨t, rfl, hts i t ht, fg.1, fg.2.1, fg.2.2.1, by omega⟩⟩
      have hlrG := hlr2.same s3
      have hlhG := hlh.same s3
      have sG := s12.trans s3
      have r1G := s3 _ _ r12
      clear hts hlh hlr2 hlr s3 r12
      -- free_boxes
      refine ⟨_, rfl, lh, ds, rfl, hlhG, hP, by omega, fun lf G1 t1 nlf hF => ?_⟩
      refine ⟨_, rfl, _, rfl, lf, lr, _, _, rfl, hF, t1 _ _ r1G, by rw [List.length_map, free_len, r2], by rw [free_len]; omega, fun G2 t2 => ⟨_, rfl, iteN (by decide) ?_⟩⟩
      have t12 := t1.trans t2
      refine ⟨_, rfl, _, rfl, 2, lf, D, _, _, rfl, rfl, (hF.same t2).da K, (hDue.same t12).da K, claims_nb _, claims_nb _, by decide, _, rfl, iteN (by simp) ?_⟩
      refine ⟨_, rfl, _, rfl, 3, lh, lr, _, _, rfl, rfl, (hlhG.same t12).da K, (hlrG.same t12).da K, rows_nb _, rows_nb _, by decide, _, rfl, iteN (by simp) ?_⟩
      refine ⟨_, rfl, _, rfl, lh, lf, ds, _, rfl, hlhG.same t12, hF.same t2, free_len ds, by omega, hP, (fun _ G3 t3 => ?_), fun r hr => by rw [free_right hP] at hr; cases hr⟩
      refine ⟨rfl, _, rfl, iteN (by decide) ?_⟩
      refine ⟨Nat.le_of_ble_eq_true rfl, fun te ne => ?_⟩
      obtain ⟨cs, f1, f2, f3⟩ := hF.same (t2.trans (t3.trans (same_new (o := .tup []) ne)))
      have t4 := t12.trans (t3.trans (same_new (o := .tup []) ne))
      refine ⟨_, rfl, lf, cs, 0, 0, rfl, rfl, f1, ?_, ?_⟩
      · rw [f2, free_len]
        unfold ixN
        rw [if_pos (by decide), if_pos (by omega)]
        rfl
      have t5 : Same G (upd (upd G3 te (.tup [])) lf (.lst (cs.set 0 (.ref te)))) := same_put t4 nlf
      generalize upd (upd G3 te (.tup [])) lf (.lst (cs.set 0 (.ref te))) = G4 at t5 ⊢
      -- more rows behind them
      refine ⟨fun σ G5 => (∃ v6 : Option V, σ = [some (.ref a), some (.int (2 + c % 7)), some (.ref lr), some (.ref lh), some (.ref D), some (.ref lf), v6]) ∧ Same G G5, ?_, ?_⟩
      · refine ⟨_, rfl, a, ns, 0, rfl, sqL_same (sG.trans t5) hS, by decide, fun c1 => ⟨_, _, rfl, rfl, ⟨by show (0 : Int) < 7; decide, by show (7 : Int) < _; decide⟩, _, _, rfl, rfl, (by show (0 : Int) < 8; decide), rfl, _, rfl, ?_⟩⟩
        refine ite2 (fun _ => ?_) (fun _ => ⟨⟨_, rfl⟩, t5⟩)
        refine ⟨_, rfl, a, ns, 0, rfl, sqL_same (sG.trans t5) hS, by decide, fun c2 => ⟨_, _, rfl, rfl, ⟨by show (0 : Int) < 56; decide, by show (56 : Int) < _; decide⟩, _, rfl, fun lp pl G5 t6 nlp hRp hpl hpn => ?_⟩⟩
        have t56 := t5.trans t6
        have hRp0 := hRp
        obtain ⟨qp, p1, p2, p3⟩ := hRp
        have hqp : qp.length = 1001 := by rw [p2]; simp [hpn]
        refine ⟨_, rfl, _, rfl, lr, lp, _, _, rfl, rfl, t56 _ _ r1G, p1, small_len (by rw [List.length_map, List.length_map]; omega), fun lq nq => ?_⟩
        have t7 := same_new (o := .lst (qs.map V.ref ++ qp.map V.ref)) nq
        have hfull : RowsF (upd G5 lq (.lst (qs.map V.ref ++ qp.map V.ref))) lq (ds ++ (pl ++ [stopD])) := by
          refine ⟨qs ++ qp, by rw [upd_same, List.map_append], by rw [List.length_append, List.length_append, r2, p2], ?_⟩
          have hx := hlrG.same (t56.trans t7)
          obtain ⟨qs', x1, x2, x3⟩ := hx
          have eq' : qs' = qs := by
            have y1 := (t56.trans t7) _ _ r1G
            rw [y1] at x1
            exact (List.map_inj_right (fun a b h => V.ref.inj h)).mp (HO.lst.inj (Option.some.inj x1)).symm
          subst eq'
          exact app_get (P := RowF _) r2 x3 fun i q d g1 g2 => (p3 i q d g1 g2).same t7
        have t67 := t56.trans t7
        generalize upd G5 lq (.lst (qs.map V.ref ++ qp.map V.ref)) = G6 at t7 hfull t67 ⊢
        refine ⟨lq, _, rfl, hfull, prog_full hP hpl, by rw [List.length_append, List.length_append, List.length_singleton]; omega, fun l1 G7 t8 _ hF1 => ?_⟩
        rw [free_full hP hpl] at hF1
        refine ⟨_, rfl, _, rfl, lp, pl, rfl, hRp0.same (t7.trans t8), hpl, by omega, fun l2 G8 t9 _ hF2 => ?_⟩
        obtain ⟨cs1, a1, a2, a3⟩ := hDue.same (t67.trans (t8.trans t9))
        obtain ⟨cs2, b1, b2, b3⟩ := hF2
        refine ⟨D, l2, _, _, rfl, rfl, a1, b1, small_len (by rw [a2, b2, free_len, dueP_len]; omega), fun l3 n3 => ?_⟩
        have t10 := same_new (o := .lst (cs1 ++ cs2)) n3
        have hF3 : ClaimsF (upd G8 l3 (.lst (cs1 ++ cs2))) l3 (freeCl ds ++ dueP pl) := ⟨_, upd_same, by rw [List.length_append, List.length_append, a2, b2], app_get (P := GoodAt _) a2 (fun i x ms g1 g2 => (a3 i x ms g1 g2).same t10) fun i x ms g1 g2 => (b3 i x ms g1 g2).same t10⟩
        refine ⟨2, l1, l3, _, _, rfl, rfl, (hF1.same (t9.trans t10)).da K, hF3.da K, claims_nb _, claims_nb _, by decide, _, rfl, iteN (by simp) ?_⟩
        exact ⟨⟨_, rfl⟩, t67.trans (t8.trans (t9.trans t10))⟩
      · rintro σ G5 ⟨⟨v6, rfl⟩, t6⟩
        refine ⟨_, rfl, lh, ds, rfl, hlhG.same t6, hP, by omega, fun l1 G6 t7 _ hF1 => ?_⟩
        refine ⟨_, rfl, 2, l1, D, _, _, rfl, rfl, hF1.da K, (hDue.same (t6.trans t7)).da K, claims_nb _, claims_nb _, by decide, ?_⟩
        rw [decide_eq_true rfl]
        exact k _
end
end My


set_option Elab.async false
set_option linter.all false
set_option maxRecDepth 100000
set_option maxHeartbeats 4000000
namespace My
open PySem L2
abbrev sXI : Stmt := inClass (top 2) 0
section
variable {P : Program} {w : World} {K : PySem.W.Frag} {mg : Str → Option Value} {base : Heap}
theorem scXI : FnScope ["self", "at"] ["self", "at"] (defScope sXI) := ⟨rfl, rfl, rfl, by decide +kernel, rfl, by decide +kernel, by decide +kernel⟩
theorem ok_xi {f C R : Addr} {fd : FuncData} (F : Fun K "__init__" "NoFree.__init__" sXI f fd) (c : XIni K C R f) (hm : mg "RowError" = some (.ref R)) : FnOk P w K mg base CX0 1 f fd ["self", "at"] (spXI C) := by
  refine F.ok scXI (fun vs H Q E h => ?_) (fun cdv A outer s H vs Q E hr h => ?_)
  · obtain ⟨e, i, rfl, _⟩ := h
    rfl
  · obtain ⟨e, i, rfl, he, hi, k⟩ := h
    refine ⟨_, pss_cons (ps_expr (pe_xini c (by rfl) hm (pa_cons (pv 0) (pa_cons (pe_fstr (pv 1) (by decide)) pa_nil)))) (pss_one (ps_xat c (pv 0) (pv 1) rfl)), ?_⟩
    refine ⟨_, rfl, _, rfl, i, rfl, hi, fun u => ⟨e, _, rfl, he, ?_⟩⟩
    refine ⟨_, rfl, _, rfl, e, rfl, upd_same, fun d nd de => ?_⟩
    rw [upd3 de]
    rw [upd_ne de] at nd
    exact k d nd de
end
end My


set_option Elab.async false
set_option linter.all false
set_option maxRecDepth 100000
set_option maxHeartbeats 8000000
namespace PySem.W.Fast
def tw8693085835497116167 : Nat := 0
def tw984284328194376133 : Nat := 0
def tw8523045594254745743 : Nat := 0
def tw14969982332119909922 : Nat := 0
def tw14995454757129666948 : Nat := 0
def tw17848707474541079056 : Nat := 0
def tw13269187470524126283 : Nat := 0
def tw2489382499852665373 : Nat := 0
def tw4462829838151496326 : Nat := 0
def tw14191013287148728664 : Nat := 0
def tw16030250000786557591 : Nat := 0
def tw4680434660802799189 : Nat := 0
end PySem.W.Fast
namespace My
open PySem L2
theorem fa_nil {α : Type} {p : α → Prop} : ∀ x ∈ ([] : List α), p x := fun x h => absurd h (by simp)
theorem fa_cons {α : Type} {p : α → Prop} {a : α} {l : List α} (h : p a) (t : ∀ x ∈ l, p x) : ∀ x ∈ a :: l, p x := fun x hx => by
  rcases List.mem_cons.mp hx with rfl | hx
  · exact h
  · exact t x hx
/-! ### what the top has written, and the law's own head -/
theorem all_mk {l : PySem.W.OpenLaw} {w : World} {K : PySem.W.Frag} {h : Heap} {mg : Str → Option Value} {fa f0 f1 f2 f3 f4 f5 f6 f7 f8 f9 f10 f11 f12 f13 f14 f15 f16 f17 f18 f19 f20 f21 f22 f23 f24 f25 : Addr} (X : K.In h) (G : h.Ns mainGlobals mg) (hfa : mg "law" = some (.ref fa))
    {od0 an0 od1 an1 od2 an2 od3 an3 od4 an4 od5 an5 od6 an6 od7 an7 od8 an8 od9 an9 od10 an10 od11 an11 od12 an12 od13 an13 od14 an14 od15 an15 od16 an16 od17 an17 od18 an18 od19 an19 od20 an20 od21 an21 od22 an22 od23 an23 od24 an24 od25 an25 : Option Addr} {sl0 sl1 sl2 sl3 sl4 sl5 sl6 sl7 sl8 sl9 sl10 sl11 sl12 sl13 sl14 sl15 sl16 sl17 sl18 sl19 sl20 sl21 sl22 sl23 sl24 sl25 : Array (Option Value)} {oc0 kV0 dc0 pm0 cd0 ct0 oc1 kV1 dc1 pm1 cd1 ct1 oc2 kV2 dc2 pm2 cd2 ct2 oc3 kV3 dc3 pm3 cd3 ct3 oc4 kV4 dc4 pm4 cd4 ct4 oc5 kV5 dc5 pm5 cd5 ct5 oc6 kV6 dc6 pm6 cd6 ct6 oc7 kV7 dc7 pm7 cd7 ct7 oc8 kV8 dc8 pm8 cd8 ct8 oc9 kV9 dc9 pm9 cd9 ct9 oc10 kV10 dc10 pm10 cd10 ct10 oc11 kV11 dc11 pm11 cd11 ct11 oc12 kV12 dc12 pm12 cd12 ct12 oc13 kV13 dc13 pm13 cd13 ct13 oc14 kV14 dc14 pm14 cd14 ct14 oc15 kV15 dc15 pm15 cd15 ct15 oc16 kV16 dc16 pm16 cd16 ct16 oc17 kV17 dc17 pm17 cd17 ct17 oc18 kV18 dc18 pm18 cd18 ct18 oc19 kV19 dc19 pm19 cd19 ct19 oc20 kV20 dc20 pm20 cd20 ct20 oc21 kV21 dc21 pm21 cd21 ct21 oc22 kV22 dc22 pm22 cd22 ct22 oc23 kV23 dc23 pm23 cd23 ct23 oc24 kV24 dc24 pm24 cd24 ct24 oc25 kV25 dc25 pm25 cd25 ct25 : Value}
    (a0 : PySem.W.nsIn K mainGlobals "goes_on" = some (some (.ref f0))) (l0 : K.lookup f0 = some ⟨oc0, od0, .func (PySem.W.fnOf "goes_on" "goes_on" (defArgs sGoes) (defBody sGoes) (defScope sGoes) .none kV0 dc0 pm0 an0 cd0 ct0), sl0⟩) (c0 : PySem.W.codeIn K cd0 "goes_on" = true) (k0 : PySem.W.keepIn K (.ref f0) = true)
    (a1 : PySem.W.nsIn K mainGlobals "targets_of" = some (some (.ref f1))) (l1 : K.lookup f1 = some ⟨oc1, od1, .func (PySem.W.fnOf "targets_of" "targets_of" (defArgs sTargets) (defBody sTargets) (defScope sTargets) .none kV1 dc1 pm1 an1 cd1 ct1), sl1⟩) (c1 : PySem.W.codeIn K cd1 "targets_of" = true) (k1 : PySem.W.keepIn K (.ref f1) = true)
    (a2 : PySem.W.nsIn K mainGlobals "ways_of" = some (some (.ref f2))) (l2 : K.lookup f2 = some ⟨oc2, od2, .func (PySem.W.fnOf "ways_of" "ways_of" (defArgs sWays) (defBody sWays) (defScope sWays) .none kV2 dc2 pm2 an2 cd2 ct2), sl2⟩) (c2 : PySem.W.codeIn K cd2 "ways_of" = true) (k2 : PySem.W.keepIn K (.ref f2) = true)
    (a3 : PySem.W.nsIn K mainGlobals "is_whole" = some (some (.ref f3))) (l3 : K.lookup f3 = some ⟨oc3, od3, .func (PySem.W.fnOf "is_whole" "is_whole" (defArgs sWhole) (defBody sWhole) (defScope sWhole) .none kV3 dc3 pm3 an3 cd3 ct3), sl3⟩) (c3 : PySem.W.codeIn K cd3 "is_whole" = true) (k3 : PySem.W.keepIn K (.ref f3) = true)
    (a4 : PySem.W.nsIn K mainGlobals "is_number_of" = some (some (.ref f4))) (l4 : K.lookup f4 = some ⟨oc4, od4, .func (PySem.W.fnOf "is_number_of" "is_number_of" (defArgs sNum) (defBody sNum) (defScope sNum) .none kV4 dc4 pm4 an4 cd4 ct4), sl4⟩) (c4 : PySem.W.codeIn K cd4 "is_number_of" = true) (k4 : PySem.W.keepIn K (.ref f4) = true)
    (a5 : PySem.W.nsIn K mainGlobals "reads_of" = some (some (.ref f5))) (l5 : K.lookup f5 = some ⟨oc5, od5, .func (PySem.W.fnOf "reads_of" "reads_of" (defArgs sReads) (defBody sReads) (defScope sReads) .none kV5 dc5 pm5 an5 cd5 ct5), sl5⟩) (c5 : PySem.W.codeIn K cd5 "reads_of" = true) (k5 : PySem.W.keepIn K (.ref f5) = true)
    (a6 : PySem.W.nsIn K mainGlobals "writes_of" = some (some (.ref f6))) (l6 : K.lookup f6 = some ⟨oc6, od6, .func (PySem.W.fnOf "writes_of" "writes_of" (defArgs sWrites) (defBody sWrites) (defScope sWrites) .none kV6 dc6 pm6 an6 cd6 ct6), sl6⟩) (c6 : PySem.W.codeIn K cd6 "writes_of" = true) (k6 : PySem.W.keepIn K (.ref f6) = true)
    (a7 : PySem.W.nsIn K mainGlobals "needs_at_once" = some (some (.ref f7))) (l7 : K.lookup f7 = some ⟨oc7, od7, .func (PySem.W.fnOf "needs_at_once" "needs_at_once" (defArgs sNeeds) (defBody sNeeds) (defScope sNeeds) .none kV7 dc7 pm7 an7 cd7 ct7), sl7⟩) (c7 : PySem.W.codeIn K cd7 "needs_at_once" = true) (k7 : PySem.W.keepIn K (.ref f7) = true)
    (a8 : PySem.W.nsIn K mainGlobals "ways_ahead" = some (some (.ref f8))) (l8 : K.lookup f8 = some ⟨oc8, od8, .func (PySem.W.fnOf "ways_ahead" "ways_ahead" (defArgs sAhead) (defBody sAhead) (defScope sAhead) .none kV8 dc8 pm8 an8 cd8 ct8), sl8⟩) (c8 : PySem.W.codeIn K cd8 "ways_ahead" = true) (k8 : PySem.W.keepIn K (.ref f8) = true)
    (a9 : PySem.W.nsIn K mainGlobals "is_claim" = some (some (.ref f9))) (l9 : K.lookup f9 = some ⟨oc9, od9, .func (PySem.W.fnOf "is_claim" "is_claim" (defArgs sClaim) (defBody sClaim) (defScope sClaim) .none kV9 dc9 pm9 an9 cd9 ct9), sl9⟩) (c9 : PySem.W.codeIn K cd9 "is_claim" = true) (k9 : PySem.W.keepIn K (.ref f9) = true)
    (a10 : PySem.W.nsIn K mainGlobals "is_right" = some (some (.ref f10))) (l10 : K.lookup f10 = some ⟨oc10, od10, .func (PySem.W.fnOf "is_right" "is_right" (defArgs sRight) (defBody sRight) (defScope sRight) .none kV10 dc10 pm10 an10 cd10 ct10), sl10⟩) (c10 : PySem.W.codeIn K cd10 "is_right" = true) (k10 : PySem.W.keepIn K (.ref f10) = true)
    (a11 : PySem.W.nsIn K mainGlobals "check_free" = some (some (.ref f11))) (l11 : K.lookup f11 = some ⟨oc11, od11, .func (PySem.W.fnOf "check_free" "check_free" (defArgs sFree) (defBody sFree) (defScope sFree) .none kV11 dc11 pm11 an11 cd11 ct11), sl11⟩) (c11 : PySem.W.codeIn K cd11 "check_free" = true) (k11 : PySem.W.keepIn K (.ref f11) = true)
    (a12 : PySem.W.nsIn K mainGlobals "rows_ahead_of" = some (some (.ref f12))) (l12 : K.lookup f12 = some ⟨oc12, od12, .func (PySem.W.fnOf "rows_ahead_of" "rows_ahead_of" (defArgs sRAhead) (defBody sRAhead) (defScope sRAhead) .none kV12 dc12 pm12 an12 cd12 ct12), sl12⟩) (c12 : PySem.W.codeIn K cd12 "rows_ahead_of" = true) (k12 : PySem.W.keepIn K (.ref f12) = true)
    (a13 : PySem.W.nsIn K mainGlobals "rows_that_need" = some (some (.ref f13))) (l13 : K.lookup f13 = some ⟨oc13, od13, .func (PySem.W.fnOf "rows_that_need" "rows_that_need" (defArgs sRNeed) (defBody sRNeed) (defScope sRNeed) .none kV13 dc13 pm13 an13 cd13 ct13), sl13⟩) (c13 : PySem.W.codeIn K cd13 "rows_that_need" = true) (k13 : PySem.W.keepIn K (.ref f13) = true)
    (a14 : PySem.W.nsIn K mainGlobals "free_boxes" = some (some (.ref f14))) (l14 : K.lookup f14 = some ⟨oc14, od14, .func (PySem.W.fnOf "free_boxes" "free_boxes" (defArgs sFBox) (defBody sFBox) (defScope sFBox) .none kV14 dc14 pm14 an14 cd14 ct14), sl14⟩) (c14 : PySem.W.codeIn K cd14 "free_boxes" = true) (k14 : PySem.W.keepIn K (.ref f14) = true)
    (a15 : PySem.W.nsIn K mainGlobals "_law_cell_at" = some (some (.ref f15))) (l15 : K.lookup f15 = some ⟨oc15, od15, .func (PySem.W.fnOf "_law_cell_at" "_law_cell_at" (defArgs sCell) (defBody sCell) (defScope sCell) .none kV15 dc15 pm15 an15 cd15 ct15), sl15⟩) (c15 : PySem.W.codeIn K cd15 "_law_cell_at" = true) (k15 : PySem.W.keepIn K (.ref f15) = true)
    (a16 : PySem.W.nsIn K mainGlobals "_law_digit" = some (some (.ref f16))) (l16 : K.lookup f16 = some ⟨oc16, od16, .func (PySem.W.fnOf "_law_digit" "_law_digit" (defArgs sDigit) (defBody sDigit) (defScope sDigit) .none kV16 dc16 pm16 an16 cd16 ct16), sl16⟩) (c16 : PySem.W.codeIn K cd16 "_law_digit" = true) (k16 : PySem.W.keepIn K (.ref f16) = true)
    (a17 : PySem.W.nsIn K mainGlobals "_law_row" = some (some (.ref f17))) (l17 : K.lookup f17 = some ⟨oc17, od17, .func (PySem.W.fnOf "_law_row" "_law_row" (defArgs sRow) (defBody sRow) (defScope sRow) .none kV17 dc17 pm17 an17 cd17 ct17), sl17⟩) (c17 : PySem.W.codeIn K cd17 "_law_row" = true) (k17 : PySem.W.keepIn K (.ref f17) = true)
    (a18 : PySem.W.nsIn K mainGlobals "_law_program" = some (some (.ref f18))) (l18 : K.lookup f18 = some ⟨oc18, od18, .func (PySem.W.fnOf "_law_program" "_law_program" (defArgs sProg) (defBody sProg) (defScope sProg) .none kV18 dc18 pm18 an18 cd18 ct18), sl18⟩) (c18 : PySem.W.codeIn K cd18 "_law_program" = true) (k18 : PySem.W.keepIn K (.ref f18) = true)
    (a19 : PySem.W.nsIn K mainGlobals "_law_needs" = some (some (.ref f19))) (l19 : K.lookup f19 = some ⟨oc19, od19, .func (PySem.W.fnOf "_law_needs" "_law_needs" (defArgs sLNeeds) (defBody sLNeeds) (defScope sLNeeds) .none kV19 dc19 pm19 an19 cd19 ct19), sl19⟩) (c19 : PySem.W.codeIn K cd19 "_law_needs" = true) (k19 : PySem.W.keepIn K (.ref f19) = true)
    (a20 : PySem.W.nsIn K mainGlobals "_law_later" = some (some (.ref f20))) (l20 : K.lookup f20 = some ⟨oc20, od20, .func (PySem.W.fnOf "_law_later" "_law_later" (defArgs sLater) (defBody sLater) (defScope sLater) .none kV20 dc20 pm20 an20 cd20 ct20), sl20⟩) (c20 : PySem.W.codeIn K cd20 "_law_later" = true) (k20 : PySem.W.keepIn K (.ref f20) = true)
    (a21 : PySem.W.nsIn K mainGlobals "_law_is_free" = some (some (.ref f21))) (l21 : K.lookup f21 = some ⟨oc21, od21, .func (PySem.W.fnOf "_law_is_free" "_law_is_free" (defArgs sIsFree) (defBody sIsFree) (defScope sIsFree) .none kV21 dc21 pm21 an21 cd21 ct21), sl21⟩) (c21 : PySem.W.codeIn K cd21 "_law_is_free" = true) (k21 : PySem.W.keepIn K (.ref f21) = true)
    (a22 : PySem.W.nsIn K mainGlobals "_law_plain" = some (some (.ref f22))) (l22 : K.lookup f22 = some ⟨oc22, od22, .func (PySem.W.fnOf "_law_plain" "_law_plain" (defArgs sPlain) (defBody sPlain) (defScope sPlain) .none kV22 dc22 pm22 an22 cd22 ct22), sl22⟩) (c22 : PySem.W.codeIn K cd22 "_law_plain" = true) (k22 : PySem.W.keepIn K (.ref f22) = true)
    (a23 : PySem.W.nsIn K mainGlobals "_law_plain_due" = some (some (.ref f23))) (l23 : K.lookup f23 = some ⟨oc23, od23, .func (PySem.W.fnOf "_law_plain_due" "_law_plain_due" (defArgs sPlainDue) (defBody sPlainDue) (defScope sPlainDue) .none kV23 dc23 pm23 an23 cd23 ct23), sl23⟩) (c23 : PySem.W.codeIn K cd23 "_law_plain_due" = true) (k23 : PySem.W.keepIn K (.ref f23) = true)
    (a24 : PySem.W.nsIn K mainGlobals "_law_formed" = some (some (.ref f24))) (l24 : K.lookup f24 = some ⟨oc24, od24, .func (PySem.W.fnOf "_law_formed" "_law_formed" (defArgs sFormed) (defBody sFormed) (defScope sFormed) .none kV24 dc24 pm24 an24 cd24 ct24), sl24⟩) (c24 : PySem.W.codeIn K cd24 "_law_formed" = true) (k24 : PySem.W.keepIn K (.ref f24) = true)
    (a25 : PySem.W.nsIn K mainGlobals "law" = some (some (.ref f25))) (l25 : K.lookup f25 = some ⟨oc25, od25, .func (PySem.W.fnOf "law" "law" (defArgs sLaw) (defBody sLaw) (defScope sLaw) .none kV25 dc25 pm25 an25 cd25 ct25), sl25⟩) (c25 : PySem.W.codeIn K cd25 "law" = true) (k25 : PySem.W.keepIn K (.ref f25) = true)
    {pT0 : Addr} {odT0 : Option Addr} {slT0 : Array (Option Value)} {nT0 : Nat} {t0_0 t0_1 t0_2 t0_3 t0_4 t0_5 t0_6 : Tok} (aT0 : PySem.W.nsIn K mainGlobals "WRITING" = some (some (.ref pT0)))
    (lT0 : K.lookup pT0 = some ⟨.type "tuple", odT0, .seq #[.str "set" t0_0, .str "more" t0_1, .str "copy" t0_2, .str "add" t0_3, .str "less" t0_4, .str "load" t0_5, .str "take" t0_6] nT0, slT0⟩)
    {pT1 : Addr} {odT1 : Option Addr} {slT1 : Array (Option Value)} {nT1 : Nat} {t1_0 t1_1 t1_2 : Tok} (aT1 : PySem.W.nsIn K mainGlobals "ENDS" = some (some (.ref pT1)))
    (lT1 : K.lookup pT1 = some ⟨.type "tuple", odT1, .seq #[.str "stop" t1_0, .str "back" t1_1, .str "halt" t1_2] nT1, slT1⟩)
    {pT2 : Addr} {odT2 : Option Addr} {slT2 : Array (Option Value)} {nT2 : Nat} {t2_0 t2_1 t2_2 t2_3 : Tok} (aT2 : PySem.W.nsIn K mainGlobals "NOT_GOING_ON" = some (some (.ref pT2)))
    (lT2 : K.lookup pT2 = some ⟨.type "tuple", odT2, .seq #[.str "stop" t2_0, .str "back" t2_1, .str "halt" t2_2, .str "jump" t2_3] nT2, slT2⟩)
    (z_set : PySem.W.nsIn K mainGlobals "set" = some none)
    (z_sorted : PySem.W.nsIn K mainGlobals "sorted" = some none)
    (z_list : PySem.W.nsIn K mainGlobals "list" = some none)
    (z_int : PySem.W.nsIn K mainGlobals "int" = some none)
    (z_bool : PySem.W.nsIn K mainGlobals "bool" = some none)
    (z_tuple : PySem.W.nsIn K mainGlobals "tuple" = some none)
    (z_isinstance : PySem.W.nsIn K mainGlobals "isinstance" = some none)
    (z_min : PySem.W.nsIn K mainGlobals "min" = some none)
    (z_range : PySem.W.nsIn K mainGlobals "range" = some none)
    (z_len : PySem.W.nsIn K mainGlobals "len" = some none)
    (z_all : PySem.W.nsIn K mainGlobals "all" = some none)
    (z_enumerate : PySem.W.nsIn K mainGlobals "enumerate" = some none)
    (z_max : PySem.W.nsIn K mainGlobals "max" = some none)
    (z_reversed : PySem.W.nsIn K mainGlobals "reversed" = some none)
    {pB : Addr} {esB : Array DictEntry} {nB : Nat} (aB : PySem.W.nsIn K mainGlobals "READ_AT" = some (some (.ref pB))) (lB : K.lookup pB = some ⟨.type "dict", none, .dict esB nB, #[]⟩) (kB : PySem.W.KeysLit w.params esB.toList) (oB : (pB == sysModules) = false)
    {qB0 : Addr} {odB0 : Option Addr} {slB0 : Array (Option Value)} {nB0 : Nat} {tB0_0 : Tok} (eB0 : PySem.W.nsIn K pB "more" = some (some (.ref qB0))) (lB0 : K.lookup qB0 = some ⟨.type "tuple", odB0, .seq #[.int (1) tB0_0] nB0, slB0⟩)
    {qB1 : Addr} {odB1 : Option Addr} {slB1 : Array (Option Value)} {nB1 : Nat} {tB1_0 : Tok} (eB1 : PySem.W.nsIn K pB "copy" = some (some (.ref qB1))) (lB1 : K.lookup qB1 = some ⟨.type "tuple", odB1, .seq #[.int (2) tB1_0] nB1, slB1⟩)
    {qB2 : Addr} {odB2 : Option Addr} {slB2 : Array (Option Value)} {nB2 : Nat} {tB2_0 tB2_1 : Tok} (eB2 : PySem.W.nsIn K pB "add" = some (some (.ref qB2))) (lB2 : K.lookup qB2 = some ⟨.type "tuple", odB2, .seq #[.int (1) tB2_0, .int (2) tB2_1] nB2, slB2⟩)
    {qB3 : Addr} {odB3 : Option Addr} {slB3 : Array (Option Value)} {nB3 : Nat} {tB3_0 tB3_1 : Tok} (eB3 : PySem.W.nsIn K pB "less" = some (some (.ref qB3))) (lB3 : K.lookup qB3 = some ⟨.type "tuple", odB3, .seq #[.int (1) tB3_0, .int (2) tB3_1] nB3, slB3⟩)
    {qB4 : Addr} {odB4 : Option Addr} {slB4 : Array (Option Value)} {nB4 : Nat} {tB4_0 : Tok} (eB4 : PySem.W.nsIn K pB "load" = some (some (.ref qB4))) (lB4 : K.lookup qB4 = some ⟨.type "tuple", odB4, .seq #[.int (2) tB4_0] nB4, slB4⟩)
    {qB5 : Addr} {odB5 : Option Addr} {slB5 : Array (Option Value)} {nB5 : Nat} {tB5_0 tB5_1 : Tok} (eB5 : PySem.W.nsIn K pB "keep" = some (some (.ref qB5))) (lB5 : K.lookup qB5 = some ⟨.type "tuple", odB5, .seq #[.int (1) tB5_0, .int (2) tB5_1] nB5, slB5⟩)
    {qB6 : Addr} {odB6 : Option Addr} {slB6 : Array (Option Value)} {nB6 : Nat} {tB6_0 : Tok} (eB6 : PySem.W.nsIn K pB "tell" = some (some (.ref qB6))) (lB6 : K.lookup qB6 = some ⟨.type "tuple", odB6, .seq #[.int (1) tB6_0] nB6, slB6⟩)
    {qB7 : Addr} {odB7 : Option Addr} {slB7 : Array (Option Value)} {nB7 : Nat} {tB7_0 : Tok} (eB7 : PySem.W.nsIn K pB "see" = some (some (.ref qB7))) (lB7 : K.lookup qB7 = some ⟨.type "tuple", odB7, .seq #[.int (1) tB7_0] nB7, slB7⟩)
    {qB8 : Addr} {odB8 : Option Addr} {slB8 : Array (Option Value)} {nB8 : Nat} {tB8_0 : Tok} (eB8 : PySem.W.nsIn K pB "put" = some (some (.ref qB8))) (lB8 : K.lookup qB8 = some ⟨.type "tuple", odB8, .seq #[.int (1) tB8_0] nB8, slB8⟩)
    {qB9 : Addr} {odB9 : Option Addr} {slB9 : Array (Option Value)} {nB9 : Nat} {tB9_0 : Tok} (eB9 : PySem.W.nsIn K pB "zero" = some (some (.ref qB9))) (lB9 : K.lookup qB9 = some ⟨.type "tuple", odB9, .seq #[.int (1) tB9_0] nB9, slB9⟩)
    {qB10 : Addr} {odB10 : Option Addr} {slB10 : Array (Option Value)} {nB10 : Nat} {tB10_0 : Tok} (eB10 : PySem.W.nsIn K pB "below" = some (some (.ref qB10))) (lB10 : K.lookup qB10 = some ⟨.type "tuple", odB10, .seq #[.int (1) tB10_0] nB10, slB10⟩)
    {qB11 : Addr} {odB11 : Option Addr} {slB11 : Array (Option Value)} {nB11 : Nat} {tB11_0 : Tok} (eB11 : PySem.W.nsIn K pB "table" = some (some (.ref qB11))) (lB11 : K.lookup qB11 = some ⟨.type "tuple", odB11, .seq #[.int (1) tB11_0] nB11, slB11⟩)
    (x0 : PySem.W.nsIn K pB "stop" = some none)
    (x1 : PySem.W.nsIn K pB "back" = some none)
    (x2 : PySem.W.nsIn K pB "halt" = some none)
    (x3 : PySem.W.nsIn K pB "set" = some none)
    (x4 : PySem.W.nsIn K pB "take" = some none)
    (x5 : PySem.W.nsIn K pB "jump" = some none)
    (x6 : PySem.W.nsIn K pB "call" = some none)
    (x7 : PySem.W.nsIn K pB "mark" = some none)
    {pD : Addr} {esD : Array DictEntry} {nD : Nat} (aD : PySem.W.nsIn K mainGlobals "BOUNDS" = some (some (.ref pD))) (lD : K.lookup pD = some ⟨.type "dict", none, .dict esD nD, #[]⟩) (kD : PySem.W.KeysLit w.params esD.toList) (oD : (pD == sysModules) = false)
    {qD0 : Addr} {odD0 : Option Addr} {slD0 : Array (Option Value)} {nD0 : Nat} {tD0_0 tD0_1 : Tok} (eD0 : PySem.W.nsIn K pD "box" = some (some (.ref qD0))) (lD0 : K.lookup qD0 = some ⟨.type "tuple", odD0, .seq #[.int (0) tD0_0, .int (7) tD0_1] nD0, slD0⟩)
    {cNoFree : Addr} (xNoFree : PySem.W.nsIn K mainGlobals "NoFree" = some (some (.ref cNoFree)))
    {cRowError : Addr} (xRowError : PySem.W.nsIn K mainGlobals "RowError" = some (some (.ref cRowError)))
    {gI : Addr} {odgI angI : Option Addr} {slgI : Array (Option Value)} {ocgI kVgI dcgI pmgI cdgI ctgI : Value} (agI : PySem.W.findIn K (.ref cNoFree) "__init__" = some (some (.ref gI))) (igI : PySem.W.typeIn K (.ref gI) = some (.type "function")) (lgI : K.lookup gI = some ⟨ocgI, odgI, .func (PySem.W.fnOf "__init__" "NoFree.__init__" (defArgs sXI) (defBody sXI) (defScope sXI) .none kVgI dcgI pmgI angI cdgI ctgI), slgI⟩) (cgI : PySem.W.codeIn K cdgI "NoFree.__init__" = true) (kgI : PySem.W.keepIn K (.ref gI) = true)
    {ddC : Option Addr} {nmC qnC : Str} {bsC subC : List Value} {nsC : Addr} {snC : List Str} {abC : Bool} {colC : Option Bool} {k0C k1C k2C k3C k5C : Option Value} {cdE : ClassData} (xlk : K.lookup cNoFree = some ⟨.type "type", ddC, .cls ⟨nmC, bsC, .ref cNoFree :: .ref cRowError :: vmVE, nsC, qnC, true, snC, subC, abC, colC, false⟩, #[k0C, k1C, k2C, k3C, some (.builtin "ValueError.__new__"), k5C]⟩) (xq : PySem.W.excIn K cRowError vmVE "ValueError.__new__" = true) (xrt : PySem.W.mroIn K cRowError (.type "object") = some true) (xsa : PySem.W.findIn K (.ref cNoFree) "__setattr__" = some (some (.builtin "object.__setattr__"))) (xna : PySem.W.takerIn K cNoFree "at" = some none) (xnt : PySem.W.findIn K (.ref cNoFree) "at" = some none) (xhd : PySem.W.hasDictIn K cNoFree = true) (xga : PySem.W.findIn K (.ref cNoFree) "__getattribute__" = some (some (.builtin "BaseException.__getattribute__"))) (xgh : PySem.W.findIn K (.ref cNoFree) "__getattr__" = some none) (xcl : PySem.W.findIn K (.ref cNoFree) "__class__" = some (some (.builtin "object.__class__"))) (xgt : PySem.W.specialIn K (.builtin "object.__class__") "__get__" = some (some (.builtin "getset_descriptor.__get__"))) (xtk : PySem.W.takesIn K (.builtin "object.__class__") = some true) (xob : PySem.W.mroIn K cNoFree (.type "object") = some true) (xbx : PySem.W.mroIn K cNoFree (.type "BaseException") = some true) (xci : PySem.W.clsIn K cNoFree = some cdE) (xsg : PySem.W.specialIn K (.ref cRowError) "__getattribute__" = some (some (.builtin "type.__getattribute__"))) (xrr : PySem.W.readsIn K cRowError (.type "type") = true) (xfi : PySem.W.findCls K (.ref cRowError) (.type "type") "__init__" = some (.val (.builtin "ValueError.__init__"))) (xkc : PySem.W.keepIn K (.ref cNoFree) = true) (xexm : PySem.W.exmOne K (.ref cNoFree) (.ref cRowError) = some true) (xown : PySem.W.kitOne K (.ref cNoFree) (.ref cNoFree) = some true) (xval : PySem.W.kitOne K (.ref cNoFree) (.type "ValueError") = some true)
    {pAB : Addr} {odAB : Option Addr} {slAB : Array (Option Value)} {nAB : Nat} {tAB0 tAB1 tAB2 tAB3 tAB4 tAB5 tAB6 tAB7 : Tok} (aAB : PySem.W.nsIn K mainGlobals "ALL_BOXES" = some (some (.ref pAB))) (lAB : K.lookup pAB = some ⟨.type "tuple", odAB, .seq #[.int 0 tAB0, .int 1 tAB1, .int 2 tAB2, .int 3 tAB3, .int 4 tAB4, .int 5 tAB5, .int 6 tAB6, .int 7 tAB7] nAB, slAB⟩)
    : ∃ fd : FuncData, (∀ (s : Shared) (v : Value), BindsTo s fd ⟨[v], []⟩ [("_law_script", v)]) ∧ ∀ base : Heap, K.In base → base.Ns mainGlobals mg → FnOk l.prog w K mg base CX0 6 fa fd ["_law_script"] (spLaw (K := K)) := by
  have e := hfa.symm.trans (PySem.W.mg_of X G a25)
  cases e
  have F0 := fun_mk (st := sGoes) l0 c0 k0
  have b0 := F0.binds (ps := ["row"]) fun _ _ _ _ _ _ us hl => match us, hl with | [_], _ => rfl
  have m0 := PySem.W.mg_of X G a0
  have F1 := fun_mk (st := sTargets) l1 c1 k1
  have b1 := F1.binds (ps := ["row"]) fun _ _ _ _ _ _ us hl => match us, hl with | [_], _ => rfl
  have m1 := PySem.W.mg_of X G a1
  have F2 := fun_mk (st := sWays) l2 c2 k2
  have b2 := F2.binds (ps := ["rows", "r"]) fun _ _ _ _ _ _ us hl => match us, hl with | [_, _], _ => rfl
  have m2 := PySem.W.mg_of X G a2
  have F3 := fun_mk (st := sWhole) l3 c3 k3
  have b3 := F3.binds (ps := ["thing"]) fun _ _ _ _ _ _ us hl => match us, hl with | [_], _ => rfl
  have m3 := PySem.W.mg_of X G a3
  have F4 := fun_mk (st := sNum) l4 c4 k4
  have b4 := F4.binds (ps := ["kind", "thing"]) fun _ _ _ _ _ _ us hl => match us, hl with | [_, _], _ => rfl
  have m4 := PySem.W.mg_of X G a4
  have F5 := fun_mk (st := sReads) l5 c5 k5
  have b5 := F5.binds (ps := ["row"]) fun _ _ _ _ _ _ us hl => match us, hl with | [_], _ => rfl
  have m5 := PySem.W.mg_of X G a5
  have F6 := fun_mk (st := sWrites) l6 c6 k6
  have b6 := F6.binds (ps := ["row"]) fun _ _ _ _ _ _ us hl => match us, hl with | [_], _ => rfl
  have m6 := PySem.W.mg_of X G a6
  have F7 := fun_mk (st := sNeeds) l7 c7 k7
  have b7 := F7.binds (ps := ["row", "box"]) fun _ _ _ _ _ _ us hl => match us, hl with | [_, _], _ => rfl
  have m7 := PySem.W.mg_of X G a7
  have F8 := fun_mk (st := sAhead) l8 c8 k8
  have b8 := F8.binds (ps := ["rows", "r"]) fun _ _ _ _ _ _ us hl => match us, hl with | [_, _], _ => rfl
  have m8 := PySem.W.mg_of X G a8
  have F9 := fun_mk (st := sClaim) l9 c9 k9
  have b9 := F9.binds (ps := ["thing"]) fun _ _ _ _ _ _ us hl => match us, hl with | [_], _ => rfl
  have m9 := PySem.W.mg_of X G a9
  have F10 := fun_mk (st := sRight) l10 c10 k10
  have b10 := F10.binds (ps := ["rows", "claims", "r", "box"]) fun _ _ _ _ _ _ us hl => match us, hl with | [_, _, _, _], _ => rfl
  have m10 := PySem.W.mg_of X G a10
  have F11 := fun_mk (st := sFree) l11 c11 k11
  have b11 := F11.binds (ps := ["rows", "claims"]) fun _ _ _ _ _ _ us hl => match us, hl with | [_, _], _ => rfl
  have m11 := PySem.W.mg_of X G a11
  have F12 := fun_mk (st := sRAhead) l12 c12 k12
  have b12 := F12.binds (ps := ["rows"]) fun _ _ _ _ _ _ us hl => match us, hl with | [_], _ => rfl
  have m12 := PySem.W.mg_of X G a12
  have F13 := fun_mk (st := sRNeed) l13 c13 k13
  have b13 := F13.binds (ps := ["rows", "ahead", "box"]) fun _ _ _ _ _ _ us hl => match us, hl with | [_, _, _], _ => rfl
  have m13 := PySem.W.mg_of X G a13
  have F14 := fun_mk (st := sFBox) l14 c14 k14
  have b14 := F14.binds (ps := ["rows"]) fun _ _ _ _ _ _ us hl => match us, hl with | [_], _ => rfl
  have m14 := PySem.W.mg_of X G a14
  have F15 := fun_mk (st := sCell) l15 c15 k15
  have b15 := F15.binds (ps := ["_law_script", "_law_k"]) fun _ _ _ _ _ _ us hl => match us, hl with | [_, _], _ => rfl
  have m15 := PySem.W.mg_of X G a15
  have F16 := fun_mk (st := sDigit) l16 c16 k16
  have b16 := F16.binds (ps := ["_law_state", "_law_base"]) fun _ _ _ _ _ _ us hl => match us, hl with | [_, _], _ => rfl
  have m16 := PySem.W.mg_of X G a16
  have F17 := fun_mk (st := sRow) l17 c17 k17
  have b17 := F17.binds (ps := ["_law_cell", "_law_many", "_law_boxes"]) fun _ _ _ _ _ _ us hl => match us, hl with | [_, _, _], _ => rfl
  have m17 := PySem.W.mg_of X G a17
  have F18 := fun_mk (st := sProg) l18 c18 k18
  have b18 := F18.binds (ps := ["_law_script", "_law_boxes"]) fun _ _ _ _ _ _ us hl => match us, hl with | [_, _], _ => rfl
  have m18 := PySem.W.mg_of X G a18
  have F19 := fun_mk (st := sLNeeds) l19 c19 k19
  have b19 := F19.binds (ps := ["_law_row_here", "_law_box"]) fun _ _ _ _ _ _ us hl => match us, hl with | [_, _], _ => rfl
  have m19 := PySem.W.mg_of X G a19
  have F20 := fun_mk (st := sLater) l20 c20 k20
  have b20 := F20.binds (ps := ["_law_rows", "_law_number"]) fun _ _ _ _ _ _ us hl => match us, hl with | [_, _], _ => rfl
  have m20 := PySem.W.mg_of X G a20
  have F21 := fun_mk (st := sIsFree) l21 c21 k21
  have b21 := F21.binds (ps := ["_law_rows", "_law_number", "_law_box"]) fun _ _ _ _ _ _ us hl => match us, hl with | [_, _, _], _ => rfl
  have m21 := PySem.W.mg_of X G a21
  have F22 := fun_mk (st := sPlain) l22 c22 k22
  have b22 := F22.binds (ps := ["_law_first"]) fun _ _ _ _ _ _ us hl => match us, hl with | [_], _ => rfl
  have m22 := PySem.W.mg_of X G a22
  have F23 := fun_mk (st := sPlainDue) l23 c23 k23
  have b23 := F23.binds (ps := ["_law_rows"]) fun _ _ _ _ _ _ us hl => match us, hl with | [_], _ => rfl
  have m23 := PySem.W.mg_of X G a23
  have F24 := fun_mk (st := sFormed) l24 c24 k24
  have b24 := F24.binds (ps := ["_law_found", "_law_rows"]) fun _ _ _ _ _ _ us hl => match us, hl with | [_, _], _ => rfl
  have m24 := PySem.W.mg_of X G a24
  have F25 := fun_mk (st := sLaw) l25 c25 k25
  have T : Txt K w.params mg := ⟨⟨pB, PySem.W.mg_of X G aB, ⟨esB, nB, lB⟩, fa_cons ⟨qB0, ⟨esB, nB, lB, kB, oB, _, eB0, rfl⟩, fun H => .inr ⟨_, _, _, lB0, rfl, rfl, (by show 1 ≤ sizeLine; decide), .cons ⟨_, rfl⟩ (.nil)⟩⟩
      (fa_cons ⟨qB1, ⟨esB, nB, lB, kB, oB, _, eB1, rfl⟩, fun H => .inr ⟨_, _, _, lB1, rfl, rfl, (by show 1 ≤ sizeLine; decide), .cons ⟨_, rfl⟩ (.nil)⟩⟩
      (fa_cons ⟨qB2, ⟨esB, nB, lB, kB, oB, _, eB2, rfl⟩, fun H => .inr ⟨_, _, _, lB2, rfl, rfl, (by show 2 ≤ sizeLine; decide), .cons ⟨_, rfl⟩ (.cons ⟨_, rfl⟩ (.nil))⟩⟩
      (fa_cons ⟨qB3, ⟨esB, nB, lB, kB, oB, _, eB3, rfl⟩, fun H => .inr ⟨_, _, _, lB3, rfl, rfl, (by show 2 ≤ sizeLine; decide), .cons ⟨_, rfl⟩ (.cons ⟨_, rfl⟩ (.nil))⟩⟩
      (fa_cons ⟨qB4, ⟨esB, nB, lB, kB, oB, _, eB4, rfl⟩, fun H => .inr ⟨_, _, _, lB4, rfl, rfl, (by show 1 ≤ sizeLine; decide), .cons ⟨_, rfl⟩ (.nil)⟩⟩
      (fa_cons ⟨qB5, ⟨esB, nB, lB, kB, oB, _, eB5, rfl⟩, fun H => .inr ⟨_, _, _, lB5, rfl, rfl, (by show 2 ≤ sizeLine; decide), .cons ⟨_, rfl⟩ (.cons ⟨_, rfl⟩ (.nil))⟩⟩
      (fa_cons ⟨qB6, ⟨esB, nB, lB, kB, oB, _, eB6, rfl⟩, fun H => .inr ⟨_, _, _, lB6, rfl, rfl, (by show 1 ≤ sizeLine; decide), .cons ⟨_, rfl⟩ (.nil)⟩⟩
      (fa_cons ⟨qB7, ⟨esB, nB, lB, kB, oB, _, eB7, rfl⟩, fun H => .inr ⟨_, _, _, lB7, rfl, rfl, (by show 1 ≤ sizeLine; decide), .cons ⟨_, rfl⟩ (.nil)⟩⟩
      (fa_cons ⟨qB8, ⟨esB, nB, lB, kB, oB, _, eB8, rfl⟩, fun H => .inr ⟨_, _, _, lB8, rfl, rfl, (by show 1 ≤ sizeLine; decide), .cons ⟨_, rfl⟩ (.nil)⟩⟩
      (fa_cons ⟨qB9, ⟨esB, nB, lB, kB, oB, _, eB9, rfl⟩, fun H => .inr ⟨_, _, _, lB9, rfl, rfl, (by show 1 ≤ sizeLine; decide), .cons ⟨_, rfl⟩ (.nil)⟩⟩
      (fa_cons ⟨qB10, ⟨esB, nB, lB, kB, oB, _, eB10, rfl⟩, fun H => .inr ⟨_, _, _, lB10, rfl, rfl, (by show 1 ≤ sizeLine; decide), .cons ⟨_, rfl⟩ (.nil)⟩⟩
      (fa_cons ⟨qB11, ⟨esB, nB, lB, kB, oB, _, eB11, rfl⟩, fun H => .inr ⟨_, _, _, lB11, rfl, rfl, (by show 1 ≤ sizeLine; decide), .cons ⟨_, rfl⟩ (.nil)⟩⟩
      (fa_nil)))))))))))),
     fa_cons ⟨esB, nB, lB, kB, oB, none, x0, trivial⟩
      (fa_cons ⟨esB, nB, lB, kB, oB, none, x1, trivial⟩
      (fa_cons ⟨esB, nB, lB, kB, oB, none, x2, trivial⟩
      (fa_cons ⟨esB, nB, lB, kB, oB, none, x3, trivial⟩
      (fa_cons ⟨esB, nB, lB, kB, oB, none, x4, trivial⟩
      (fa_cons ⟨esB, nB, lB, kB, oB, none, x5, trivial⟩
      (fa_cons ⟨esB, nB, lB, kB, oB, none, x6, trivial⟩
      (fa_cons ⟨esB, nB, lB, kB, oB, none, x7, trivial⟩
      (fa_nil))))))))⟩,
    ⟨pT0, PySem.W.mg_of X G aT0, fun H => .inr ⟨_, _, _, lT0, rfl, rfl, (by show 7 ≤ sizeLine; decide), .cons ⟨_, rfl⟩ (.cons ⟨_, rfl⟩ (.cons ⟨_, rfl⟩ (.cons ⟨_, rfl⟩ (.cons ⟨_, rfl⟩ (.cons ⟨_, rfl⟩ (.cons ⟨_, rfl⟩ (.nil)))))))⟩⟩, ⟨pT1, PySem.W.mg_of X G aT1, fun H => .inr ⟨_, _, _, lT1, rfl, rfl, (by show 3 ≤ sizeLine; decide), .cons ⟨_, rfl⟩ (.cons ⟨_, rfl⟩ (.cons ⟨_, rfl⟩ (.nil)))⟩⟩, ⟨pT2, PySem.W.mg_of X G aT2, fun H => .inr ⟨_, _, _, lT2, rfl, rfl, (by show 4 ≤ sizeLine; decide), .cons ⟨_, rfl⟩ (.cons ⟨_, rfl⟩ (.cons ⟨_, rfl⟩ (.cons ⟨_, rfl⟩ (.nil))))⟩⟩, ⟨pAB, PySem.W.mg_of X G aAB, fun H => .inr ⟨_, _, _, lAB, rfl, rfl, (by show 8 ≤ sizeLine; decide), .cons ⟨_, rfl⟩ (.cons ⟨_, rfl⟩ (.cons ⟨_, rfl⟩ (.cons ⟨_, rfl⟩ (.cons ⟨_, rfl⟩ (.cons ⟨_, rfl⟩ (.cons ⟨_, rfl⟩ (.cons ⟨_, rfl⟩ (.nil))))))))⟩⟩, 
    ⟨pD, PySem.W.mg_of X G aD, qD0, ⟨esD, nD, lD, kD, oD, _, eD0, rfl⟩, fun H => .inr ⟨_, _, _, lD0, rfl, rfl, (by show 2 ≤ sizeLine; decide), .cons ⟨_, rfl⟩ (.cons ⟨_, rfl⟩ (.nil))⟩⟩, PySem.W.mg_none_of X G z_set, PySem.W.mg_none_of X G z_sorted, PySem.W.mg_none_of X G z_list, PySem.W.mg_none_of X G z_int, PySem.W.mg_none_of X G z_bool, PySem.W.mg_none_of X G z_tuple, PySem.W.mg_none_of X G z_isinstance, PySem.W.mg_none_of X G z_min, PySem.W.mg_none_of X G z_range, PySem.W.mg_none_of X G z_len, PySem.W.mg_none_of X G z_all, PySem.W.mg_none_of X G z_enumerate, PySem.W.mg_none_of X G z_max, PySem.W.mg_none_of X G z_reversed⟩
  refine ⟨PySem.W.fnOf "law" "law" (defArgs sLaw) (defBody sLaw) (defScope sLaw) .none kV25 dc25 pm25 an25 cd25 ct25, fun s v => .of_eq rfl, fun base _ _ => ?_⟩
  have FI := fun_mk (st := sXI) lgI cgI kgI
  have bI := FI.binds (ps := ["self", "at"]) fun _ _ _ _ _ _ us hl => match us, hl with | [_, _], _ => rfl
  have CX : XIni K cNoFree cRowError gI := ⟨⟨_, _, _, _, _, _, _, _, _, _, _, _, _, _, xlk⟩, agI, igI, ⟨xq⟩, xrt, xsa, xna, xnt, xhd, ⟨xga, xgh, xcl, xgt, xtk, xob, xbx, by rw [xci]; rfl⟩, xsg, xrr, xfi⟩
  have mRE := PySem.W.mg_of X G xRowError
  have mNF := PySem.W.mg_of X G xNoFree
  have GI := ok_xi (P := l.prog) (w := w) (base := base) FI CX mRE
  have GW := ok_whole (P := l.prog) (w := w) (base := base) F3 T
  have GN := ok_num (P := l.prog) (w := w) (base := base) F4 T GW F3.kp b3 m3
  have GGo := ok_goes (P := l.prog) (w := w) (base := base) F0 T
  have GTa := ok_targets (P := l.prog) (w := w) (base := base) F1 T
  have GWy := ok_ways (P := l.prog) (w := w) (base := base) F2 T GGo F0.kp b0 m0 GTa F1.kp b1 m1
  have GRd := ok_reads (P := l.prog) (w := w) (base := base) F5 T
  have GWr := ok_writes (P := l.prog) (w := w) (base := base) F6 T
  have GNe := ok_needs (P := l.prog) (w := w) (base := base) F7 T GRd F5.kp b5 m5
  have GAh := ok_ahead (P := l.prog) (w := w) (base := base) F8 T GTa F1.kp b1 m1 GWy F2.kp b2 m2
  have GCl := ok_claim (P := l.prog) (w := w) (base := base) F9 T GN F4.kp b4 m4
  have GRi := ok_right (P := l.prog) (w := w) (base := base) F10 T GNe F7.kp b7 m7 GWr F6.kp b6 m6 GAh F8.kp b8 m8
  have GFr := ok_free (P := l.prog) (w := w) (base := base) F11 T GCl F9.kp b9 m9 GRi F10.kp b10 m10 CX xkc GI bI mNF
  have GC := ok_cell (P := l.prog) (w := w) (base := base) F15 T
  have GDi := ok_digit (P := l.prog) (w := w) (base := base) F16 T
  have GRo := ok_row (P := l.prog) (w := w) (base := base) F17 T GDi F16.kp b16 m16
  have GPr := ok_prog (P := l.prog) (w := w) (base := base) F18 T GRo F17.kp b17 m17
  have GRA := ok_rahead (P := l.prog) (w := w) (base := base) F12 T GAh F8.kp b8 m8
  have GRN := ok_rneed (P := l.prog) (w := w) (base := base) F13 T GNe F7.kp b7 m7 GWr F6.kp b6 m6
  have GFB := ok_fbox (P := l.prog) (w := w) (base := base) F14 T GRA F12.kp b12 m12 GRN F13.kp b13 m13
  have GLn := ok_lneeds (P := l.prog) (w := w) (base := base) F19 T
  have GLl := ok_later (P := l.prog) (w := w) (base := base) F20 T
  have GIf := ok_isfree (P := l.prog) (w := w) (base := base) F21 T GLn F19.kp b19 m19 GLl F20.kp b20 m20
  have GPl := ok_plain (P := l.prog) (w := w) (base := base) F22 T
  have GPd := ok_plaindue (P := l.prog) (w := w) (base := base) F23 T
  have GFm := ok_formed (P := l.prog) (w := w) (base := base) F24 T
  exact ok_law F25 T GC F15.kp b15 m15 GPr F18.kp b18 m18 GIf F21.kp b21 m21 GFB F14.kp b14 m14 GFm F24.kp b24 m24 GFr F11.kp b11 m11 GPl F22.kp b22 m22 GPd F23.kp b23 m23
theorem walk {l : PySem.W.OpenLaw} {q : Program} {loose : List Str} {XP : (Str → Option Value) → Heap → Prop} {YP : World → Heap → Prop} {d : DefRec} {K : Params → PySem.W.Frag} (hn : l.most = some 63) (hdf : d.params.defaults = [])
    (hY : ∀ (w : World) (h : Heap), YP w h → (K w.params).In h)
    (F : ∀ (w : World) (mg : Str → Option Value) (fa : Addr) (h : Heap), (K w.params).In h → h.Ns mainGlobals mg → mg d.name = some (.ref fa) →
      ∃ fd : FuncData, (∀ (s : Shared) (u : Value), BindsTo s fd ⟨[u], []⟩ [("_law_script", u)]) ∧ ∀ base : Heap, (K w.params).In base → base.Ns mainGlobals mg → FnOk l.prog w (K w.params) mg base CX0 6 fa fd ["_law_script"] (spLaw (K := K w.params))) :
    PySem.W.WalkO q loose XP YP l.row.toRowW d [] (fun f vs => PySem.call f vs) :=
  L2.walk_of (n := 63) (k := 6) (x := "_law_script") (CX := fun _ => CX0) (sp := fun w => spLaw (K := K w.params)) hn (by decide) hdf ⟨rfl, by decide, by decide⟩ hY F (fun _ _ a ns hl _ hS => ⟨a, ns, rfl, hS, hl, fun _ => rfl⟩) fun _ _ _ _ _ z => z
end My
open PySem PySem.W PyProof.Rows
set_option maxRecDepth 100000 in
set_option maxHeartbeats 0 in
theorem PySem.Challenge.cw_widenrows_k34_free_boxes_told_holds : PySem.Challenge.rw_widenrows_k34_free_boxes_told.Holds := by
  w_on; o_law; k_head; (case hw => w_witness2)
  k_fill
  refine My.walk (l := PySem.Challenge.rw_widenrows_k34_free_boxes_told) rfl rfl (fun w h Y => PySem.W.kIn_of Y) ?F
  case F =>
    intro w mg fa h KX G hmg
    refine' My.all_mk KX G hmg ?a0 ?l0 ?c0 ?k0 ?a1 ?l1 ?c1 ?k1 ?a2 ?l2 ?c2 ?k2 ?a3 ?l3 ?c3 ?k3 ?a4 ?l4 ?c4 ?k4 ?a5 ?l5 ?c5 ?k5 ?a6 ?l6 ?c6 ?k6 ?a7 ?l7 ?c7 ?k7 ?a8 ?l8 ?c8 ?k8 ?a9 ?l9 ?c9 ?k9 ?a10 ?l10 ?c10 ?k10 ?a11 ?l11 ?c11 ?k11 ?a12 ?l12 ?c12 ?k12 ?a13 ?l13 ?c13 ?k13 ?a14 ?l14 ?c14 ?k14 ?a15 ?l15 ?c15 ?k15 ?a16 ?l16 ?c16 ?k16 ?a17 ?l17 ?c17 ?k17 ?a18 ?l18 ?c18 ?k18 ?a19 ?l19 ?c19 ?k19 ?a20 ?l20 ?c20 ?k20 ?a21 ?l21 ?c21 ?k21 ?a22 ?l22 ?c22 ?k22 ?a23 ?l23 ?c23 ?k23 ?a24 ?l24 ?c24 ?k24 ?a25 ?l25 ?c25 ?k25 ?aT0 ?lT0 ?aT1 ?lT1 ?aT2 ?lT2 ?z_set ?z_sorted ?z_list ?z_int ?z_bool ?z_tuple ?z_isinstance ?z_min ?z_range ?z_len ?z_all ?z_enumerate ?z_max ?z_reversed ?aB ?lB ?kB ?oB ?eB0 ?lB0 ?eB1 ?lB1 ?eB2 ?lB2 ?eB3 ?lB3 ?eB4 ?lB4 ?eB5 ?lB5 ?eB6 ?lB6 ?eB7 ?lB7 ?eB8 ?lB8 ?eB9 ?lB9 ?eB10 ?lB10 ?eB11 ?lB11 ?x0 ?x1 ?x2 ?x3 ?x4 ?x5 ?x6 ?x7 ?aD ?lD ?kD ?oD ?eD0 ?lD0 ?xNoFree ?xRowError ?agI ?igI ?lgI ?cgI ?kgI ?xlk ?xq ?xrt ?xsa ?xna ?xnt ?xhd ?xga ?xgh ?xcl ?xgt ?xtk ?xob ?xbx ?xci ?xsg ?xrr ?xfi ?xkc ?xexm ?xown ?xval ?aAB ?lAB
    (case a0 => k_is)
    (case l0 => k_is)
    (case c0 => k_is)
    (case k0 => k_is)
    (case a1 => k_is)
    (case l1 => k_is)
    (case c1 => k_is)
    (case k1 => k_is)
    (case a2 => k_is)
    (case l2 => k_is)
    (case c2 => k_is)
    (case k2 => k_is)
    (case a3 => k_is)
    (case l3 => k_is)
    (case c3 => k_is)
    (case k3 => k_is)
    (case a4 => k_is)
    (case l4 => k_is)
    (case c4 => k_is)
    (case k4 => k_is)
    (case a5 => k_is)
    (case l5 => k_is)
    (case c5 => k_is)
    (case k5 => k_is)
    (case a6 => k_is)
    (case l6 => k_is)
    (case c6 => k_is)
    (case k6 => k_is)
    (case a7 => k_is)
    (case l7 => k_is)
    (case c7 => k_is)
    (case k7 => k_is)
    (case a8 => k_is)
    (case l8 => k_is)
    (case c8 => k_is)
    (case k8 => k_is)
    (case a9 => k_is)
    (case l9 => k_is)
    (case c9 => k_is)
    (case k9 => k_is)
    (case a10 => k_is)
    (case l10 => k_is)
    (case c10 => k_is)
    (case k10 => k_is)
    (case a11 => k_is)
    (case l11 => k_is)
    (case c11 => k_is)
    (case k11 => k_is)
    (case a12 => k_is)
    (case l12 => k_is)
    (case c12 => k_is)
    (case k12 => k_is)
    (case a13 => k_is)
    (case l13 => k_is)
    (case c13 => k_is)
    (case k13 => k_is)
    (case a14 => k_is)
    (case l14 => k_is)
    (case c14 => k_is)
    (case k14 => k_is)
    (case a15 => k_is)
    (case l15 => k_is)
    (case c15 => k_is)
    (case k15 => k_is)
    (case a16 => k_is)
    (case l16 => k_is)
    (case c16 => k_is)
    (case k16 => k_is)
    (case a17 => k_is)
    (case l17 => k_is)
    (case c17 => k_is)
    (case k17 => k_is)
    (case a18 => k_is)
    (case l18 => k_is)
    (case c18 => k_is)
    (case k18 => k_is)
    (case a19 => k_is)
    (case l19 => k_is)
    (case c19 => k_is)
    (case k19 => k_is)
    (case a20 => k_is)
    (case l20 => k_is)
    (case c20 => k_is)
    (case k20 => k_is)
    (case a21 => k_is)
    (case l21 => k_is)
    (case c21 => k_is)
    (case k21 => k_is)
    (case a22 => k_is)
    (case l22 => k_is)
    (case c22 => k_is)
    (case k22 => k_is)
    (case a23 => k_is)
    (case l23 => k_is)
    (case c23 => k_is)
    (case k23 => k_is)
    (case a24 => k_is)
    (case l24 => k_is)
    (case c24 => k_is)
    (case k24 => k_is)
    (case a25 => k_is)
    (case l25 => k_is)
    (case c25 => k_is)
    (case k25 => k_is)
    (case aT0 => k_is)
    (case lT0 => k_is)
    (case aT1 => k_is)
    (case lT1 => k_is)
    (case aT2 => k_is)
    (case lT2 => k_is)
    (case z_set => k_is)
    (case z_sorted => k_is)
    (case z_list => k_is)
    (case z_int => k_is)
    (case z_bool => k_is)
    (case z_tuple => k_is)
    (case z_isinstance => k_is)
    (case z_min => k_is)
    (case z_range => k_is)
    (case z_len => k_is)
    (case z_all => k_is)
    (case z_enumerate => k_is)
    (case z_max => k_is)
    (case z_reversed => k_is)
    (case aB => k_is)
    (case lB => k_is)
    (case kB => k_keys)
    (case oB => first | exact rfl | decide | k_is)
    (case eB0 => k_is)
    (case lB0 => k_is)
    (case eB1 => k_is)
    (case lB1 => k_is)
    (case eB2 => k_is)
    (case lB2 => k_is)
    (case eB3 => k_is)
    (case lB3 => k_is)
    (case eB4 => k_is)
    (case lB4 => k_is)
    (case eB5 => k_is)
    (case lB5 => k_is)
    (case eB6 => k_is)
    (case lB6 => k_is)
    (case eB7 => k_is)
    (case lB7 => k_is)
    (case eB8 => k_is)
    (case lB8 => k_is)
    (case eB9 => k_is)
    (case lB9 => k_is)
    (case eB10 => k_is)
    (case lB10 => k_is)
    (case eB11 => k_is)
    (case lB11 => k_is)
    (case x0 => k_is)
    (case x1 => k_is)
    (case x2 => k_is)
    (case x3 => k_is)
    (case x4 => k_is)
    (case x5 => k_is)
    (case x6 => k_is)
    (case x7 => k_is)
    (case aD => k_is)
    (case lD => k_is)
    (case kD => k_keys)
    (case oD => first | exact rfl | decide | k_is)
    (case eD0 => k_is)
    (case lD0 => k_is)
    (case xNoFree => k_is)
    (case xRowError => k_is)
    (case agI => k_is)
    (case igI => k_is)
    (case lgI => k_is)
    (case cgI => k_is)
    (case kgI => k_is)
    (case xlk => k_is)
    (case xq => k_exc)
    (case xrt => k_is)
    (case xsa => k_is)
    (case xna => k_is)
    (case xnt => k_is)
    (case xhd => k_is)
    (case xga => k_is)
    (case xgh => k_is)
    (case xcl => k_is)
    (case xgt => k_is)
    (case xtk => k_is)
    (case xob => k_is)
    (case xbx => k_is)
    (case xci => k_is)
    (case xsg => k_is)
    (case xrr => k_is)
    (case xfi => k_is)
    (case xkc => k_is)
    (case xexm => kts_exm)
    (case xown => kit_is)
    (case xval => kit_is)
    (case aAB => k_is)
    (case lAB => k_is)
#print axioms PySem.Challenge.cw_widenrows_k34_free_boxes_told_holds

