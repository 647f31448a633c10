import PyProof.Rows.All
import Wide.All
import OpenK.AllK
import Wide.FinOn
import Lean
import PyProof.EqAt
import PyProof.EqKinds
import PyProof.TupleCall
import PyProof.NeKinds
import PyProof.ListRange
import KE.KDictSum
import Wide.Seal
import PyProof.EnumIter
import PyProof.EnumFor
import PyProof.EnumMake
import PyProof.EnumStmt
import PyProof.ConsumeWalk
import KE.KPairComp
import PyProof.DictItemsLoops
import KE.KEqDict
import PyProof.AttrMissSeq
import PyProof.CollectWalk
import OpenK.KTop
import PyProof.TupleOps
import PyProof.ListMulRoad
import PyProof.FactsAll.tuple_2
import PyProof.ZipIter
import PyProof.TupleIter
import PyProof.WalksMore
import KE.KTurns
import PyProof.StationsW
import PyProof.Rows.OwnQ
import OpenK.KOwn
import KE.KTryMore
import PyProof.NsDelKeeps
import PyProof.ExcArgsOwn
import PyProof.ExcAttrAll.ValueError
import PyProof.InstStoreFacts
import PyProof.ExcBaseAll.ValueError
import PyProof.Rows.FStr
import OpenK.KCls
import PyProof.StrBlock2
import PyProof.Rows.SortWalk
import KE.KFind
import PyProof.Rows.TupAdd
import PyProof.FactsAll.subtypes_4
import KE.KIntText
import PyProof.StrWalks
import PySem.Challenge.RW_widenrows_k76_texts_of_no_paper
set_option Elab.async false
set_option linter.all false
set_option maxRecDepth 100000
/-! THE HAND LAYER, for ints, bools, texts, own classes, LISTS and tuples (index, slices, in, append, pop ..), calls, loops. Paste it whole ahead of your own text; what your proof does not reach may be deleted. -/
namespace L2
open PySem PySem.Spec PyProof.Rows

/-- a key: an int or a str -/
abbrev Key := Sum Int Str
def keyIs : Key → Value → Bool
  | .inl k, v => Value.isInt k v
  | .inr x, v => Value.isStrOf x v
def keyH (w : World) : Key → Int
  | .inl k => hashInt k
  | .inr x => hashStr w x
theorem keyIs_shape : ∀ {k : Key} {v : Value}, keyIs k v = true → (∃ i t, k = Sum.inl i ∧ v = Value.int i t) ∨ (∃ x t, k = Sum.inr x ∧ v = Value.str x t)
  | .inl i, v, h => by
    obtain ⟨t, e⟩ := Value.isInt_shape (k := i) (v := v) h
    exact .inl ⟨i, t, rfl, e⟩
  | .inr x, v, h => by
    obtain ⟨t, e⟩ := Value.isStrOf_shape (x := x) (v := v) h
    exact .inr ⟨x, t, rfl, e⟩
theorem keyIs_int (i : Int) (t : Tok) : keyIs (.inl i) (.int i t) = true := by simp [keyIs, Value.isInt]
theorem keyIs_str (x : Str) (t : Tok) : keyIs (.inr x) (.str x t) = true := by simp [keyIs, Value.isStrOf]
theorem key_ll (a b : Int) : decide ((Sum.inl a : Key) = Sum.inl b) = (a == b) := by
  by_cases e : a = b
  · subst e; simp
  · have h : ¬ (Sum.inl a : Key) = Sum.inl b := fun q => e (Sum.inl.inj q)
    rw [decide_eq_false h]
    exact (beq_eq_false_iff_ne.mpr e).symm
theorem key_rr (a b : Str) : decide ((Sum.inr a : Key) = Sum.inr b) = decide (a = b) := by
  by_cases e : a = b
  · subst e; simp
  · have h : ¬ (Sum.inr a : Key) = Sum.inr b := fun q => e (Sum.inr.inj q)
    rw [decide_eq_false h, decide_eq_false e]
theorem key_lr (a : Int) (b : Str) : decide ((Sum.inl a : Key) = Sum.inr b) = false := decide_eq_false (fun q => nomatch q)
theorem key_rl (a : Str) (b : Int) : decide ((Sum.inr a : Key) = Sum.inl b) = false := decide_eq_false (fun q => nomatch q)

def mixKind (prog : Program) (w : World) : PySem.KeyKind prog w Key where
  is := keyIs
  hash := keyH w
  inj := fun v a b ha hb => by
    rcases keyIs_shape ha with ⟨i, t, rfl, rfl⟩ | ⟨x, t, rfl, rfl⟩
    · rcases keyIs_shape hb with ⟨j, u, rfl, e⟩ | ⟨y, u, rfl, e⟩
      · injection e with e1 _; rw [e1]
      · exact nomatch e
    · rcases keyIs_shape hb with ⟨j, u, rfl, e⟩ | ⟨y, u, rfl, e⟩
      · exact nomatch e
      · injection e with e1 _; rw [e1]
  byValue := fun k v h => by
    rcases keyIs_shape h with ⟨i, t, rfl, rfl⟩ | ⟨x, t, rfl, rfl⟩ <;> rfl
  pyHash := fun hv h => by
    rcases keyIs_shape hv with ⟨i, t, rfl, rfl⟩ | ⟨x, t, rfl, rfl⟩
    · exact wpAny_pyHash_int h
    · exact wpAny_pyHash_str h
  eqBool := fun hu hv h => by
    rcases keyIs_shape hu with ⟨i, t, rfl, rfl⟩ | ⟨x, t, rfl, rfl⟩
    · rcases keyIs_shape hv with ⟨j, u, rfl, rfl⟩ | ⟨y, u, rfl, rfl⟩
      · rw [key_ll] at h; exact wpAny_eqBool_int h
      · rw [key_lr] at h; exact SeqAt.EqAt.int_str i t y u _ _ _ _ h
    · rcases keyIs_shape hv with ⟨j, u, rfl, rfl⟩ | ⟨y, u, rfl, rfl⟩
      · rw [key_rl] at h; exact SeqAt.EqAt.str_int x t j u _ _ _ _ h
      · rw [key_rr] at h; exact wpAny_eqBool_str h
  «strs» := fun k x t v h => by
    rcases keyIs_shape h with ⟨i, u, rfl, e⟩ | ⟨y, u, rfl, e⟩
    · exact nomatch e
    · injection e with e1 _
      subst e1
      cases v <;> rfl

theorem mixKind_int (prog : Program) (w : World) (i : Int) (t : Tok) : (mixKind prog w).is (.inl i) (.int i t) = true := keyIs_int i t
theorem mixKind_str (prog : Program) (w : World) (x : Str) (t : Tok) : (mixKind prog w).is (.inr x) (.str x t) = true := keyIs_str x t
end L2

namespace L2
open PySem PySem.Spec PyProof.Rows

/-- a value, without the heap -/
inductive V where
  | non | bl (b : Bool) | int (i : Int) | str (x : Str) | byt (b : Array UInt8) | flt (b : UInt64) | ref (a : Addr) | ty (n : String)
  deriving DecidableEq

def RelV : V → Value → Prop
  | .non, u => u = Value.none
  | .bl b, u => u = Value.bool b
  | .int i, u => ∃ t, u = Value.int i t
  | .str x, u => ∃ t, u = Value.str x t
  | .byt b, u => ∃ t, u = Value.bytes b t
  | .flt b, u => ∃ t, u = Value.float b t
  | .ref a, u => u = Value.ref a
  | .ty n, u => u = Value.type n

abbrev Vals : List V → List Value → Prop := Paired RelV
theorem Vals.length {xs : List V} {us : List Value} (r : Vals xs us) : xs.length = us.length := Paired.length r
theorem Vals.get : ∀ {xs : List V} {us : List Value} {i : Nat} {x : V}, Vals xs us → xs[i]? = some x → ∃ u, us[i]? = some u ∧ RelV x u
  | _, _, _, _, .nil, e => by simp at e
  | _, _, 0, _, .cons r _, e => by simp at e; subst e; exact ⟨_, rfl, r⟩
  | _, _, i + 1, x, .cons _ t, e => by
    obtain ⟨u, h1, h2⟩ := Vals.get (i := i) (x := x) t (by simpa using e)
    exact ⟨u, by simpa using h1, h2⟩
theorem Vals.set {x : V} {u : Value} (r : RelV x u) : ∀ {xs : List V} {us : List Value} (i : Nat), Vals xs us → Vals (xs.set i x) (us.set i u)
  | _, _, _, .nil => .nil
  | _, _, 0, .cons _ t => .cons r t
  | _, _, i + 1, .cons q t => .cons q (Vals.set r i t)
theorem Vals.append : ∀ {xs ys : List V} {us ws : List Value}, Vals xs us → Vals ys ws → Vals (xs ++ ys) (us ++ ws)
  | _, _, _, _, .nil, s => s
  | _, _, _, _, .cons r t, s => .cons r (Vals.append t s)
theorem Vals.take : ∀ {xs : List V} {us : List Value} (n : Nat), Vals xs us → Vals (xs.take n) (us.take n)
  | _, _, 0, _ => .nil
  | _, _, _ + 1, .nil => .nil
  | _, _, n + 1, .cons r t => .cons r (Vals.take n t)
theorem Vals.drop : ∀ {xs : List V} {us : List Value} (n : Nat), Vals xs us → Vals (xs.drop n) (us.drop n)
  | _, _, 0, r => r
  | _, _, _ + 1, .nil => .nil
  | _, _, n + 1, .cons _ t => Vals.drop n t

def RelO : Option V → Option Value → Prop
  | some v, some u => RelV v u
  | none, none => True
  | _, _ => False
def KV {κ : Type} : List (κ × V) → List (κ × Value) → Prop := Paired fun (p : κ × V) (q : κ × Value) => p.1 = q.1 ∧ RelV p.2 q.2

/-- a key of a dict (00_mix): an int or a text -/
def kV : Key → V
  | .inl i => .int i
  | .inr x => .str x

/-- what stands at a tracked address -/
inductive HO where
  /-- a list -/
  | lst (xs : List V)
  /-- a tuple (never changes) -/
  | tup (xs : List V)
  /-- a dict whose keys are ints and texts; one whose keys are tuples of ints and texts (the empty one is both) -/
  | dK (kvs : List (Key × V)) | dT (kvs : List (List Key × V))
  /-- a set of ints: its members, its size -/
  | set (S : Int → Bool) (n : Nat)
  /-- an instance of the class at C, its dict at dx, its attributes -/
  | ins (C dx : Addr) (fs : List (Str × V))
  /-- the dict of the instance at x -/
  | own (x : Addr)
  /-- the dict of an exception -/
  | xd (fs : List (Str × V))
  /-- a bound method, f of x -/
  | met (f x : Addr)
  /-- a range object lo, lo + 1, .. below hi -/
  | rng (lo hi : Int)
  /-- a thing that is known to the object (the script; a dict while a loop walks it): read, never written while it is so -/
  | frz (o : Obj) (u : HO)
  /-- a code object's table -/
  | tbl (ps : Array Value)
  /-- any other thing, by what is true of its one object (a def of one's own: SetO a S n := HO.ext fun h => ..) -/
  | ext (φ : Heap → Prop)

abbrev Hp := Addr → Option HO
def upd (H : Hp) (a : Addr) (o : HO) : Hp := fun b => if b = a then some o else H b
theorem upd_same {H : Hp} {a : Addr} {o : HO} : upd H a o a = some o := by unfold upd; rw [if_pos rfl]
theorem upd_ne {H : Hp} {a b : Addr} {o : HO} (h : b ≠ a) : upd H a o b = H b := by unfold upd; rw [if_neg h]
/-- two objects of different content stand apart -/
theorem ne_of {H : Hp} {a b : Addr} {o u : HO} (h : H a = some o) (h' : H b = some u) (d : o ≠ u) : a ≠ b := by
  intro e; subst e; rw [h] at h'; exact d (Option.some.inj h')
theorem ne_of_none {H : Hp} {a b : Addr} {o : HO} (h : H a = some o) (h' : H b = none) : a ≠ b := by
  intro e; subst e; rw [h] at h'; cases h'

section
variable (P : Program) (w : World)
def ObjOk (H : Hp) (h : Heap) (a : Addr) : HO → Prop
  | .lst xs => xs.length ≤ sizeLine ∧ ∃ (its : List Value) (n : Nat), Vals xs its ∧ h.get? a = some { cls := .type "list", data := .seq its.toArray n }
  | .tup xs => xs.length ≤ sizeLine ∧ ∃ its : List Value, Vals xs its ∧ IsTup h a its.toArray
  | .dK kvs => kvs.length ≤ sizeLine ∧ (a == sysModules) = false ∧ ∃ vs, KV kvs vs ∧ h.DictOf (mixKind P w) a vs
  | .dT kvs => kvs.length ≤ sizeLine ∧ (a == sysModules) = false ∧ ∃ xs : List (List Key × Addr × Value),
      Paired (fun (p : List Key × V) (q : List Key × Addr × Value) => p.1 = q.1 ∧ H q.2.1 = some (.tup (p.1.map kV)) ∧ RelV p.2 q.2.2) kvs xs ∧
      ∃ o es ep, h.get? a = some o ∧ o.ExactDict ∧ o.data = .dict es ep ∧ es.toList = xs.map (entryOfKey (tupleKind (mixKind P w))) ∧ (xs.map (·.1)).Nodup
  | .set S n => h.SetOf (intKind P w) a S n
  | .ins C dx fs => H dx = some (.own a) ∧ fs.length ≤ 1000 ∧ dx ≠ a ∧ h.get? a = some (PySem.W.instObj C dx) ∧
      ∃ mA, h.Ns1 dx mA ∧ (∀ f, RelO (fs.lookup f) (mA f)) ∧ PySem.Within mA (fs.map (·.1))
  | .own _ => ∃ o, h.get? a = some o
  | .xd fs => ∃ mA, h.Ns1 a mA ∧ ∀ f, RelO (fs.lookup f) (mA f)
  | .rng lo hi => ∃ t u v, h.get? a = some { cls := .type "range", data := .fields #[.int lo t, .int hi u, .int 1 v] }
  | .frz o u => h.get? a = some o ∧ ObjOk H h a u
  | .tbl ps => h.get? a = some { cls := .none, data := .fields ps }
  | .met f x => h.get? a = some (PySem.W.methodObj (.ref f) (.ref x))
  | .ext φ => φ h ∧ (∃ o, h.get? a = some o) ∧ ∀ h1 h2 : Heap, φ h1 → (∀ o, h1.get? a = some o → h2.get? a = some o) → φ h2
/-- the abstract heap is held -/
def HOk (H : Hp) (h : Heap) : Prop := ∀ a o, H a = some o → ObjOk P w H h a o
end

section
variable {P : Program} {w : World} {H H' : Hp} {h h' : Heap} {a : Addr} {o : HO}
theorem ObjOk.lt (x : ObjOk P w H h a o) : a < h.objs.size := by
  cases o with
  | lst xs => obtain ⟨_, _, _, _, e⟩ := x; exact Heap.lt_size e
  | tup xs => obtain ⟨_, _, _, p⟩ := x; exact p.lt
  | dK kvs => obtain ⟨_, _, _, _, o, _, _, e, _⟩ := x; exact Heap.lt_size e
  | dT kvs => obtain ⟨_, _, _, _, o, _, _, e, _⟩ := x; exact Heap.lt_size e
  | set S n => obtain ⟨o, _, _, _, e, _⟩ := x; exact Heap.lt_size e
  | ins C dx fs => obtain ⟨_, _, _, e, _⟩ := x; exact Heap.lt_size e
  | own y => obtain ⟨_, e⟩ := x; exact Heap.lt_size e
  | xd fs => obtain ⟨_, ⟨_, _, _, e, _⟩, _⟩ := x; exact Heap.lt_size e
  | rng lo hi => obtain ⟨_, _, _, e⟩ := x; exact Heap.lt_size e
  | frz ob u => obtain ⟨e, _⟩ := x; exact Heap.lt_size e
  | tbl ps => exact Heap.lt_size (show h.get? a = some _ from x)
  | met f y => exact Heap.lt_size (show h.get? a = some _ from x)
  | ext φ => obtain ⟨_, ⟨_, e⟩, _⟩ := x; exact Heap.lt_size e
theorem Paired.mapP {α β : Type} {F G : α → β → Prop} : ∀ {l₁ : List α} {l₂ : List β}, Paired F l₁ l₂ → (∀ a b, F a b → G a b) → Paired G l₁ l₂
  | _, _, .nil, _ => .nil
  | _, _, .cons r t, f => .cons (f _ _ r) (Paired.mapP t f)
/-- what an object's description leans on: its own object, its own dict, the tuples -/
theorem ObjOk.stay (x : ObjOk P w H h a o) (k : ∀ b u, (b = a ∨ H b = some (.own a)) → h.get? b = some u → h'.get? b = some u)
    (ho : ∀ b, H b = some (.own a) → H' b = some (.own a)) (ht : ∀ b xs, H b = some (.tup xs) → H' b = some (.tup xs)) : ObjOk P w H' h' a o := by
  induction o with
  | lst xs => obtain ⟨z, its, n, r, e⟩ := x; exact ⟨z, its, n, r, k _ _ (.inl rfl) e⟩
  | tup xs => obtain ⟨z, its, r, ob, e, c⟩ := x; exact ⟨z, its, r, ob, k _ _ (.inl rfl) e, c⟩
  | dK kvs => obtain ⟨z, y, vs, r, ob, es, ep, e, c⟩ := x; exact ⟨z, y, vs, r, ob, es, ep, k _ _ (.inl rfl) e, c⟩
  | dT kvs =>
    obtain ⟨z, y, xs, r, ob, es, ep, e, c⟩ := x
    exact ⟨z, y, xs, Paired.mapP r fun p q z => ⟨z.1, ht _ _ z.2.1, z.2.2⟩, ob, es, ep, k _ _ (.inl rfl) e, c⟩
  | set S n => obtain ⟨ob, es, ep, t, e, c⟩ := x; exact ⟨ob, es, ep, t, k _ _ (.inl rfl) e, c⟩
  | ins C dx fs =>
    obtain ⟨d, z, ne, e, mA, ⟨od, es, ep, e2, c⟩, r⟩ := x
    exact ⟨ho _ d, z, ne, k _ _ (.inl rfl) e, mA, ⟨od, es, ep, k _ _ (.inr d) e2, c⟩, r⟩
  | own y => obtain ⟨ob, e⟩ := x; exact ⟨ob, k _ _ (.inl rfl) e⟩
  | xd fs => obtain ⟨mA, ⟨od, es, ep, e, c⟩, r⟩ := x; exact ⟨mA, ⟨od, es, ep, k _ _ (.inl rfl) e, c⟩, r⟩
  | rng lo hi => obtain ⟨t, u, v, e⟩ := x; exact ⟨t, u, v, k _ _ (.inl rfl) e⟩
  | frz ob u ih => obtain ⟨e, q⟩ := x; exact ⟨k _ _ (.inl rfl) e, ih q⟩
  | tbl ps =>
    have e : h.get? a = some { cls := .none, data := .fields ps } := x
    show h'.get? a = some { cls := .none, data := .fields ps }
    exact k a _ (.inl rfl) e
  | met f y =>
    have e : h.get? a = some (PySem.W.methodObj (.ref f) (.ref y)) := x
    show h'.get? a = some (PySem.W.methodObj (.ref f) (.ref y))
    exact k a _ (.inl rfl) e
  | ext φ => obtain ⟨p, ⟨o, e⟩, st⟩ := x; exact ⟨st _ _ p fun o q => k _ _ (.inl rfl) q, ⟨o, k _ _ (.inl rfl) e⟩, st⟩
theorem HOk.lt (x : HOk P w H h) (e : H a = some o) : a < h.objs.size := (x a o e).lt
theorem HOk.fresh (x : HOk P w H h) (e : h.objs.size ≤ a) : H a = none := by
  cases q : H a with
  | none => rfl
  | some u => exact absurd (Nat.lt_of_lt_of_le (x.lt q) e) (Nat.lt_irrefl _)
/-- every object of the heap is kept -/
theorem HOk.kept (x : HOk P w H h) (k : ∀ b u, h.get? b = some u → h'.get? b = some u) : HOk P w H h' := fun a o e =>
  (x a o e).stay (fun b u _ q => k b u q) (fun _ q => q) fun _ _ q => q
/-- a new object is laid and tracked -/
theorem HOk.laid (x : HOk P w H h) (k : ∀ b u, h.get? b = some u → h'.get? b = some u) (hp : h.objs.size ≤ a) (new : ObjOk P w (upd H a o) h' a o) : HOk P w (upd H a o) h' := fun b u e => by
  have hn := x.fresh hp
  by_cases hb : b = a
  · subst hb; rw [upd_same] at e; cases e; exact new
  · rw [upd_ne hb] at e
    exact (x b u e).stay (fun c v _ q => k c v q) (fun c q => by rw [upd_ne (ne_of_none q hn)]; exact q) fun c xs q => by rw [upd_ne (ne_of_none q hn)]; exact q
end

/-- what may be read as u: it is u, or a known u -/
def Rd (H : Hp) (a : Addr) (u : HO) : Prop := H a = some u ∨ ∃ o, H a = some (.frz o u)
theorem Rd.ok {P : Program} {w : World} {H : Hp} {h : Heap} {a : Addr} {u : HO} (r : Rd H a u) (x : HOk P w H h) : ObjOk P w H h a u := by
  rcases r with r | ⟨o, r⟩
  · exact x a u r
  · obtain ⟨_, q⟩ := x a _ r
    exact q
/-- what may be written -/
def Mut : Option HO → Prop
  | some (.lst _) => True
  | some (.dK _) => True
  | some (.dT _) => True
  | some (.set _ _) => True
  | some (.ins _ _ _) => True
  | some (.ext _) => True
  | _ => False
section
variable {P : Program} {w : World} {H : Hp} {h h' : Heap} {x e : Addr} {o' : HO}
/-- the object at e is changed: x itself, or the dict of the instance x -/
theorem HOk.write (ok : HOk P w H h) (mu : Mut (H x)) (he : e = x ∨ H e = some (.own x)) (k : ∀ b u, b ≠ e → h.get? b = some u → h'.get? b = some u) (heo : ∃ u, h'.get? e = some u)
    (new : ObjOk P w (upd H x o') h' x o') : HOk P w (upd H x o') h' := fun b u q => by
  have nown : ∀ c y, H c = some (.own y) → c ≠ x := fun c y r z => by subst z; rw [r] at mu; exact mu
  have ntup : ∀ c xs, H c = some (.tup xs) → c ≠ x := fun c xs r z => by subst z; rw [r] at mu; exact mu
  by_cases hb : b = x
  · subst hb; rw [upd_same] at q; cases q; exact new
  · rw [upd_ne hb] at q
    by_cases hbe : b = e
    · have q' : H b = some (.own x) := by
        rcases he with z | z
        · exact absurd (hbe.trans z) hb
        · rw [hbe]; exact z
      rw [q] at q'; cases q'
      obtain ⟨v, hv⟩ := heo
      exact ⟨v, by rw [hbe]; exact hv⟩
    · refine (ok b u q).stay (fun c v hc r => k c v ?_ r) (fun c r => by rw [upd_ne (nown c b r)]; exact r) fun c xs r => by rw [upd_ne (ntup c xs r)]; exact r
      rcases hc with rfl | hc
      · exact hbe
      · rintro rfl
        rcases he with z | z
        · exact nown c b hc z
        · rw [hc] at z; cases z; exact hb rfl
end

/-! ### kept unless tracked; of the frames at fs (the callers') the slots may change (an exception that passes writes there); of the records at ex (iterators) nothing is said -/
structure Un (fs ex : List Addr) (H H' : Hp) (h h' : Heap) : Prop where
  keep : ∀ b o, h.get? b = some o → H b = none → b ∉ fs → b ∉ ex → h'.get? b = some o
  slot : ∀ b o, h.get? b = some o → H b = none → b ∈ fs → b ∉ ex → ∃ sl, h'.get? b = some { o with slots := sl }
  free : ∀ b o, h.get? b = some o → H b = none → b ∉ ex → H' b = none
  there : ∀ b o, h.get? b = some o → b ∉ ex → ∃ o', h'.get? b = some o'
  tups : ∀ b xs, H b = some (.tup xs) → H' b = some (.tup xs)
  frzs : ∀ b o u, H b = some (.frz o u) → H' b = some (.frz o u)
  tbls : ∀ b ps, H b = some (.tbl ps) → ∃ more, H' b = some (.tbl (ps ++ more))
section
variable {fs fs' ex ex' : List Addr} {H H1 H2 : Hp} {h h1 h2 h' : Heap} {a x e : Addr} {o : HO}
theorem Un.any (u : Un fs ex H H1 h h1) {b : Addr} {ob : Obj} (q : h.get? b = some ob) (n : H b = none) (hx : b ∉ ex) : ∃ sl, h1.get? b = some { ob with slots := sl } := by
  by_cases hb : b ∈ fs
  · exact u.slot b ob q n hb hx
  · exact ⟨ob.slots, u.keep b ob q n hb hx⟩
theorem Un.trans (a : Un fs ex H H1 h h1) (b : Un fs ex H1 H2 h1 h2) : Un fs ex H H2 h h2 where
  keep := fun c ob q n hc hx => b.keep c ob (a.keep c ob q n hc hx) (a.free c ob q n hx) hc hx
  slot := fun c ob q n hc hx => by
    obtain ⟨sl, e1⟩ := a.slot c ob q n hc hx
    obtain ⟨sl', e2⟩ := b.slot c _ e1 (a.free c ob q n hx) hc hx
    exact ⟨sl', e2⟩
  free := fun c ob q n hx => by
    obtain ⟨o', e1⟩ := a.there c ob q hx
    exact b.free c o' e1 (a.free c ob q n hx) hx
  there := fun c ob q hx => by
    obtain ⟨o', e1⟩ := a.there c ob q hx
    exact b.there c o' e1 hx
  tups := fun c xs q => b.tups c xs (a.tups c xs q)
  frzs := fun c ob xs q => b.frzs c ob xs (a.frzs c ob xs q)
  tbls := fun c ps q => by
    obtain ⟨m1, e1⟩ := a.tbls c ps q
    obtain ⟨m2, e2⟩ := b.tbls c _ e1
    exact ⟨m1 ++ m2, by rw [e2, Array.append_assoc]⟩
theorem Un.kept (k : ∀ b u, h.get? b = some u → h'.get? b = some u) : Un fs ex H H h h' :=
  ⟨fun b ob q _ _ _ => k b ob q, fun b ob q _ _ _ => ⟨ob.slots, k b ob q⟩, fun _ _ _ n _ => n, fun b ob q _ => ⟨ob, k b ob q⟩, fun _ _ q => q, fun _ _ _ q => q, fun _ ps q => ⟨#[], by rw [q]; simp⟩⟩
theorem Un.refl : Un fs ex H H h h := Un.kept fun _ _ q => q
theorem Un.laid (k : ∀ b u, h.get? b = some u → h'.get? b = some u) (hp : h.objs.size ≤ a) (hn : H a = none) : Un fs ex H (upd H a o) h h' where
  keep := fun b u q _ _ _ => k b u q
  slot := fun b u q _ _ _ => ⟨u.slots, k b u q⟩
  free := fun b u q n _ => by rw [upd_ne (Nat.ne_of_lt (Nat.lt_of_lt_of_le (Heap.lt_size q) hp))]; exact n
  there := fun b u q _ => ⟨u, k b u q⟩
  tups := fun b xs q => by rw [upd_ne (ne_of_none q hn)]; exact q
  frzs := fun b u xs q => by rw [upd_ne (ne_of_none q hn)]; exact q
  tbls := fun b ps q => ⟨#[], by rw [upd_ne (ne_of_none q hn), q]; simp⟩
theorem Un.write (mu : Mut (H x)) (he : e = x ∨ H e = some (.own x)) (k : ∀ b u, b ≠ e → h.get? b = some u → h'.get? b = some u) (heo : ∃ u, h'.get? e = some u) : Un fs ex H (upd H x o) h h' := by
  have hx : ∀ b, H b = none → b ≠ x := fun b n z => by subst z; rw [n] at mu; exact mu
  have hb : ∀ b, H b = none → b ≠ e := fun b n z => by
    subst z
    rcases he with r | r
    · exact hx b n r
    · rw [n] at r; cases r
  have hm : ∀ b u, H b = some u → ¬ Mut (some u) → b ≠ x := fun b u q nm z => by subst z; rw [q] at mu; exact nm mu
  refine ⟨fun b u q n _ _ => k b u (hb b n) q, fun b u q n _ _ => ⟨u.slots, k b u (hb b n) q⟩, fun b u q n _ => by rw [upd_ne (hx b n)]; exact n, fun b u q _ => ?_,
    fun b xs q => by rw [upd_ne (hm b _ q fun z => z)]; exact q, fun b u xs q => by rw [upd_ne (hm b _ q fun z => z)]; exact q, fun b ps q => ⟨#[], by rw [upd_ne (hm b _ q fun z => z), q]; simp⟩⟩
  by_cases hbe : b = e
  · subst hbe; exact heo
  · exact ⟨u, k b u hbe q⟩
theorem Un.mono (u : Un fs ex H H1 h h1) (hs : ∀ b ∈ fs, b ∈ fs') (hx : ∀ b ∈ ex, b ∈ ex') : Un fs' ex' H H1 h h1 :=
  ⟨fun b ob q n hb he => u.keep b ob q n (fun z => hb (hs b z)) fun z => he (hx b z), fun _ _ q n _ he => u.any q n fun z => he (hx _ z), fun b ob q n he => u.free b ob q n fun z => he (hx b z), fun b ob q he => u.there b ob q fun z => he (hx b z), u.tups, u.frzs, u.tbls⟩
end

/-! ### the heap without what is tracked -/
def trk (h : Heap) (H : Hp) : List Addr := (List.range h.objs.size).filter fun a => (H a).isSome
def hidT (h : Heap) (H : Hp) : Heap := PySem.W.hideAll h (trk h H)
theorem hidT_size (h : Heap) (H : Hp) : (hidT h H).objs.size = h.objs.size := PySem.W.hideAll_size _ _
theorem hidT_get {h : Heap} {H : Hp} {b : Addr} {o : Obj} (e : h.get? b = some o) (n : H b = none) : (hidT h H).get? b = some o :=
  PySem.W.hideAll_get _ e fun hm => by
    have q : (H b).isSome = true := (List.mem_filter.mp hm).2
    rw [n] at q; simp at q
theorem of_hidT {h : Heap} {H : Hp} {b : Addr} {o : Obj} (e : (hidT h H).get? b = some o) : h.get? b = some o ∧ H b = none := by
  have e' : h.get? b = some o := PySem.W.of_hideAll (trk h H) e
  refine ⟨e', ?_⟩
  cases q : H b with
  | none => rfl
  | some x =>
    have hm : b ∈ trk h H := List.mem_filter.mpr ⟨List.mem_range.mpr (Heap.lt_size e'), by simp [q]⟩
    have z : (hidT h H).get? b = none := PySem.W.hideAll_none (trk h H) hm
    rw [z] at e; cases e

/-! ### OpenK's ledger, filled with every new object but one -/
end L2

namespace L2
open PySem PySem.Spec PyProof.Rows

/-- the module's facts, over the base: the heap at the law's entry without what is tracked there -/
structure Mod (K : PySem.W.Frag) (mg : Str → Option Value) (base : Heap) : Prop where
  kin : K.In base
  glob : base.Ns mainGlobals mg
  blt : ∃ mb, base.Ns builtinsNs mb ∧ ∀ x : Str, x ≠ "__name__" → mb x = bootBuiltins x
  nolimit : base.NoLimit

/-- the context: a def's body (or a comprehension's block) running. base: fixed through the whole law; s₀, H₀: the entry; outer: the frames whose slots others may change (a def's callers); stack: all frames that run;
   ex: iterators that were made ahead of the entry and are walked here (a comprehension's); fn: the names whose cells were made at the entry (a def: all; a comprehension's block: its own); calm: not within an except suite; pn: pins that every state bears; xe: what is wanted of an exception that leaves the code -/
structure Cx where
  prog : Program
  w : World
  K : PySem.W.Frag
  mg : Str → Option Value
  base : Heap
  A : Around
  N : List Str
  s₀ : Shared
  H₀ : Hp
  env : Env
  outer : List Env
  stack : List Env
  ex : List Addr
  fn : Str → Bool
  calm : Bool
  pn : List (Addr × Obj)
  xe : Value → Shared → Prop
/-- the callers' frames -/
def frs (l : List Env) : List Addr := l.filterMap (·.frame)
abbrev Cx.fs (X : Cx) : List Addr := frs X.outer

def Vis (sc : Scope) (x : Str) : Prop := sc.names.lookup x = some .local ∨ sc.names.lookup x = some .cell ∨ sc.names.lookup x = some .free
def Loc (sc : Scope) (x : Str) : Prop := sc.names.lookup x = some .local ∨ sc.names.lookup x = some .cell
def Look (env : Env) (h : Heap) (m : Str → Option Value) (x : Str) (u : Value) : Prop :=
  (env.kindOf x = some .local ∧ m x = some u) ∨ ((env.kindOf x = some .cell ∨ env.kindOf x = some .free) ∧ ∃ c, env.cells.lookup x = some c ∧ h.IsCell c (some u))

structure Cx.Ok (X : Cx) : Prop where
  mod : Mod X.K X.mg X.base
  kind : X.env.scope.kind = .function
  glob : X.env.globals = mainGlobals
  blt : X.env.builtins = builtinsNs
  above : X.s₀.heap.objs.size ≤ X.env.locals
  inj : ∀ x y c, X.env.cells.lookup x = some c → X.env.cells.lookup y = some c → x = y
  has : ∀ x, (X.env.kindOf x = some .cell ∨ X.env.kindOf x = some .free) → ∃ c, X.env.cells.lookup x = some c
  cab : ∀ x c, X.fn x = true → X.env.cells.lookup x = some c → X.s₀.heap.objs.size ≤ c
  hd : X.calm = true → X.A.handled = none
  frames : X.A.frames = some X.stack
  stk : X.stack = X.outer ∨ (X.stack = X.env :: X.outer ∧ X.env.frame = some X.env.locals)
  exf : ∀ b ∈ X.ex, b ≠ X.env.locals ∧ ∀ x c, X.env.cells.lookup x = some c → c ≠ b
  bs : ∀ b o, X.base.get? b = some o → X.s₀.heap.get? b = some o ∧ X.H₀ b = none
  bsz : X.base.objs.size ≤ X.s₀.heap.objs.size
  noex : ∀ b o, X.base.get? b = some o → b ∉ X.ex
  exfs : ∀ b ∈ X.ex, b ∉ X.fs
  funs : X.s₀.heap.FunFrames X.base X.outer
  frf : ∀ b ∈ X.fs, X.H₀ b = none

structure Inv (X : Cx) (pins : List (Addr × Obj)) (σ : List (Option V)) (H : Hp) (s : Shared) : Prop where
  ok : X.Ok
  os : s.os = X.s₀.os
  bare : AllBare s.gens
  base : Un X.fs X.ex X.H₀ H X.s₀.heap s.heap
  loc : ∃ m, s.heap.Ns X.env.locals m ∧ ∀ (i : Nat) (x : Str) (v : V), X.N[i]? = some x → σ[i]? = some (some v) → Vis X.env.scope x → ∃ u, RelV v u ∧ Look X.env s.heap m x u
  cell : ∀ x c, X.env.cells.lookup x = some c → ∃ v, s.heap.IsCell c v
  free : H X.env.locals = none
  freeC : ∀ x c, X.env.cells.lookup x = some c → H c = none
  pin : ∀ p ∈ X.pn ++ pins, s.heap.get? p.1 = some p.2 ∧ H p.1 = none ∧ p.1 ≠ X.env.locals ∧ p.1 ∉ X.fs ∧ ∀ v, p.2.data ≠ .cell v
  hok : HOk X.prog X.w H s.heap
  len : σ.length = X.N.length

section
variable {X : Cx} {pins : List (Addr × Obj)} {σ : List (Option V)} {H H' : Hp} {s : Shared} {h' : Heap}

theorem Cx.Ok.nofr (ok : X.Ok) {b : Addr} {o : Obj} (e : X.base.get? b = some o) : b ∉ X.fs := fun hb => by
  have := (ok.funs.mem hb).1
  rw [e] at this; cases this
theorem Inv.bs (I : Inv X pins σ H s) : ∀ b o, X.base.get? b = some o → s.heap.get? b = some o ∧ H b = none := fun b o e =>
  ⟨I.base.keep b o (I.ok.bs b o e).1 (I.ok.bs b o e).2 (I.ok.nofr e) (I.ok.noex b o e), I.base.free b o (I.ok.bs b o e).1 (I.ok.bs b o e).2 (I.ok.noex b o e)⟩
theorem Inv.bk (I : Inv X pins σ H s) : ∀ b o, X.base.get? b = some o → s.heap.get? b = some o := fun b o e => (I.bs b o e).1
theorem Inv.mod (I : Inv X pins σ H s) : Mod X.K X.mg X.base := I.ok.mod
theorem Inv.kIn (I : Inv X pins σ H s) : X.K.In s.heap := I.ok.mod.kin.keeps I.bk
theorem Inv.lt (I : Inv X pins σ H s) : X.env.locals < s.heap.objs.size := let ⟨_, hn, _⟩ := I.loc; hn.lt
theorem Inv.sz (I : Inv X pins σ H s) : X.s₀.heap.objs.size ≤ s.heap.objs.size := Nat.le_trans I.ok.above (Nat.le_of_lt I.lt)
theorem Inv.nofs (I : Inv X pins σ H s) {a : Addr} (h : s.heap.objs.size ≤ a) : a ∉ X.fs := fun hb => by
  obtain ⟨_, o, ho, _⟩ := I.ok.funs.mem hb
  exact absurd (Nat.lt_of_lt_of_le (Heap.lt_size ho) (Nat.le_trans I.sz h)) (Nat.lt_irrefl _)
theorem Inv.cne (I : Inv X pins σ H s) : ∀ x c, X.env.cells.lookup x = some c → c ≠ X.env.locals := fun x c e z => by
  obtain ⟨v, o, ho, hd⟩ := I.cell x c e
  obtain ⟨m, ⟨o', es, ep, ho', hd', _⟩, _⟩ := I.loc
  rw [z, ho'] at ho; cases ho; rw [hd'] at hd; cases hd
theorem Inv.funs (I : Inv X pins σ H s) : s.heap.FunFrames X.base X.outer := by
  have all : ∀ (l : List Env), (∀ b ∈ frs l, b ∈ X.fs) → X.s₀.heap.FunFrames X.base l → s.heap.FunFrames X.base l := by
    intro l
    induction l with
    | nil => intro _ _; trivial
    | cons env r ih =>
      intro hs hl
      obtain ⟨hk, ⟨L, o, hf, hn, ho, hd⟩, hr⟩ := hl
      have hL : L ∈ X.fs := hs L (by unfold frs; rw [List.filterMap_cons, hf]; exact List.mem_cons_self)
      obtain ⟨sl, e⟩ := I.base.slot L o ho (I.ok.frf L hL) hL fun z => I.ok.exfs L z hL
      exact ⟨hk, ⟨L, _, hf, hn, e, hd⟩, ih (fun b hb => hs b (by unfold frs; rw [List.filterMap_cons, hf]; exact List.mem_cons_of_mem _ hb)) hr⟩
  exact all X.outer (fun _ hb => hb) I.ok.funs

/-- the frames that run, for a call -/
theorem Inv.stack (I : Inv X pins σ H s) : s.heap.FunFrames X.base X.stack := by
  rcases I.ok.stk with e | ⟨e, hf⟩
  · rw [e]; exact I.funs
  · rw [e]
    obtain ⟨m, hn, _⟩ := I.loc
    refine .cons (by rw [I.ok.kind]; decide) hf hn ?_ I.funs
    exact Heap.get?_none_of_le (Nat.le_trans I.ok.bsz I.ok.above)
theorem Inv.stkSub (I : Inv X pins σ H s) : ∀ b ∈ frs X.stack, b ∈ X.env.locals :: X.fs := fun b hb => by
  rcases I.ok.stk with e | ⟨e, hf⟩
  · rw [e] at hb; exact List.mem_cons_of_mem _ hb
  · rw [e] at hb
    unfold frs at hb
    rw [List.filterMap_cons, hf] at hb
    exact hb
theorem Inv.stkFree (I : Inv X pins σ H s) : ∀ b ∈ frs X.stack, H b = none := fun b hb => by
  rcases List.mem_cons.mp (I.stkSub b hb) with e | hb
  · rw [e]; exact I.free
  · obtain ⟨_, o, ho, _⟩ := I.ok.funs.mem hb
    exact I.base.free b o ho (I.ok.frf b hb) fun z => I.ok.exfs b z hb

/-- THE STEP: the untracked objects but the frame and the records at ch are kept (the callers' frames up to slots), the frame's map is kept, the new abstract heap is held -/
theorem Inv.step {g' : Array GenState} {t' : Nat} {d' : Drawn} {ch : List Addr} (I : Inv X pins σ H s)
    (hch : ∀ b ∈ ch, (b ∈ X.ex ∨ X.s₀.heap.objs.size ≤ b) ∧ b ≠ X.env.locals ∧ (∀ x c, X.env.cells.lookup x = some c → c ≠ b) ∧ ∀ p ∈ X.pn ++ pins, p.1 ≠ b)
    (keep : ∀ b o, b ≠ X.env.locals → b ∉ X.fs → b ∉ ch → s.heap.get? b = some o → H b = none → h'.get? b = some o)
    (slot : ∀ b o, b ≠ X.env.locals → b ∈ X.fs → b ∉ ch → s.heap.get? b = some o → H b = none → ∃ sl, h'.get? b = some { o with slots := sl }) (free : ∀ b o, b ∉ ch → s.heap.get? b = some o → H b = none → H' b = none)
    (there : ∀ b o, b ∉ ch → s.heap.get? b = some o → ∃ o', h'.get? b = some o')
    (tups : ∀ b xs, H b = some (.tup xs) → H' b = some (.tup xs)) (frzs : ∀ b o u, H b = some (.frz o u) → H' b = some (.frz o u)) (tbls : ∀ b ps, H b = some (.tbl ps) → ∃ more, H' b = some (.tbl (ps ++ more)))
    (ns : ∀ m, s.heap.Ns X.env.locals m → h'.Ns X.env.locals m) (hok : HOk X.prog X.w H' h') (hg : AllBare g') :
    Inv X pins σ H' { s with heap := h', gens := g', drawn := d', toks := t' } := by
  have neL : ∀ b o, X.s₀.heap.get? b = some o → b ≠ X.env.locals := fun b o e => Nat.ne_of_lt (Nat.lt_of_lt_of_le (Heap.lt_size e) I.ok.above)
  have neC : ∀ b o, X.s₀.heap.get? b = some o → b ∉ X.ex → b ∉ ch := fun b o e hx hb => by
    rcases (hch b hb).1 with z | z
    · exact hx z
    · exact absurd (Nat.lt_of_lt_of_le (Heap.lt_size e) z) (Nat.lt_irrefl _)
  have cellK : ∀ x c, X.env.cells.lookup x = some c → ∀ v, s.heap.IsCell c v → h'.IsCell c v := fun x c e v ⟨o, ho, hd⟩ => by
    have nch : c ∉ ch := fun z => (hch c z).2.2.1 x c e rfl
    by_cases hc : c ∈ X.fs
    · obtain ⟨sl, q⟩ := slot c o (I.cne x c e) hc nch ho (I.freeC x c e)
      exact ⟨_, q, hd⟩
    · exact ⟨o, keep c o (I.cne x c e) hc nch ho (I.freeC x c e), hd⟩
  refine ⟨I.ok, I.os, hg, ⟨fun b o e n hb hx => ?_, fun b o e n hb hx => ?_, fun b o e n hx => ?_, fun b o e hx => ?_, fun b xs e => tups b xs (I.base.tups b xs e), fun b o xs e => frzs b o xs (I.base.frzs b o xs e), fun b ps e => ?_⟩, ?_, fun x c e => ?_, ?_, fun x c e => ?_, fun p hp => ?_, hok, I.len⟩
  · exact keep b o (neL b o e) hb (neC b o e hx) (I.base.keep b o e n hb hx) (I.base.free b o e n hx)
  · obtain ⟨sl, e1⟩ := I.base.slot b o e n hb hx
    obtain ⟨sl', e2⟩ := slot b _ (neL b o e) hb (neC b o e hx) e1 (I.base.free b o e n hx)
    exact ⟨sl', e2⟩
  · obtain ⟨o', e1⟩ := I.base.there b o e hx
    exact free b o' (neC b o e hx) e1 (I.base.free b o e n hx)
  · obtain ⟨o', e1⟩ := I.base.there b o e hx
    exact there b o' (neC b o e hx) e1
  · obtain ⟨m1, e1⟩ := I.base.tbls b ps e
    obtain ⟨m2, e2⟩ := tbls b _ e1
    exact ⟨m1 ++ m2, by rw [e2, Array.append_assoc]⟩
  · obtain ⟨m, hn, hl⟩ := I.loc
    refine ⟨m, ns m hn, fun i x v e1 e2 e3 => ?_⟩
    obtain ⟨u, r, l⟩ := hl i x v e1 e2 e3
    refine ⟨u, r, ?_⟩
    rcases l with l | ⟨k, c, e, z⟩
    · exact .inl l
    · exact .inr ⟨k, c, e, cellK x c e _ z⟩
  · obtain ⟨v, z⟩ := I.cell x c e
    exact ⟨v, cellK x c e v z⟩
  · obtain ⟨m, ⟨o, _, _, ho, _⟩, _⟩ := I.loc
    exact free _ o (fun z => (hch _ z).2.1 rfl) ho I.free
  · obtain ⟨v, o, ho, hd⟩ := I.cell x c e
    exact free c o (fun z => (hch c z).2.2.1 x c e rfl) ho (I.freeC x c e)
  · obtain ⟨e, n, ne, nf, d⟩ := I.pin p hp
    have nch : p.1 ∉ ch := fun z => (hch p.1 z).2.2.2 p hp rfl
    exact ⟨keep p.1 p.2 ne nf nch e n, free p.1 p.2 nch e n, ne, nf, d⟩
/-- .. where the frame's own object is kept too -/
theorem Inv.un {t' : Nat} (I : Inv X pins σ H s) (u : Un X.fs [] H H' s.heap h') (hok : HOk X.prog X.w H' h') : Inv X pins σ H' { s with heap := h', toks := t' } := by
  obtain ⟨m, ⟨o, es, ep, ho, r⟩, _⟩ := id I.loc
  obtain ⟨sl, hL⟩ := u.any ho I.free (by simp)
  exact I.step (g' := s.gens) (d' := s.drawn) (ch := []) (fun _ z => nomatch z) (fun b o _ hb _ e n => u.keep b o e n hb (by simp)) (fun b o _ hb _ e n => u.slot b o e n hb (by simp)) (fun b o _ e n => u.free b o e n (by simp)) (fun b o _ e => u.there b o e (by simp)) u.tups u.frzs u.tbls (fun m' hm => by
    obtain ⟨o', es', ep', ho', r'⟩ := hm
    rw [ho] at ho'; cases ho'
    exact ⟨_, es', ep', hL, r'⟩) hok I.bare
/-- behind a call (or a comprehension's block): the slots of this frame may have changed too, the records at ch may have turned -/
theorem Inv.call {g' : Array GenState} {t' : Nat} {d' : Drawn} {ch : List Addr} (I : Inv X pins σ H s) (u : Un (frs X.stack) ch H H' s.heap h') (hok : HOk X.prog X.w H' h') (hg : AllBare g')
    (hch : ∀ b ∈ ch, (b ∈ X.ex ∨ X.s₀.heap.objs.size ≤ b) ∧ b ≠ X.env.locals ∧ (∀ x c, X.env.cells.lookup x = some c → c ≠ b) ∧ ∀ p ∈ X.pn ++ pins, p.1 ≠ b) :
    Inv X pins σ H' { s with heap := h', gens := g', drawn := d', toks := t' } := by
  obtain ⟨m, ⟨o, es, ep, ho, r⟩, _⟩ := id I.loc
  obtain ⟨sl, hL⟩ := u.any ho I.free fun z => (hch _ z).2.1 rfl
  exact I.step (ch := ch) hch (fun b o hL hb hc e n => u.keep b o e n (fun z => (List.mem_cons.mp (I.stkSub b z)).elim hL hb) hc) (fun b o _ _ hc e n => u.any e n hc) (fun b o hc e n => u.free b o e n hc) (fun b o hc e => u.there b o e hc) u.tups u.frzs u.tbls (fun m' hm => by
    obtain ⟨o', es', ep', ho', r'⟩ := hm
    rw [ho] at ho'; cases ho'
    exact ⟨_, es', ep', hL, r'⟩) hok hg
/-- an untracked record of ours (an iterator) has turned -/
theorem Inv.turned {t' : Nat} {it : Addr} (I : Inv X pins σ H s) (k : ∀ b o, b ≠ it → s.heap.get? b = some o → h'.get? b = some o) (hn : H it = none) (hL : it ≠ X.env.locals)
    (h1 : it ∈ X.ex ∨ X.s₀.heap.objs.size ≤ it) (h2 : ∀ x c, X.env.cells.lookup x = some c → c ≠ it) (h3 : ∀ p ∈ X.pn ++ pins, p.1 ≠ it) : Inv X pins σ H { s with heap := h', toks := t' } := by
  have nit : ∀ b u, H b = some u → b ≠ it := fun b u e z => by rw [z, hn] at e; cases e
  refine I.step (g' := s.gens) (d' := s.drawn) (ch := [it]) (fun b hb => ?_) (fun b o _ _ hc e _ => k b o (fun z => hc (by simp [z])) e) (fun b o _ _ hc e _ => ⟨o.slots, k b o (fun z => hc (by simp [z])) e⟩) (fun _ _ _ _ n => n)
    (fun b o hc e => ⟨o, k b o (fun z => hc (by simp [z])) e⟩) (fun _ _ e => e) (fun _ _ _ e => e) (fun b ps e => ⟨#[], by rw [e]; simp⟩) (fun m hm => ?_) (fun b u e => ?_) I.bare
  · have e : b = it := by simpa using hb
    subst e
    exact ⟨h1, hL, h2, h3⟩
  · obtain ⟨o, es, ep, ho, r⟩ := hm
    exact ⟨o, es, ep, k _ o (Ne.symm hL) ho, r⟩
  · refine (I.hok b u e).stay (fun c v hc q => k c v ?_ q) (fun _ q => q) fun _ _ q => q
    rcases hc with z | z
    · rw [z]; exact nit b u e
    · exact nit c _ z
theorem Inv.tok (I : Inv X pins σ H s) (t : Nat) : Inv X pins σ H { s with toks := t } := I.un (h' := s.heap) (t' := t) Un.refl I.hok
/-- all objects kept -/
theorem Inv.kept {t' : Nat} (I : Inv X pins σ H s) (k : ∀ b u, s.heap.get? b = some u → h'.get? b = some u) : Inv X pins σ H { s with heap := h', toks := t' } := I.un (Un.kept k) (I.hok.kept k)
/-- a new object laid and tracked -/
theorem Inv.laid {a : Addr} {o : HO} {t' : Nat} (I : Inv X pins σ H s) (k : ∀ b u, s.heap.get? b = some u → h'.get? b = some u) (hp : s.heap.objs.size ≤ a) (new : ObjOk X.prog X.w (upd H a o) h' a o) :
    Inv X pins σ (upd H a o) { s with heap := h', toks := t' } := I.un (Un.laid k hp (I.hok.fresh hp)) (I.hok.laid k hp new)
/-- an object written -/
theorem Inv.write {x e : Addr} {o : HO} {t' : Nat} (I : Inv X pins σ H s) (mu : Mut (H x)) (he : e = x ∨ H e = some (.own x)) (k : ∀ b u, b ≠ e → s.heap.get? b = some u → h'.get? b = some u) (heo : ∃ u, h'.get? e = some u)
    (new : ObjOk X.prog X.w (upd H x o) h' x o) : Inv X pins σ (upd H x o) { s with heap := h', toks := t' } := I.un (Un.write mu he k heo) (I.hok.write mu he k heo new)
theorem Inv.pins_of {pins' : List (Addr × Obj)} (I : Inv X pins σ H s) (h : ∀ p ∈ pins', s.heap.get? p.1 = some p.2 ∧ H p.1 = none ∧ p.1 ≠ X.env.locals ∧ p.1 ∉ X.fs ∧ ∀ v, p.2.data ≠ .cell v) : Inv X pins' σ H s :=
  ⟨I.ok, I.os, I.bare, I.base, I.loc, I.cell, I.free, I.freeC, fun p hp => (List.mem_append.mp hp).elim (fun z => I.pin p (List.mem_append_left _ z)) (h p), I.hok, I.len⟩

theorem nodup_ix {N : List Str} (hN : N.Nodup) {i j : Nat} {x : Str} (a : N[i]? = some x) (b : N[j]? = some x) : i = j := by
  obtain ⟨h1, e1⟩ := List.getElem?_eq_some_iff.mp a
  obtain ⟨h2, e2⟩ := List.getElem?_eq_some_iff.mp b
  exact (List.getElem_inj hN).mp (e1.trans e2.symm)

/-- a name is stored; what changed -/
theorem store_ok2 {M : Model} {A : Around} {E : Value → Shared → Prop} {i : Nat} {x : Str} {v : V} {u : Value} {Q : Unit → Shared → Prop} (I : Inv X pins σ H s) (hN : X.N.Nodup) (hi : X.N[i]? = some x) (hx : Loc X.env.scope x) (r : RelV v u)
    (h : ∀ s', Inv X pins (σ.set i (some v)) H s' → (∃ a, Heap.SameBut a s.heap s'.heap ∧ (a = X.env.locals ∨ X.env.cells.lookup x = some a)) → Q () s') (hf : X.fn x = true ∨ X.env.scope.names.lookup x = some .local := by first | exact .inl rfl | exact .inr rfl | assumption) : wpAny M A (storeName X.env x u) Q E s := by
  obtain ⟨m, hn, hl⟩ := id I.loc
  have hcls : (X.env.scope.kind == .class || (X.env.scope.kind == .module && X.env.locals != X.env.globals)) = false := by rw [I.ok.kind]; rfl
  have hiσ : i < σ.length := by rw [I.len]; exact (List.getElem?_eq_some_iff.mp hi).1
  have cne := I.cne
  have tracked : ∀ {a : Addr} {h' : Heap}, (∃ o, s.heap.get? a = some o ∧ H a = none) → Heap.SameBut a s.heap h' → HOk X.prog X.w H h' := fun {a h'} ha hs b ob e => by
    obtain ⟨_, _, hfree⟩ := ha
    refine (I.hok b ob e).stay (fun c w' hc q => (hs.2 c ?_).trans q) (fun _ q => q) fun _ _ q => q
    rintro rfl
    rcases hc with rfl | hc
    · rw [hfree] at e; cases e
    · rw [hfree] at hc; cases hc
  rcases hx with hk | hk
  · refine wpAny_storeName_local hk hn (fun h' hn' hs => ?_) hcls
    obtain ⟨oL, _, _, hoL, _⟩ := id hn
    refine h _ ⟨I.ok, I.os, I.bare, ⟨fun b o e n hb hx => ?_, fun b o e n hb hx => ?_, I.base.free, fun b o e hx => ?_, I.base.tups, I.base.frzs, I.base.tbls⟩, ⟨_, hn', fun j y v' e1 e2 e3 => ?_⟩, fun y c e => ?_, I.free, I.freeC, fun p hp => ?_, tracked ⟨oL, hoL, I.free⟩ hs, by simpa using I.len⟩ ⟨_, hs, .inl rfl⟩
    · exact (hs.2 b (Nat.ne_of_lt (Nat.lt_of_lt_of_le (Heap.lt_size e) I.ok.above))).trans (I.base.keep b o e n hb hx)
    · obtain ⟨sl, e1⟩ := I.base.slot b o e n hb hx
      exact ⟨sl, (hs.2 b (Nat.ne_of_lt (Nat.lt_of_lt_of_le (Heap.lt_size e) I.ok.above))).trans e1⟩
    · obtain ⟨o', e1⟩ := I.base.there b o e hx
      exact ⟨o', (hs.2 b (Nat.ne_of_lt (Nat.lt_of_lt_of_le (Heap.lt_size e) I.ok.above))).trans e1⟩
    · by_cases hj : j = i
      · subst hj
        rw [hi] at e1; cases e1
        rw [List.getElem?_set_self hiσ] at e2
        cases e2
        exact ⟨u, r, .inl ⟨hk, by simp⟩⟩
      · rw [List.getElem?_set_ne (Ne.symm hj)] at e2
        obtain ⟨u', r', q⟩ := hl j y v' e1 e2 e3
        refine ⟨u', r', ?_⟩
        rcases q with ⟨k, e⟩ | ⟨k, c, e, z⟩
        · refine .inl ⟨k, ?_⟩
          have : y ≠ x := fun e => hj (nodup_ix hN e1 (e ▸ hi))
          simp [this, e]
        · exact .inr ⟨k, c, e, z.sameBut hs (cne y c e)⟩
    · obtain ⟨w', z⟩ := I.cell y c e
      exact ⟨w', z.sameBut hs (cne y c e)⟩
    · obtain ⟨e, n, ne, nf, d⟩ := I.pin p hp
      exact ⟨(hs.2 p.1 ne).trans e, n, ne, nf, d⟩
  · have hfn : X.fn x = true := by
      rcases hf with z | z
      · exact z
      · rw [z] at hk; cases hk
    obtain ⟨c, hc⟩ := I.ok.has x (.inl hk)
    obtain ⟨w', z⟩ := I.cell x c hc
    refine wpAny_storeName_cell I.ok.kind hk hc z (fun h' hc' hs => ?_)
    obtain ⟨oc, hoc, hocd⟩ := id z
    refine h { s with heap := h' } ⟨I.ok, I.os, I.bare, ⟨fun b o e n hb hx => ?_, fun b o e n hb hx => ?_, I.base.free, fun b o e hx => ?_, I.base.tups, I.base.frzs, I.base.tbls⟩, ⟨m, hn.sameBut hs (Ne.symm (cne x c hc)), fun j y v' e1 e2 e3 => ?_⟩, fun y c' e => ?_, I.free, I.freeC, fun p hp => ?_, tracked ⟨oc, hoc, I.freeC x c hc⟩ hs, by simpa using I.len⟩ ⟨c, hs, .inr hc⟩
    · exact (hs.2 b (Nat.ne_of_lt (Nat.lt_of_lt_of_le (Heap.lt_size e) (I.ok.cab x c hfn hc)))).trans (I.base.keep b o e n hb hx)
    · obtain ⟨sl, e1⟩ := I.base.slot b o e n hb hx
      exact ⟨sl, (hs.2 b (Nat.ne_of_lt (Nat.lt_of_lt_of_le (Heap.lt_size e) (I.ok.cab x c hfn hc)))).trans e1⟩
    · obtain ⟨o', e1⟩ := I.base.there b o e hx
      exact ⟨o', (hs.2 b (Nat.ne_of_lt (Nat.lt_of_lt_of_le (Heap.lt_size e) (I.ok.cab x c hfn hc)))).trans e1⟩
    · by_cases hj : j = i
      · subst hj
        rw [hi] at e1; cases e1
        rw [List.getElem?_set_self hiσ] at e2
        cases e2
        exact ⟨u, r, .inr ⟨.inl hk, c, hc, hc'⟩⟩
      · rw [List.getElem?_set_ne (Ne.symm hj)] at e2
        obtain ⟨u', r', q⟩ := hl j y v' e1 e2 e3
        refine ⟨u', r', ?_⟩
        rcases q with q | ⟨k, c', e, z'⟩
        · exact .inl q
        · refine .inr ⟨k, c', e, z'.sameBut hs ?_⟩
          rintro rfl
          exact hj (nodup_ix hN e1 (I.ok.inj _ _ _ e hc ▸ hi))
    · by_cases hcc : c' = c
      · subst hcc; exact ⟨_, hc'⟩
      · obtain ⟨w2, z2⟩ := I.cell y c' e
        exact ⟨w2, z2.sameBut hs hcc⟩
    · obtain ⟨e, n, ne, nf, d⟩ := I.pin p hp
      refine ⟨(hs.2 p.1 ?_).trans e, n, ne, nf, d⟩
      intro q
      rw [q, hoc] at e
      have q' : oc = p.2 := Option.some.inj e
      exact d w' (by rw [← q']; exact hocd)
theorem store_ok {M : Model} {A : Around} {E : Value → Shared → Prop} {i : Nat} {x : Str} {v : V} {u : Value} {Q : Unit → Shared → Prop} (I : Inv X pins σ H s) (hN : X.N.Nodup) (hi : X.N[i]? = some x) (hx : Loc X.env.scope x) (r : RelV v u)
    (h : ∀ s', Inv X pins (σ.set i (some v)) H s' → Q () s') (hf : X.fn x = true ∨ X.env.scope.names.lookup x = some .local := by first | exact .inl rfl | exact .inr rfl | assumption) : wpAny M A (storeName X.env x u) Q E s :=
  store_ok2 I hN hi hx r (fun s' I' _ => h s' I') hf
/-- behind a call or a block, the state as it is -/
theorem Inv.call' {s' : Shared} {ch : List Addr} (I : Inv X pins σ H s) (ho : s'.os = s.os) (u : Un (frs X.stack) ch H H' s.heap s'.heap) (hok : HOk X.prog X.w H' s'.heap) (hg : AllBare s'.gens)
    (hch : ∀ b ∈ ch, (b ∈ X.ex ∨ X.s₀.heap.objs.size ≤ b) ∧ b ≠ X.env.locals ∧ (∀ x c, X.env.cells.lookup x = some c → c ≠ b) ∧ ∀ p ∈ X.pn ++ pins, p.1 ≠ b) : Inv X pins σ H' s' := by
  obtain ⟨h', g', d', t', o'⟩ := s'
  have e : o' = s.os := ho
  subst e
  exact I.call (g' := g') (t' := t') (d' := d') u hok hg hch
end

/-! ### the judgements -/
/-- an exception: its class, its own dict's address (where it has one), the abstract heap behind it -/
abbrev XK := Value → Option Addr → Hp → Prop
abbrev St := List (Option V)
abbrev VK := V → Hp → Prop
/-- an expression's reading; a test's; an argument list's -/
abbrev TE := St → Hp → VK → Prop
abbrev TT := St → Hp → (Bool → Hp → Prop) → Prop
abbrev TA := St → Hp → (List V → Hp → Prop) → Prop
/-- what is wanted behind a statement -/
structure Ends where
  nx : St → Hp → Prop
  rt : VK
  bk : St → Hp → Prop := fun _ _ => False
  ct : St → Hp → Prop := fun _ _ => False
abbrev TS := Ends → St → Hp → Prop

def EP (X : Cx) (pins : List (Addr × Obj)) (σ : St) (Q : VK) (u : Value) (s' : Shared) : Prop := ∃ v H', Inv X pins σ H' s' ∧ RelV v u ∧ Q v H'
def TP (X : Cx) (pins : List (Addr × Obj)) (σ : St) (Q : Bool → Hp → Prop) (b : Bool) (s' : Shared) : Prop := ∃ H', Inv X pins σ H' s' ∧ Q b H'
def AP (X : Cx) (pins : List (Addr × Obj)) (σ : St) (Q : List V → Hp → Prop) (us : List Value) (s' : Shared) : Prop := ∃ vs H', Inv X pins σ H' s' ∧ Vals vs us ∧ Q vs H'
def SP (X : Cx) (pins : List (Addr × Obj)) (D : Ends) (f : Flow) (s' : Shared) : Prop :=
  match f with
  | .next => ∃ σ' H', Inv X pins σ' H' s' ∧ D.nx σ' H'
  | .brk => ∃ σ' H', Inv X pins σ' H' s' ∧ D.bk σ' H'
  | .cont => ∃ σ' H', Inv X pins σ' H' s' ∧ D.ct σ' H'
  | .ret u => ∃ v σ' H', Inv X pins σ' H' s' ∧ RelV v u ∧ D.rt v H'

def PE (X : Cx) (e : Expr) (t : TE) : Prop :=
  ∀ (pins : List (Addr × Obj)) (s : Shared) (σ : St) (H : Hp) (Q : VK), Inv X pins σ H s → t σ H Q → wpAny (model X.prog X.w) X.A (eval e X.env) (EP X pins σ Q) X.xe s
def PT (X : Cx) (e : Expr) (t : TT) : Prop :=
  ∀ (pins : List (Addr × Obj)) (s : Shared) (σ : St) (H : Hp) (Q : Bool → Hp → Prop), Inv X pins σ H s → t σ H Q → wpAny (model X.prog X.w) X.A (isTrue e X.env (eval e X.env)) (TP X pins σ Q) X.xe s
/-- a test whatever its 'whole' is (and, or) -/
def PW (X : Cx) (e : Expr) (t : TT) : Prop :=
  ∀ (whole : Sem Value) (pins : List (Addr × Obj)) (s : Shared) (σ : St) (H : Hp) (Q : Bool → Hp → Prop), Inv X pins σ H s → t σ H Q → wpAny (model X.prog X.w) X.A (isTrue e X.env whole) (TP X pins σ Q) X.xe s
theorem PW.pt {X : Cx} {e : Expr} {t : TT} (h : PW X e t) : PT X e t := h _
/-- an argument list (no star), from the left -/
def PA (X : Cx) (es : List Expr) (t : TA) : Prop :=
  ∀ (pos : Pos) (pins : List (Addr × Obj)) (s : Shared) (σ : St) (H : Hp) (Q : List V → Hp → Prop), Inv X pins σ H s → t σ H Q → wpAny (model X.prog X.w) X.A (spliced (backTo pos (starEach es X.env))) (AP X pins σ Q) X.xe s
def PS (X : Cx) (st : Stmt) (t : TS) : Prop :=
  ∀ (pins : List (Addr × Obj)) (s : Shared) (σ : St) (H : Hp) (D : Ends), Inv X pins σ H s → t D σ H → wpAny (model X.prog X.w) X.A (exec st X.env) (SP X pins D) X.xe s
def PSs (X : Cx) (st : List Stmt) (t : TS) : Prop :=
  ∀ (pins : List (Addr × Obj)) (s : Shared) (σ : St) (H : Hp) (D : Ends), Inv X pins σ H s → t D σ H → wpAny (model X.prog X.w) X.A (execs st X.env) (SP X pins D) X.xe s
/-- weaken the end -/
theorem thn {α : Type} {t : Sem α} {Q Q' : α → Shared → Prop} {M : Model} {A : Around} {E : Value → Shared → Prop} {s : Shared} (h : wpAny M A t Q E s) (hQ : ∀ a s, Q a s → Q' a s) : wpAny M A t Q' E s := wpAny_mono h hQ fun _ _ x => x
end L2

namespace L2
open PySem PySem.Spec PyProof.Rows
section
variable {X : Cx}


/-! ### names and constants -/
def tVar (i : Nat) : TE := fun σ H Q => ∃ v, σ[i]? = some (some v) ∧ Q v H
def tC (v : V) : TE := fun _ H Q => Q v H
theorem pe_var {i : Nat} {x : Str} {pos : Pos} (hN : X.N[i]? = some x) (hv : Vis X.env.scope x) (hd : (x == ("__debug__" : Str)) = false := by decide) (hcd : (x == ("__classdict__" : Str)) = false := by decide) : PE X (.Name x pos) (tVar i) := by
  intro pins s σ H Q I h
  obtain ⟨v, e, h⟩ := h
  obtain ⟨m, hn, hl⟩ := I.loc
  obtain ⟨u, r, l⟩ := hl i x v hN e hv
  have fin : EP X pins σ Q u s := ⟨v, H, I, r, h⟩
  rcases l with ⟨hk, hm⟩ | ⟨hk, c, hc, hcell⟩
  · exact wpAny_Name (wpAny_loadName_local I.ok.kind hk hn hm fin) hd
  · rcases hk with hk | hk
    · exact wpAny_Name (wpAny_loadName_cell I.ok.kind hk hc hcell fin) hd
    · exact wpAny_Name (wpAny_loadName_free I.ok.kind hk hc hcell fin hcd) hd
theorem pe_int {i j pos} : PE X (.Constant (.int i) j pos) (tC (.int i)) := fun _ _ _ H _ I h => wpAny_Constant_int ⟨.int i, H, I.tok _, ⟨_, rfl⟩, h⟩
theorem pe_bl {b j pos} : PE X (.Constant (.bool b) j pos) (tC (.bl b)) := fun _ _ _ H _ I h => Constant_bool ⟨.bl b, H, I, rfl, h⟩
theorem pe_non {j pos} : PE X (.Constant .none j pos) (tC .non) := fun _ _ _ H _ I h => Constant_none ⟨.non, H, I, rfl, h⟩
theorem pe_str {x j pos} : PE X (.Constant (.str x) j pos) (tC (.str x)) := fun _ _ _ H _ I h => Calls.Constant_str ⟨.str x, H, I.tok _, ⟨_, rfl⟩, h⟩

/-- a global name of the def -/
def Gl (X : Cx) (x : Str) : Prop := X.env.kindOf x = some .globalImplicit
theorem ld_glob {E : Value → Shared → Prop} {pins : List (Addr × Obj)} {s : Shared} {σ : St} {H : Hp} {x : Str} {u : Value} {pos : Pos} {Q : Value → Shared → Prop} (I : Inv X pins σ H s) (hg : Gl X x) (hm : X.mg x = some u) (h : Q u s)
    (hd : (x == ("__debug__" : Str)) = false := by decide) : wpAny (model X.prog X.w) X.A (eval (.Name x pos) X.env) Q E s :=
  Calls.Name_function_global I.ok.kind hg (Calls.loadGlobal_global (by rw [I.ok.glob]; exact I.mod.glob.keeps I.bk) hm h) hd
theorem ld_blt {E : Value → Shared → Prop} {pins : List (Addr × Obj)} {s : Shared} {σ : St} {H : Hp} {x : Str} {u : Value} {pos : Pos} {Q : Value → Shared → Prop} (I : Inv X pins σ H s) (hg : Gl X x) (hm : X.mg x = none) (hv : bootBuiltins x = some u) (h : Q u s)
    (hn : x ≠ "__name__" := by decide) (hd : (x == ("__debug__" : Str)) = false := by decide) : wpAny (model X.prog X.w) X.A (eval (.Name x pos) X.env) Q E s := by
  obtain ⟨mb, h1, h2⟩ := I.mod.blt
  exact Calls.Name_function_global I.ok.kind hg (Calls.loadGlobal_builtin (by rw [I.ok.glob]; exact I.mod.glob.keeps I.bk) hm (by rw [I.ok.blt]; exact h1.keeps I.bk) ((h2 x hn).trans hv) h) hd
/-- a module's constant, a class, a function, as a value -/
theorem pe_glob {x : Str} {v : V} {u : Value} {pos : Pos} (hg : Gl X x) (hm : X.mg x = some u) (r : RelV v u) (hd : (x == ("__debug__" : Str)) = false := by decide) : PE X (.Name x pos) (tC v) :=
  fun _ _ _ H _ I h => ld_glob I hg hm ⟨v, H, I, r, h⟩ hd
theorem pe_bltn {x : Str} {v : V} {u : Value} {pos : Pos} (hg : Gl X x) (hm : X.mg x = none) (hv : bootBuiltins x = some u) (r : RelV v u) (hn : x ≠ "__name__" := by decide) (hd : (x == ("__debug__" : Str)) = false := by decide) : PE X (.Name x pos) (tC v) :=
  fun _ _ _ H _ I h => ld_blt I hg hm hv ⟨v, H, I, r, h⟩ hn hd

/-! ### arithmetic -/
variable {a b : Expr} {ta tb : TE} {pos : Pos}

/-! ### comparisons -/
/-- a comparison as a value, as a test -/
def tB (t : TE) : TT := fun σ H Q => t σ H fun x H1 => ∃ c, x = .bl c ∧ Q c H1
/-- an expression whose value is a bool, as a test -/
theorem pt_val {e : Expr} {t : TE} (h : PE X e t) (he : ∀ whole, isTrue e X.env whole = (do let v ← whole; standAt e.pos; holding [v] (truthy v)) := by intro _; rfl) : PT X e (tB t) := by
  intro pins s σ H Q I hw
  refine isTrue_plain (thn (h pins s σ H _ I hw) fun v s1 ⟨x, H1, I1, r1, q1⟩ => ?_) (he _)
  obtain ⟨d, rfl, q⟩ := q1
  cases r1
  exact wpAny_truthy_bool ⟨H1, I1, q⟩

/-! ### and, or, not -/
variable {tA tB' : TT} {rest : List Expr}
def tAnd (t u : TT) : TT := fun σ H Q => t σ H fun c H1 => if c = true then u σ H1 Q else Q false H1
def tOr (t u : TT) : TT := fun σ H Q => t σ H fun c H1 => if c = true then Q true H1 else u σ H1 Q
def tNot (t : TT) : TT := fun σ H Q => t σ H fun c H1 => Q (!c) H1
theorem pw_and1 (ha : PT X a tA) : PW X (.BoolOp .And [a] pos) tA := by
  intro wh pins s σ H Q I h
  refine isTrue_and (thn (ha pins s σ H Q I h) fun c s1 e => ?_)
  cases c with
  | true => exact isTrue_and_nil e
  | false => exact e
theorem pw_or1 (ha : PT X a tA) : PW X (.BoolOp .Or [a] pos) tA := by
  intro wh pins s σ H Q I h
  refine isTrue_or (thn (ha pins s σ H Q I h) fun c s1 e => ?_)
  cases c with
  | false => exact isTrue_or_nil e
  | true => exact e
theorem pw_and (ha : PT X a tA) (hb : PW X (.BoolOp .And (b :: rest) pos) tB') : PW X (.BoolOp .And (a :: b :: rest) pos) (tAnd tA tB') := by
  intro wh pins s σ H Q I h
  refine isTrue_and (thn (ha pins s σ H _ I h) fun c s1 ⟨H1, I1, q1⟩ => ?_)
  cases c with
  | true => exact hb wh pins s1 σ H1 Q I1 q1
  | false => exact ⟨H1, I1, q1⟩
theorem pw_or (ha : PT X a tA) (hb : PW X (.BoolOp .Or (b :: rest) pos) tB') : PW X (.BoolOp .Or (a :: b :: rest) pos) (tOr tA tB') := by
  intro wh pins s σ H Q I h
  refine isTrue_or (thn (ha pins s σ H _ I h) fun c s1 ⟨H1, I1, q1⟩ => ?_)
  cases c with
  | true => exact ⟨H1, I1, q1⟩
  | false => exact hb wh pins s1 σ H1 Q I1 q1
theorem pt_not (ha : PT X a tA) : PT X (.UnaryOp .Not a pos) (tNot tA) := by
  intro pins s σ H Q I h
  exact isTrue_not (ha pins s σ H (fun c H1 => Q (!c) H1) I h)
/-- .. as values (bools) -/
def tAndV (ta tb : TE) : TE := fun σ H Q => ta σ H fun x H1 => ∃ c, x = .bl c ∧ if c = true then tb σ H1 Q else Q (.bl false) H1
def tOrV (ta tb : TE) : TE := fun σ H Q => ta σ H fun x H1 => ∃ c, x = .bl c ∧ if c = true then Q (.bl true) H1 else tb σ H1 Q
def tNotV (ta : TE) : TE := fun σ H Q => ta σ H fun x H1 => ∃ c, x = .bl c ∧ Q (.bl (!c)) H1
theorem pe_one {op} {t : TE} (h : PE X a t) : PE X (.BoolOp op [a] pos) t := fun pins s σ H Q I hw => BoolOp_one (h pins s σ H Q I hw)
theorem pe_and (ha : PE X a ta) (hb : PE X (.BoolOp .And (b :: rest) pos) tb) : PE X (.BoolOp .And (a :: b :: rest) pos) (tAndV ta tb) := by
  intro pins s σ H Q I h
  refine BoolOp_and (thn (ha pins s σ H _ I h) fun v s1 ⟨x, H1, I1, r1, q1⟩ => ?_)
  obtain ⟨c, rfl, q1⟩ := q1
  cases r1
  refine wpAny_truthy_bool ?_
  cases c with
  | true => exact hb pins s1 σ H1 Q I1 q1
  | false => exact ⟨.bl false, H1, I1, rfl, q1⟩
theorem pe_or (ha : PE X a ta) (hb : PE X (.BoolOp .Or (b :: rest) pos) tb) : PE X (.BoolOp .Or (a :: b :: rest) pos) (tOrV ta tb) := by
  intro pins s σ H Q I h
  refine BoolOp_or (thn (ha pins s σ H _ I h) fun v s1 ⟨x, H1, I1, r1, q1⟩ => ?_)
  obtain ⟨c, rfl, q1⟩ := q1
  cases r1
  refine wpAny_truthy_bool ?_
  cases c with
  | false => exact hb pins s1 σ H1 Q I1 q1
  | true => exact ⟨.bl true, H1, I1, rfl, q1⟩
theorem pe_not (ha : PE X a ta) : PE X (.UnaryOp .Not a pos) (tNotV ta) := by
  intro pins s σ H Q I h
  refine UnaryOp_ (thn (ha pins s σ H _ I h) fun v s1 ⟨x, H1, I1, r1, q1⟩ => ?_)
  obtain ⟨c, rfl, q1⟩ := q1
  cases r1
  exact not_of (wpAny_truthy_bool ⟨.bl (!c), H1, I1, rfl, q1⟩)
/-- a if t else b -/
def tIf (t : TT) (ta tb : TE) : TE := fun σ H Q => t σ H fun c H1 => if c = true then ta σ H1 Q else tb σ H1 Q
theorem pe_ifExp {c : Expr} (hc : PT X c tA) (ha : PE X a ta) (hb : PE X b tb) : PE X (.IfExp c a b pos) (tIf tA ta tb) := by
  intro pins s σ H Q I h
  refine wpAny_IfExp (thn (hc pins s σ H _ I h) fun d s1 ⟨H1, I1, q1⟩ => ?_)
  cases d with
  | true => exact ha pins s1 σ H1 Q I1 q1
  | false => exact hb pins s1 σ H1 Q I1 q1
end
end L2

namespace L2
open PySem PySem.Spec PyProof.Rows

/-! ### a list, a tuple that is read: tracked, frozen, or an object of the module -/
def SqL (K : PySem.W.Frag) (H : Hp) (a : Addr) (xs : List V) : Prop :=
  Rd H a (.lst xs) ∨
    ∃ (o : Obj) (its : Array Value) (n : Nat), K.lookup a = some o ∧ o.cls = .type "list" ∧ o.dict = none ∧ o.data = .seq its n ∧ its.size ≤ sizeLine ∧ Vals xs its.toList
def SqT (K : PySem.W.Frag) (H : Hp) (a : Addr) (xs : List V) : Prop :=
  Rd H a (.tup xs) ∨
    ∃ (o : Obj) (its : Array Value) (n : Nat), K.lookup a = some o ∧ o.cls = .type "tuple" ∧ o.data = .seq its n ∧ its.size ≤ sizeLine ∧ Vals xs its.toList
def absV : Value → Option V
  | .none => some .non
  | .bool b => some (.bl b)
  | .int i _ => some (.int i)
  | .str x _ => some (.str x)
  | .bytes b _ => some (.byt b)
  | .float b _ => some (.flt b)
  | .ref a => some (.ref a)
  | .type n => some (.ty n)
  | _ => none
theorem RelV.abs {x : V} {u : Value} (r : RelV x u) : absV u = some x := by
  cases x with
  | non => cases r; rfl
  | bl _ => cases r; rfl
  | int _ => obtain ⟨t, rfl⟩ := r; rfl
  | str _ => obtain ⟨t, rfl⟩ := r; rfl
  | byt _ => obtain ⟨t, rfl⟩ := r; rfl
  | flt _ => obtain ⟨t, rfl⟩ := r; rfl
  | ref _ => cases r; rfl
  | ty _ => cases r; rfl
theorem RelV.inj {x y : V} {u : Value} (r : RelV x u) (q : RelV y u) : x = y := Option.some.inj (r.abs.symm.trans q.abs)
theorem Vals.inj : ∀ {xs ys : List V} {us : List Value}, Vals xs us → Vals ys us → xs = ys
  | _, _, _, .nil, .nil => rfl
  | _, _, _, .cons r t, .cons r' t' => by rw [r.inj r', Vals.inj t t']
section
variable {X : Cx} {pins : List (Addr × Obj)} {σ : St} {H : Hp} {s : Shared} {a : Addr} {xs ys : List V}
theorem SqL.of {K : PySem.W.Frag} (h : H a = some (.lst xs)) : SqL K H a xs := .inl (.inl h)
theorem SqT.of {K : PySem.W.Frag} (h : H a = some (.tup xs)) : SqT K H a xs := .inl (.inl h)
theorem Inv.list (I : Inv X pins σ H s) (h : SqL X.K H a xs) : ∃ its : List Value, Vals xs its ∧ PlainL s.heap a its.toArray ∧ xs.length ≤ sizeLine := by
  rcases h with h | ⟨o, its, n, hk, hc, hd, hs, hz, r⟩
  · obtain ⟨z, its, n, r, e⟩ := h.ok I.hok
    exact ⟨its, r, ⟨_, n, e, rfl, rfl, rfl⟩, z⟩
  · refine ⟨its.toList, r, ⟨o, n, I.kIn a o hk, hc, hd, by simpa using hs⟩, ?_⟩
    have e := r.length
    simp only [Array.length_toList] at e
    omega
theorem Inv.tuple (I : Inv X pins σ H s) (h : SqT X.K H a xs) : ∃ its : List Value, Vals xs its ∧ IsTup s.heap a its.toArray ∧ xs.length ≤ sizeLine := by
  rcases h with h | ⟨o, its, n, hk, hc, hs, hz, r⟩
  · obtain ⟨z, its, r, p⟩ := h.ok I.hok
    exact ⟨its, r, p, z⟩
  · refine ⟨its.toList, r, ⟨o, I.kIn a o hk, hc, n, by simpa using hs⟩, ?_⟩
    have e := r.length
    simp only [Array.length_toList] at e
    omega
theorem Inv.list_inj (I : Inv X pins σ H s) (h : SqL X.K H a xs) (h' : SqL X.K H a ys) : xs = ys := by
  obtain ⟨its, r, ⟨o, n, e, _, _, d⟩, _⟩ := I.list h
  obtain ⟨its', r', ⟨o', n', e', _, _, d'⟩, _⟩ := I.list h'
  rw [e] at e'; cases e'
  rw [d] at d'
  injection d' with d1 _
  have : its = its' := by simpa using congrArg Array.toList d1
  subst this
  exact r.inj r'
theorem Inv.tuple_inj (I : Inv X pins σ H s) (h : SqT X.K H a xs) (h' : SqT X.K H a ys) : xs = ys := by
  obtain ⟨its, r, ⟨o, e, _, n, d⟩, _⟩ := I.tuple h
  obtain ⟨its', r', ⟨o', e', _, n', d'⟩, _⟩ := I.tuple h'
  rw [e] at e'; cases e'
  rw [d] at d'
  injection d' with d1 _
  have : its = its' := by simpa using congrArg Array.toList d1
  subst this
  exact r.inj r'
end

/-! ### another wish about exceptions -/
abbrev Cx.wish (X : Cx) (E : Value → Shared → Prop) : Cx := { X with xe := E }
/-- no exception leaves -/
abbrev Cx.nox (X : Cx) : Cx := X.wish fun _ _ => False
theorem Cx.Ok.wish {X : Cx} (ok : X.Ok) (E : Value → Shared → Prop) : (X.wish E).Ok :=
  ⟨ok.mod, ok.kind, ok.glob, ok.blt, ok.above, ok.inj, ok.has, ok.cab, ok.hd, ok.frames, ok.stk, ok.exf, ok.bs, ok.bsz, ok.noex, ok.exfs, ok.funs, ok.frf⟩
theorem Cx.Ok.unwish {X : Cx} {E : Value → Shared → Prop} (ok : (X.wish E).Ok) : X.Ok :=
  ⟨ok.mod, ok.kind, ok.glob, ok.blt, ok.above, ok.inj, ok.has, ok.cab, ok.hd, ok.frames, ok.stk, ok.exf, ok.bs, ok.bsz, ok.noex, ok.exfs, ok.funs, ok.frf⟩
section
variable {X : Cx} {pins : List (Addr × Obj)} {σ : St} {H : Hp} {s : Shared} {E : Value → Shared → Prop}
theorem Inv.wish (I : Inv X pins σ H s) (E : Value → Shared → Prop) : Inv (X.wish E) pins σ H s := ⟨I.ok.wish E, I.os, I.bare, I.base, I.loc, I.cell, I.free, I.freeC, I.pin, I.hok, I.len⟩
theorem Inv.unwish (I : Inv (X.wish E) pins σ H s) : Inv X pins σ H s := ⟨I.ok.unwish, I.os, I.bare, I.base, I.loc, I.cell, I.free, I.freeC, I.pin, I.hok, I.len⟩
theorem SP.unwish {D : Ends} {f : Flow} {s' : Shared} (h : SP (X.wish E) pins D f s') : SP X pins D f s' := by
  cases f with
  | next => obtain ⟨σ', H', I, q⟩ := h; exact ⟨σ', H', I.unwish, q⟩
  | brk => obtain ⟨σ', H', I, q⟩ := h; exact ⟨σ', H', I.unwish, q⟩
  | cont => obtain ⟨σ', H', I, q⟩ := h; exact ⟨σ', H', I.unwish, q⟩
  | ret u => obtain ⟨v, σ', H', I, r, q⟩ := h; exact ⟨v, σ', H', I.unwish, r, q⟩
theorem PSs.nox {st : List Stmt} {t : TS} (h : PSs X.nox st t) : PSs X st t := fun pins s σ H D I hw =>
  wpAny_mono (h pins s σ H D (I.wish _) hw) (fun _ _ q => q.unwish) fun _ _ z => False.elim z
end

/-! ### blocks and small statements -/
section
variable {X : Cx} {st : Stmt} {rest : List Stmt} {t u : TS} {e : Expr} {te : TE} {pos : Pos}
def tNext : TS := fun D σ H => D.nx σ H
def tSeq (t u : TS) : TS := fun D σ H => t { D with nx := u D } σ H
theorem pss_nil : PSs X [] tNext := fun _ _ σ H _ I h => wpAny_execs_nil ⟨σ, H, I, h⟩
theorem pss_cons (h1 : PS X st t) (h2 : PSs X rest u) : PSs X (st :: rest) (tSeq t u) := by
  intro pins s σ H D I h
  refine wpAny_execs_cons (thn (h1 pins s σ H { D with nx := u D } I h) fun f s1 q => ?_)
  cases f with
  | next =>
    obtain ⟨σ', H', I', q⟩ := q
    exact h2 pins s1 σ' H' D I' q
  | ret v => exact q
  | brk => exact q
  | cont => exact q
theorem pss_one (h1 : PS X st t) : PSs X [st] t := by
  intro pins s σ H D I h
  refine wpAny_execs_cons (thn (h1 pins s σ H D I h) fun f s1 q => ?_)
  cases f with
  | next => exact wpAny_execs_nil q
  | ret v => exact q
  | brk => exact q
  | cont => exact q
/-- in a def's body nothing is shown -/
theorem Inv.quiet {pins : List (Addr × Obj)} {σ : St} {H : Hp} {s : Shared} (I : Inv X pins σ H s) : interactive X.env = false := by simp [interactive, I.ok.kind]
/-- an expression whose value is dropped -/
def tDrop (te : TE) : TS := fun D σ H => te σ H fun _ H1 => D.nx σ H1
theorem ps_expr (he : PE X e te) (hs : swapsWith e none pos.line X.env = pure false := by rfl) : PS X (.Expr e pos) (tDrop te) := by
  intro pins s σ H D I h
  exact wpAny_Expr_any (thn (he pins s σ H _ I h) fun v s1 ⟨x, H1, I1, r1, q1⟩ => ⟨σ, H1, I1, q1⟩) I.quiet hs
def tRet (te : TE) : TS := fun D σ H => te σ H D.rt
theorem ps_ret (he : PE X e te) : PS X (.Return (some e) pos) (tRet te) := by
  intro pins s σ H D I h
  exact wpAny_Return_some (thn (he pins s σ H _ I h) fun v s1 ⟨x, H1, I1, r1, q1⟩ => ⟨x, σ, H1, I1, r1, q1⟩)
def tIfS (c : TT) (t u : TS) : TS := fun D σ H => c σ H fun b H1 => if b = true then t D σ H1 else u D σ H1
theorem ps_if {c : Expr} {a b : List Stmt} {tc : TT} (hc : PT X c tc) (ha : PSs X a t) (hb : PSs X b u) : PS X (.If c a b pos) (tIfS tc t u) := by
  intro pins s σ H D I h
  refine wpAny_If (thn (hc pins s σ H _ I h) fun d s1 ⟨H1, I1, q1⟩ => ?_)
  cases d with
  | true => exact ha pins s1 σ H1 D I1 q1
  | false => exact hb pins s1 σ H1 D I1 q1
end

/-! ### targets -/
abbrev TG := V → St → Hp → (St → Hp → Prop) → Prop
abbrev TGs := List V → St → Hp → (St → Hp → Prop) → Prop
def PG (X : Cx) (target : Expr) (t : TG) : Prop :=
  ∀ (pins : List (Addr × Obj)) (s : Shared) (σ : St) (H : Hp) (v : V) (u : Value) (Q : St → Hp → Prop), Inv X pins σ H s → RelV v u → t v σ H Q →
    wpAny (model X.prog X.w) X.A (assign target X.env u) (fun _ s' => ∃ σ' H', Inv X pins σ' H' s' ∧ Q σ' H') X.xe s
/-- several targets, one after another -/
def PGs (X : Cx) (ts : List Expr) (t : TGs) : Prop :=
  ∀ (pins : List (Addr × Obj)) (s : Shared) (σ : St) (H : Hp) (vs : List V) (us : List Value) (Q : St → Hp → Prop), Inv X pins σ H s → Vals vs us → t vs σ H Q →
    wpAny (model X.prog X.w) X.A (assignInOrder ((assignEach ts X.env).map (·.2)) us) (fun _ s' => ∃ σ' H', Inv X pins σ' H' s' ∧ Q σ' H') X.xe s
/-- o[i] = v, by values -/
abbrev TSet := V → V → V → Hp → (Hp → Prop) → Prop
def PSet (X : Cx) (t : TSet) : Prop :=
  ∀ (pins : List (Addr × Obj)) (s : Shared) (σ : St) (H : Hp) (o i v : V) (ov iv u : Value) (Q : Hp → Prop), Inv X pins σ H s → RelV o ov → RelV i iv → RelV v u → t o i v H Q →
    wpAny (model X.prog X.w) X.A (setItem ov iv u) (fun _ s' => ∃ H', Inv X pins σ H' s' ∧ Q H') X.xe s
section
variable {X : Cx} {pos : Pos}
def gName (i : Nat) : TG := fun v σ H Q => Q (σ.set i (some v)) H
theorem pg_name {i : Nat} {x : Str} (hN : X.N.Nodup) (hi : X.N[i]? = some x) (hx : Loc X.env.scope x) (hf : X.fn x = true ∨ X.env.scope.names.lookup x = some .local := by first | exact .inl rfl | exact .inr rfl | assumption) : PG X (.Name x pos) (gName i) := by
  intro pins s σ H v u Q I r h
  exact wpAny_assign_Name (store_ok I hN hi hx r (fun s' I' => ⟨_, H, I', h⟩) hf)
def gNil : TGs := fun vs σ H Q => vs = [] ∧ Q σ H
def gCons (t : TG) (u : TGs) : TGs := fun vs σ H Q => ∃ v r, vs = v :: r ∧ t v σ H fun σ' H' => u r σ' H' Q
theorem pgs_nil : PGs X [] gNil := by
  intro pins s σ H vs us Q I r h
  obtain ⟨e, h⟩ := h
  subst e
  cases r
  exact assignInOrder_nil ⟨σ, H, I, h⟩
theorem pgs_cons {e : Expr} {es : List Expr} {t : TG} {u : TGs} (h1 : PG X e t) (h2 : PGs X es u)
    (hs : (assignEach (e :: es) X.env).map (·.2) = assign e X.env :: (assignEach es X.env).map (·.2) := by rfl) : PGs X (e :: es) (gCons t u) := by
  intro pins s σ H vs us Q I r h
  obtain ⟨v, vr, e1, h⟩ := h
  subst e1
  cases r with
  | cons r rr =>
    rw [hs]
    refine assignInOrder_cons (thn (h1 pins s σ H _ _ _ I r h) fun _ s1 ⟨σ1, H1, I1, q1⟩ => ?_)
    exact h2 pins s1 σ1 H1 _ _ Q I1 rr q1
/-- (a, b, ..) = a tuple of that length -/
def gTup (K : PySem.W.Frag) (n : Nat) (t : TGs) : TG := fun v σ H Q => ∃ a xs, v = .ref a ∧ SqT K H a xs ∧ xs.length = n ∧ t xs σ H Q
theorem pg_tup {es : List Expr} {k : Nat} {t : TGs} {n : Nat} (hc : X.calm = true) (h : PGs X es t)
    (hn : (assignEach es X.env).length = n := by rfl) (hst : (assignEach es X.env).findIdx? (·.1) = none := by rfl) : PG X (.Tuple es k pos) (gTup X.K n t) := by
  intro pins s σ H v u Q I r hw
  obtain ⟨a, xs, e1, hq, hl, hw⟩ := hw
  subst e1
  cases r
  obtain ⟨its, rv, ht, hz⟩ := I.tuple hq
  refine assign_Tuple_tuple (I.ok.hd hc) ht (by simp [hn, ← hl, rv.length]) hst fun h' hx => ?_
  have I1 : Inv X pins σ H { s with heap := h' } := I.kept (t' := s.toks) fun b o e => hx b o (Nat.ne_of_lt (Heap.lt_size e)) e
  exact h pins _ σ H xs _ Q I1 (by simpa using rv) hw
/-- o[i] = .. -/
def gSub (to ti : TE) (t : TSet) : TG := fun v σ H Q => to σ H fun o H1 => ti σ H1 fun i H2 => t o i v H2 fun H3 => Q σ H3
theorem pg_sub {o i : Expr} {to ti : TE} {t : TSet} (ho : PE X o to) (hi : PE X i ti) (hs : PSet X t)
    (ha : ∀ v, assign (.Subscript o i pos) X.env v = (do
      let ov ← holding [v] (eval o X.env)
      let iv ← holding [v, ov] (eval i X.env)
      standAt pos
      holding [v, ov, iv] (setItem ov iv v)
      release [v, ov, iv] []) := by intro _; rfl) : PG X (.Subscript o i pos) (gSub to ti t) := by
  intro pins s σ H v u Q I r h
  rw [ha]
  refine wpAny_bind (wpAny_holding (thn (ho pins s σ H _ I h) fun ov s1 ⟨x, H1, I1, r1, q1⟩ => ?_))
  refine wpAny_bind (wpAny_holding (thn (hi pins s1 σ H1 _ I1 q1) fun iv s2 ⟨y, H2, I2, r2, q2⟩ => ?_))
  refine wpAny_bind (wpAny_standAt (wpAny_bind (wpAny_holding (thn (hs pins s2 σ H2 x y v ov iv u _ I2 r1 r2 r q2) fun _ s3 ⟨H3, I3, q3⟩ => ?_))))
  exact wpAny_release ⟨σ, H3, I3, q3⟩
/-- target = value -/
def tAsg (te : TE) (g : TG) : TS := fun D σ H => te σ H fun x H1 => g x σ H1 D.nx
theorem ps_asg {tg e : Expr} {te : TE} {g : TG} (he : PE X e te) (hg : PG X tg g) (hs : swapsWithSole [tg] e pos.line X.env = pure false := by rfl) (hw : swappedStores [tg] e X.env = pure none := by rfl)
    (h1 : (assignEach [tg] X.env).map (·.2) = [assign tg X.env] := by rfl) : PS X (.Assign [tg] e pos) (tAsg te g) := by
  intro pins s σ H D I h
  refine wpAny_Assign_stores (thn (he pins s σ H _ I h) fun v s1 ⟨x, H1, I1, r1, q1⟩ => ?_) hs hw
  rw [h1]
  exact thn (hg pins s1 σ H1 x v _ I1 r1 q1) fun _ s2 q => q
/-- name = value -/
theorem ps_set {i : Nat} {x : Str} {e : Expr} {te : TE} {pos' : Pos} (hN : X.N.Nodup) (hi : X.N[i]? = some x) (hx : Loc X.env.scope x) (he : PE X e te) (hs : swapsWith e (some (.Name x pos')) pos.line X.env = pure false := by rfl) (hf : X.fn x = true ∨ X.env.scope.names.lookup x = some .local := by first | exact .inl rfl | exact .inr rfl | assumption) :
    PS X (.Assign [.Name x pos'] e pos) (tAsg te (gName i)) := by
  intro pins s σ H D I h
  refine wpAny_Assign_Name (thn (he pins s σ H _ I h) fun v s1 ⟨y, H1, I1, r1, q1⟩ => ?_) hs
  exact store_ok I1 hN hi hx r1 (fun s2 I2 => ⟨_, H1, I2, q1⟩) hf
end

/-! ### while -/
section
variable {X : Cx} {pos : Pos}
end

/-! ### what a loop or a comprehension walks -/
/-- at turn i: it yields x (the heap may grow), or it stops -/
structure It where
  go : Nat → Hp → Prop
  yld : Nat → Hp → V → Hp → Prop
  stop : Nat → Hp → Prop
/-- the iterator's own objects may turn: they are not the frame's, not pinned, younger than the entry (or a comprehension's own) -/
def FpOk (X : Cx) (pins : List (Addr × Obj)) (H : Hp) (b : Addr) : Prop :=
  H b = none ∧ b ≠ X.env.locals ∧ b ∉ X.fs ∧ (b ∈ X.ex ∨ X.s₀.heap.objs.size ≤ b) ∧ (∀ x c, X.env.cells.lookup x = some c → c ≠ b) ∧ ∀ p ∈ X.pn ++ pins, p.1 ≠ b
theorem Inv.fpOk {X : Cx} {pins : List (Addr × Obj)} {σ : St} {H H' : Hp} {s : Shared} {b : Addr} (I : Inv X pins σ H s) (hb : s.heap.objs.size ≤ b) (hn : H' b = none) : FpOk X pins H' b := by
  refine ⟨hn, Nat.ne_of_gt (Nat.lt_of_lt_of_le I.lt hb), I.nofs hb, .inr (Nat.le_trans I.sz hb), fun x c e z => ?_, fun p hp z => ?_⟩
  · obtain ⟨v, q⟩ := I.cell x c e
    exact absurd (Nat.lt_of_lt_of_le q.lt (by rw [z]; exact hb)) (Nat.lt_irrefl _)
  · exact absurd (Nat.lt_of_lt_of_le (Heap.lt_size (I.pin p hp).1) (by rw [z]; exact hb)) (Nat.lt_irrefl _)
structure Turn (P : Program) (w : World) (K : PySem.W.Frag) (tg : Expr) (J : It) (fp : List Addr) (it : Addr) (tn : Nat → Heap → Prop) : Prop where
  mem : it ∈ fp
  obj : ∀ i h, tn i h → ∀ b ∈ fp, ∃ o, h.get? b = some o ∧ ∀ v, o.data ≠ .cell v
  keep : ∀ i h h', tn i h → (∀ b ∈ fp, ∀ o, h.get? b = some o → h'.get? b = some o) → tn i h'
  item : ∀ (X : Cx), X.prog = P → X.w = w → X.K = K → X.calm = true → ∀ (i : Nat) (pins : List (Addr × Obj)) (s : Shared) (σ : St) (H : Hp) (E : Value → Shared → Prop), Inv X pins σ H s → (∀ b ∈ fp, FpOk X pins H b) → tn i s.heap → J.go i H →
    wpAny (model P w) X.A (pyNext (.ref it)) (fun r s1 => ∃ u, r = some u ∧
      wpAny (model P w) X.A (letOwnedTupleGo tg (.ref it) u) (fun _ s2 => ∃ x H', Inv X pins σ H' s2 ∧ RelV x u ∧ J.yld i H x H' ∧ tn (i + 1) s2.heap ∧ ∀ b ∈ fp, H' b = none) E s1) E s
  done : ∀ (X : Cx), X.prog = P → X.w = w → X.K = K → X.calm = true → ∀ (i : Nat) (pins : List (Addr × Obj)) (s : Shared) (σ : St) (H : Hp) (E : Value → Shared → Prop), Inv X pins σ H s → (∀ b ∈ fp, FpOk X pins H b) → tn i s.heap → J.stop i H →
    wpAny (model P w) X.A (pyNext (.ref it)) (fun r s1 => r = none ∧ Inv X pins σ H s1) E s
  self : ∀ (A : Around) (i : Nat) (s : Shared) (Q : Value → Shared → Prop) (E : Value → Shared → Prop), tn i s.heap → Q (.ref it) s → wpAny (model P w) A (pyIter (.ref it)) Q E s
abbrev TI := St → Hp → (It → Hp → Prop) → Prop
/-- an iterator has come -/
def PIE (X : Cx) (pins : List (Addr × Obj)) (σ : St) (tg : Expr) (R : It → Hp → Prop) (itv : Value) (s2 : Shared) : Prop :=
  ∃ (it : Addr) (fp : List Addr) (tn : Nat → Heap → Prop) (J : It) (H' : Hp), itv = .ref it ∧ Inv X pins σ H' s2 ∧ Turn X.prog X.w X.K tg J fp it tn ∧ tn 0 s2.heap ∧ (∀ b ∈ fp, FpOk X pins H' b) ∧ R J H'
def PI (X : Cx) (tg iter : Expr) (wi : TI) : Prop :=
  ∀ (pins : List (Addr × Obj)) (s : Shared) (σ : St) (H : Hp) (R : It → Hp → Prop), Inv X pins σ H s → wi σ H R →
    wpAny (model X.prog X.w) X.A (eval iter X.env) (fun v s1 => wpAny (model X.prog X.w) X.A (pyIter v) (PIE X pins σ tg R) X.xe s1) X.xe s

/-- the step ahead of the store is nothing for an iterator that keeps no tuple -/
theorem go_of {M : Model} {A : Around} {E : Value → Shared → Prop} {s : Shared} {tg : Expr} {it : Addr} {u : Value} {o : Obj} {n : String} {vs : Array Value} {Q : Unit → Shared → Prop} (ho : s.heap.get? it = some o) (hc : o.cls = .type n) (hd : o.data = .fields vs)
    (hn : ["enumerate", "zip", "dict_itemiterator", "dict_reverseitemiterator", "odict_iterator", "itertools.zip_longest", "itertools.pairwise"].contains n = false) (hQ : Q () s) : wpAny M A (letOwnedTupleGo tg (.ref it) u) Q E s := by
  unfold letOwnedTupleGo
  cases tg <;> first
    | exact wpAny_pure hQ
    | (cases u <;> first
        | exact wpAny_pure hQ
        | (refine wpAny_bind (wpAny_load ho ?_)
           rw [hc, hd]
           show wpAny M A (if (["enumerate", "zip", "dict_itemiterator", "dict_reverseitemiterator", "odict_iterator", "itertools.zip_longest", "itertools.pairwise"].contains n && vs[0]? == some (rawInt _)) = true then _ else _) Q E s
           rw [if_neg (by intro h; rw [hn, Bool.false_and] at h; cases h)]
           exact wpAny_pure hQ))

/-- the list at a, as it stands at each turn (a loop may append to it) -/
def Itl (K : PySem.W.Frag) (a : Addr) : It :=
  ⟨fun i H => ∃ xs x, SqL K H a xs ∧ xs[i]? = some x, fun i H x H' => H' = H ∧ ∀ xs, SqL K H a xs → xs[i]? = some x, fun i H => ∃ xs, SqL K H a xs ∧ xs.length ≤ i⟩
def Itt (K : PySem.W.Frag) (a : Addr) : It :=
  ⟨fun i H => ∃ xs x, SqT K H a xs ∧ xs[i]? = some x, fun i H x H' => H' = H ∧ ∀ xs, SqT K H a xs → xs[i]? = some x, fun i H => ∃ xs, SqT K H a xs ∧ xs.length ≤ i⟩
/-- lo, lo + 1, .. (n of them) -/
def Itr (lo : Int) (n : Nat) : It := ⟨fun i _ => i < n, fun i H x H' => H' = H ∧ x = .int (lo + i), fun i _ => n ≤ i⟩
theorem turn_list {P : Program} {w : World} {K : PySem.W.Frag} {tg : Expr} (a it : Addr) : Turn P w K tg (Itl K a) [it] it (fun i h => h.IsListIter it a i) where
  mem := by simp
  obj := fun i h st b hb => by
    have e : b = it := by simpa using hb
    subst e
    obtain ⟨o, e, c, d⟩ := st
    exact ⟨o, e, fun v z => by rw [d] at z; cases z⟩
  keep := fun i h h' st k => st.at fun o e => k it (by simp) o e
  item := by
    intro X hP hw hK hc i pins s σ H E I hf st hg
    subst hP hw hK
    obtain ⟨xs, x, hq, hx⟩ := hg
    obtain ⟨its, rv, p, hz⟩ := I.list hq
    obtain ⟨u, hu, ru⟩ := rv.get hx
    obtain ⟨f0, f1, f2, f3, f4, f5⟩ := hf it (by simp)
    refine wpAny_pyNext_list_item st p.isList (x := u) (by simpa using hu) fun h' st' sb => ?_
    have I1 : Inv X pins σ H { s with heap := h' } := I.turned (t' := s.toks) (fun b o hb e => (sb.2 b hb).trans e) f0 f1 f3 f4 f5
    obtain ⟨o, e, c, d⟩ := id st'
    exact ⟨u, rfl, go_of (s := { s with heap := h' }) e c d (by decide) ⟨x, H, I1, ru, ⟨rfl, fun ys hy => by rw [I.list_inj hy hq]; exact hx⟩, st', fun b hb => (hf b hb).1⟩⟩
  done := by
    intro X hP hw hK hc i pins s σ H E I hf st hg
    subst hP hw hK
    obtain ⟨xs, hq, hx⟩ := hg
    obtain ⟨its, rv, p, hz⟩ := I.list hq
    obtain ⟨f0, f1, f2, f3, f4, f5⟩ := hf it (by simp)
    have hl := rv.length
    exact wpAny_pyNext_list_end (I.ok.hd hc) st p.isList (by simp; omega) fun h' eb => ⟨rfl, I.turned (t' := s.toks) (fun b o hb e => eb b o hb e) f0 f1 f3 f4 f5⟩
  self := fun _ _ _ _ _ st h => wpAny_pyIter_listiter st h
theorem turn_tuple {P : Program} {w : World} {K : PySem.W.Frag} {tg : Expr} (a it : Addr) : Turn P w K tg (Itt K a) [it] it (fun i h => h.IsTupleIter it a i) where
  mem := by simp
  obj := fun i h st b hb => by
    have e : b = it := by simpa using hb
    subst e
    obtain ⟨o, e, c, d⟩ := st
    exact ⟨o, e, fun v z => by rw [d] at z; cases z⟩
  keep := fun i h h' st k => st.at fun o e => k it (by simp) o e
  item := by
    intro X hP hw hK hc i pins s σ H E I hf st hg
    subst hP hw hK
    obtain ⟨xs, x, hq, hx⟩ := hg
    obtain ⟨its, rv, p, hz⟩ := I.tuple hq
    obtain ⟨u, hu, ru⟩ := rv.get hx
    obtain ⟨f0, f1, f2, f3, f4, f5⟩ := hf it (by simp)
    refine wpAny_pyNext_tuple_item st (show s.heap.IsTuple a its.toArray from p) (x := u) (by simpa using hu) fun h' st' sb => ?_
    have I1 : Inv X pins σ H { s with heap := h' } := I.turned (t' := s.toks) (fun b o hb e => (sb.2 b hb).trans e) f0 f1 f3 f4 f5
    obtain ⟨o, e, c, d⟩ := id st'
    exact ⟨u, rfl, go_of (s := { s with heap := h' }) e c d (by decide) ⟨x, H, I1, ru, ⟨rfl, fun ys hy => by rw [I.tuple_inj hy hq]; exact hx⟩, st', fun b hb => (hf b hb).1⟩⟩
  done := by
    intro X hP hw hK hc i pins s σ H E I hf st hg
    subst hP hw hK
    obtain ⟨xs, hq, hx⟩ := hg
    obtain ⟨its, rv, p, hz⟩ := I.tuple hq
    obtain ⟨f0, f1, f2, f3, f4, f5⟩ := hf it (by simp)
    have hl := rv.length
    exact wpAny_pyNext_tuple_end (I.ok.hd hc) st (show s.heap.IsTuple a its.toArray from p) (by simp; omega) fun h' eb => ⟨rfl, I.turned (t' := s.toks) (fun b o hb e => eb b o hb e) f0 f1 f3 f4 f5⟩
  self := fun _ _ _ _ _ st h => wpAny_pyIter_tupleiter st h
theorem turn_range {P : Program} {w : World} {K : PySem.W.Frag} {tg : Expr} (it : Addr) (lo : Int) (n : Nat) : Turn P w K tg (Itr lo n) [it] it (fun i h => IsRangeIter h it (lo + (i : Nat) * 1) ((n : Int) - (i : Nat)) 1) where
  mem := by simp
  obj := fun i h st b hb => by
    have e : b = it := by simpa using hb
    subst e
    exact ⟨_, st, fun v z => by
      have z' : Data.fields _ = Data.cell v := z
      cases z'⟩
  keep := fun i h h' st k => k it (by simp) _ st
  item := by
    intro X hP hw hK hc i pins s σ H E I hf st hg
    subst hP hw hK
    obtain ⟨f0, f1, f2, f3, f4, f5⟩ := hf it (by simp)
    have W := Walks.range (prog := X.prog) (w := X.w) (I.ok.hd hc) it lo 1 n
    refine W.item i s _ _ hg st fun v h' tk hv st' kk => ?_
    obtain ⟨t, rfl⟩ := hv
    have I1 : Inv X pins σ H { s with heap := h', toks := tk } := I.turned (fun b o hb e => kk b o (by simpa using hb) e) f0 f1 f3 f4 f5
    refine ⟨_, rfl, go_of (s := { s with heap := h', toks := tk }) (n := "range_iterator") st' rfl rfl (by decide) ⟨.int (lo + i), H, I1, ⟨t, ?_⟩, ⟨rfl, rfl⟩, st', fun b hb => (hf b hb).1⟩⟩
    rw [Int.mul_one]
  done := by
    intro X hP hw hK hc i pins s σ H E I hf st hg
    subst hP hw hK
    obtain ⟨f0, f1, f2, f3, f4, f5⟩ := hf it (by simp)
    exact wpAny_pyNext_range_end (I.ok.hd hc) st (by have : n ≤ i := hg; omega) fun h' eb => ⟨rfl, I.turned (t' := s.toks) (fun b o hb e => eb b o hb e) f0 f1 f3 f4 f5⟩
  self := fun _ _ _ _ _ st h => wpAny_pyIter_rangeiter st h
end L2

namespace L2
open PySem PySem.Spec PyProof.Rows
section
variable {X : Cx} {tg : Expr}
def iList (K : PySem.W.Frag) (tl : TE) : TI := fun σ H R => tl σ H fun x H1 => ∃ a, x = .ref a ∧ (∃ xs, SqL K H1 a xs) ∧ R (Itl K a) H1
def iTup (K : PySem.W.Frag) (tl : TE) : TI := fun σ H R => tl σ H fun x H1 => ∃ a, x = .ref a ∧ (∃ xs, SqT K H1 a xs) ∧ R (Itt K a) H1
theorem pi_list {l : Expr} {tl : TE} (hl : PE X l tl) : PI X tg l (iList X.K tl) := by
  intro pins s σ H R I h
  refine thn (hl pins s σ H _ I h) fun v s1 ⟨x, H1, I1, r1, q1⟩ => ?_
  obtain ⟨a, e, ⟨xs, hq⟩, q⟩ := q1
  subst e
  cases r1
  obtain ⟨its, rv, p, hz⟩ := I1.list hq
  refine wpAny_pyIter_list p.isList ?_
  refine ⟨s1.heap.objs.size, [s1.heap.objs.size], _, _, H1, rfl, I1.kept (t' := s1.toks) fun b o e => Heap.get?_push_of_some _ e, turn_list a _, ⟨_, Heap.get?_push_size _ rfl, rfl, rfl⟩, fun b hb => ?_, q⟩
  have e : b = s1.heap.objs.size := by simpa using hb
  subst e
  exact I1.fpOk (Nat.le_refl _) (I1.hok.fresh (Nat.le_refl _))
theorem pi_tup {l : Expr} {tl : TE} (hl : PE X l tl) : PI X tg l (iTup X.K tl) := by
  intro pins s σ H R I h
  refine thn (hl pins s σ H _ I h) fun v s1 ⟨x, H1, I1, r1, q1⟩ => ?_
  obtain ⟨a, e, ⟨xs, hq⟩, q⟩ := q1
  subst e
  cases r1
  obtain ⟨its, rv, p, hz⟩ := I1.tuple hq
  refine wpAny_pyIter_tuple (show s1.heap.IsTuple a its.toArray from p) ?_
  refine ⟨s1.heap.objs.size, [s1.heap.objs.size], _, _, H1, rfl, I1.kept (t' := s1.toks) fun b o e => Heap.get?_push_of_some _ e, turn_tuple a _, ⟨_, Heap.get?_push_size _ rfl, rfl, rfl⟩, fun b hb => ?_, q⟩
  have e : b = s1.heap.objs.size := by simpa using hb
  subst e
  exact I1.fpOk (Nat.le_refl _) (I1.hok.fresh (Nat.le_refl _))
/-- a range object just made, walked -/
theorem range_it {pins : List (Addr × Obj)} {σ : St} {H : Hp} {s : Shared} {R : It → Hp → Prop} {E : Value → Shared → Prop} {lo hi : Int} {t u v : Tok} {tk : Nat} (I : Inv X pins σ H s) (h1 : -(2 ^ 62) ≤ lo) (h2 : lo < 2 ^ 62) (h3 : -(2 ^ 62) ≤ hi) (h4 : hi < 2 ^ 62)
    (q : R (Itr lo (hi - lo).toNat) H) : wpAny (model X.prog X.w) X.A (pyIter (.ref s.heap.objs.size)) (PIE X pins σ tg R) E { s with heap := s.heap.push { cls := .type "range", data := .fields #[.int lo t, .int hi u, .int 1 v] }, toks := tk } := by
  refine wpAny_pyIter_range (IsRange.new ..) (small_one h1 h2 h3 h4) ?_
  have I1 : Inv X pins σ H { s with heap := s.heap.push { cls := .type "range", data := .fields #[.int lo t, .int hi u, .int 1 v] }, toks := tk } := I.kept fun b o e => Heap.get?_push_of_some _ e
  refine ⟨(s.heap.push { cls := .type "range", data := .fields #[.int lo t, .int hi u, .int 1 v] }).objs.size, [(s.heap.push { cls := .type "range", data := .fields #[.int lo t, .int hi u, .int 1 v] }).objs.size], _, _, H, rfl,
    I1.kept (t' := tk) fun b o e => Heap.get?_push_of_some _ e, turn_range _ lo (hi - lo).toNat, ?_, fun b hb => ?_, q⟩
  · have e1 : lo + ((0 : Nat) : Int) * 1 = lo := by simp
    have e2 : (((hi - lo).toNat : Nat) : Int) - ((0 : Nat) : Int) = Builtin.Range.rangeSize lo hi 1 := by rw [rangeSize_one]; split <;> omega
    show IsRangeIter _ _ (lo + ((0 : Nat) : Int) * 1) ((((hi - lo).toNat : Nat) : Int) - ((0 : Nat) : Int)) 1
    rw [e1, e2]
    exact Heap.get?_push_size _ rfl
  · have e : b = (s.heap.push { cls := .type "range", data := .fields #[.int lo t, .int hi u, .int 1 v] }).objs.size := by simpa using hb
    subst e
    exact I1.fpOk (Nat.le_refl _) (I1.hok.fresh (Nat.le_refl _))
def iRng1 (ta : TA) : TI := fun σ H R => ta σ H fun vs H1 => ∃ j : Int, vs = [.int j] ∧ -(2 ^ 62) ≤ j ∧ j < 2 ^ 62 ∧ R (Itr 0 j.toNat) H1
def iRng2 (ta : TA) : TI := fun σ H R => ta σ H fun vs H1 => ∃ i j : Int, vs = [.int i, .int j] ∧ (-(2 ^ 62) ≤ i ∧ i < 2 ^ 62 ∧ -(2 ^ 62) ≤ j ∧ j < 2 ^ 62) ∧ R (Itr i (j - i).toNat) H1
theorem pi_range1 {a : Expr} {ta : TA} {p pos : Pos} (hg : Gl X "range") (hm : X.mg "range" = none) (ha : PA X [a] ta) (hs : starEach [a] X.env = [(false, eval a X.env)] := by rfl) : PI X tg (.Call (.Name "range" p) [a] [] pos) (iRng1 ta) := by
  intro pins s σ H R I h
  refine Call_ (ld_blt I hg hm boot_range (PyProof.Rows.callWith_type1 (thn (ha pos pins s σ H _ I h) fun us s1 ⟨vs, H1, I1, r1, q1⟩ => ?_) hs rfl))
  obtain ⟨j, e, q1, q2, q⟩ := q1
  subst e
  cases r1 with
  | cons r rr =>
    cases rr
    obtain ⟨t, rfl⟩ := r
    exact call_range_1 (range_it I1 (by omega) (by omega) q1 q2 (by simpa using q))
theorem pi_range2 {a b : Expr} {ta : TA} {p pos : Pos} (hg : Gl X "range") (hm : X.mg "range" = none) (ha : PA X [a, b] ta) (hs : starEach [a, b] X.env = [(false, eval a X.env), (false, eval b X.env)] := by rfl) (hs2 : starEach [b] X.env = [(false, eval b X.env)] := by rfl) :
    PI X tg (.Call (.Name "range" p) [a, b] [] pos) (iRng2 ta) := by
  intro pins s σ H R I h
  refine Call_ (ld_blt I hg hm boot_range (PyProof.Rows.callWith_type1 (thn (ha pos pins s σ H _ I h) fun us s1 ⟨vs, H1, I1, r1, q1⟩ => ?_) (by rw [hs, hs2]) (by rw [hs2]; rfl)))
  obtain ⟨i, j, e, ⟨q1, q2, q3, q4⟩, q⟩ := q1
  subst e
  cases r1 with
  | cons r rr =>
    cases rr with
    | cons r' rr =>
      cases rr
      obtain ⟨t, rfl⟩ := r
      obtain ⟨t', rfl⟩ := r'
      exact call_range_2 (range_it I1 q1 q2 q3 q4 q)

/-! ### for -/
/-- W: the invariant by the turn and a measure; N: what the body is to reach -/
def tFor (wi : TI) (g : TG) (tb : TS) : TS := fun D σ H => wi σ H fun J H1 => ∃ W : Nat → Nat → St → Hp → Prop, (∃ m, W 0 m σ H1) ∧ ∀ i m σ H, W i m σ H →
  (J.stop i H ∧ D.nx σ H) ∨ (J.go i H ∧ ∃ N : St → Hp → Prop, (∀ σ' H', N σ' H' → ∃ m', m' < m ∧ W (i + 1) m' σ' H') ∧ ∀ x H', J.yld i H x H' → g x σ H' fun σ2 H2 => tb { D with nx := N, ct := N, bk := D.nx } σ2 H2)
/-- the records at fp as they stand -/
def pinsAt (fp : List Addr) (h : Heap) : List (Addr × Obj) := fp.filterMap fun b => (h.get? b).map fun o => (b, o)
theorem mem_pinsAt {fp : List Addr} {h : Heap} {b : Addr} {o : Obj} (hb : b ∈ fp) (e : h.get? b = some o) : (b, o) ∈ pinsAt fp h := List.mem_filterMap.mpr ⟨b, hb, by rw [e]; rfl⟩
theorem of_pinsAt {fp : List Addr} {h : Heap} {p : Addr × Obj} (hp : p ∈ pinsAt fp h) : p.1 ∈ fp ∧ h.get? p.1 = some p.2 := by
  obtain ⟨b, hb, e⟩ := List.mem_filterMap.mp hp
  cases q : h.get? b with
  | none => rw [q] at e; cases e
  | some o =>
    rw [q] at e
    have e' : (b, o) = p := Option.some.inj e
    subst e'
    exact ⟨hb, q⟩
theorem Inv.pinned {pins : List (Addr × Obj)} {σ : St} {H : Hp} {s : Shared} {fp : List Addr} (I : Inv X pins σ H s) (hf : ∀ b ∈ fp, FpOk X pins H b) (ho : ∀ b ∈ fp, ∃ o, s.heap.get? b = some o ∧ ∀ v, o.data ≠ .cell v) : Inv X (pins ++ pinsAt fp s.heap) σ H s :=
  I.pins_of fun p hp => (List.mem_append.mp hp).elim (fun z => I.pin p (List.mem_append_right _ z)) fun z => by
    obtain ⟨hb, e⟩ := of_pinsAt z
    obtain ⟨f0, f1, f2, _⟩ := hf p.1 hb
    obtain ⟨o, e', d⟩ := ho p.1 hb
    rw [e] at e'; cases e'
    exact ⟨e, f0, f1, f2, d⟩
theorem Inv.unpinned {pins pl : List (Addr × Obj)} {σ : St} {H : Hp} {s : Shared} (I : Inv X (pins ++ pl) σ H s) : Inv X pins σ H s := I.pins_of fun p hp => I.pin p (List.mem_append_right _ (List.mem_append_left _ hp))
theorem ps_for {iter : Expr} {body : List Stmt} {wi : TI} {g : TG} {tb : TS} {pos : Pos} (hp : PassesOwn (model X.prog X.w) X.A X.env X.xe) (hc : X.calm = true) (hi : PI X tg iter wi) (hg : PG X tg g) (hb : PSs X body tb)
    (hs : ∀ x, foldedSetIterable iter X.env x = pure x := by intro _; rfl) : PS X (.For tg iter body [] pos) (tFor wi g tb) := by
  intro pins s σ H D I h
  refine wpAny_For (thn (hi pins s σ H _ I h) fun v s1 h1 => thn h1 fun itv s2 h2 => ?_) hs
  obtain ⟨it, fp, tn, J, H2, e, I2, T, st2, f2, W, ⟨m0, w0⟩, turn⟩ := h2
  subst e
  -- what stays true of the iterator's objects through the loop
  have stat : ∀ {H' : Hp}, (∀ b ∈ fp, H' b = none) → ∀ b ∈ fp, FpOk X pins H' b := fun hn b hb => ⟨hn b hb, (f2 b hb).2⟩
  refine codeAny_forLoop_any (fun n s' => ∃ i σ' H', Inv X pins σ' H' s' ∧ tn i s'.heap ∧ (∀ b ∈ fp, H' b = none) ∧ W i n σ' H') ?_ m0 ⟨0, σ, H2, I2, st2, fun b hb => (f2 b hb).1, w0⟩
  rintro n s3 ⟨i, σ3, H3, I3, st3, fr3, w3⟩
  rcases turn i n σ3 H3 w3 with ⟨stop, qn⟩ | ⟨go, N, hN, step⟩
  · refine wpAny_passesOwn hp (thn (T.done X rfl rfl rfl hc i pins s3 σ3 H3 X.xe I3 (stat fr3) st3 stop) fun r s4 ⟨hr, I4⟩ => ?_)
    subst hr
    exact wpAny_execs_nil ⟨σ3, H3, I4, qn⟩
  · refine wpAny_passesOwn hp (thn (T.item X rfl rfl rfl hc i pins s3 σ3 H3 X.xe I3 (stat fr3) st3 go) fun r s4 ⟨u, hr, h4⟩ => ?_)
    subst hr
    refine wpAny_passesOwn hp (thn h4 fun _ s5 ⟨x, H5, I5, r5, y5, st5, fr5⟩ => ?_)
    have I5' := I5.pinned (stat fr5) (T.obj _ _ st5)
    refine wpAny_passesOwn hp (thn (hg _ s5 σ3 H5 x u _ I5' r5 (step x H5 y5)) fun _ s6 ⟨σ6, H6, I6, q6⟩ => ?_)
    refine wpAny_passesOwn hp (thn (hb _ s6 σ6 H6 _ I6 q6) fun f s7 q7 => ?_)
    have again : ∀ {σ7 : St} {H7 : Hp}, Inv X (pins ++ pinsAt fp s5.heap) σ7 H7 s7 → N σ7 H7 → ∃ m, m < n ∧ ∃ i σ' H', Inv X pins σ' H' s7 ∧ tn i s7.heap ∧ (∀ b ∈ fp, H' b = none) ∧ W i m σ' H' := fun {σ7 H7} I7 n7 => by
      obtain ⟨m', hm, w7⟩ := hN σ7 H7 n7
      refine ⟨m', hm, i + 1, σ7, H7, I7.unpinned, T.keep _ _ _ st5 fun b hb o e => (I7.pin (b, o) (List.mem_append_right _ (List.mem_append_right _ (mem_pinsAt hb e)))).1, fun b hb => ?_, w7⟩
      obtain ⟨o, e, d⟩ := T.obj _ _ st5 b hb
      exact (I7.pin (b, o) (List.mem_append_right _ (List.mem_append_right _ (mem_pinsAt hb e)))).2.1
    cases f with
    | next => obtain ⟨σ7, H7, I7, n7⟩ := q7; exact again I7 n7
    | cont => obtain ⟨σ7, H7, I7, n7⟩ := q7; exact again I7 n7
    | brk => obtain ⟨σ7, H7, I7, q7⟩ := q7; exact ⟨σ7, H7, I7.unpinned, q7⟩
    | ret v => obtain ⟨x7, σ7, H7, I7, r7, q7⟩ := q7; exact ⟨x7, σ7, H7, I7.unpinned, r7, q7⟩
end

/-! ### the forms one uses -/
/-- over a list that the body leaves as it is -/
theorem for_list {K : PySem.W.Frag} {a : Addr} {xs : List V} {g : TG} {tb : TS} {D : Ends} {σ : St} {H : Hp} (Pv : Nat → St → Hp → Prop) (h0 : Pv 0 σ H) (hl : ∀ i σ H, i ≤ xs.length → Pv i σ H → SqL K H a xs)
    (hs : ∀ i x σ H, xs[i]? = some x → Pv i σ H → g x σ H fun σ2 H2 => tb { D with nx := Pv (i + 1), ct := Pv (i + 1), bk := D.nx } σ2 H2) (hd : ∀ σ H, Pv xs.length σ H → D.nx σ H) :
    ∃ W : Nat → Nat → St → Hp → Prop, (∃ m, W 0 m σ H) ∧ ∀ i m σ H, W i m σ H →
      ((Itl K a).stop i H ∧ D.nx σ H) ∨ ((Itl K a).go i H ∧ ∃ N : St → Hp → Prop, (∀ σ' H', N σ' H' → ∃ m', m' < m ∧ W (i + 1) m' σ' H') ∧ ∀ x H', (Itl K a).yld i H x H' → g x σ H' fun σ2 H2 => tb { D with nx := N, ct := N, bk := D.nx } σ2 H2) := by
  refine ⟨fun i m σ H => m = xs.length - i ∧ i ≤ xs.length ∧ Pv i σ H, ⟨xs.length, by simp, Nat.zero_le _, h0⟩, ?_⟩
  rintro i m σ H ⟨rfl, hi, p⟩
  have q := hl i σ H hi p
  by_cases hlt : i < xs.length
  · refine .inr ⟨⟨xs, xs[i], q, by simp [hlt]⟩, Pv (i + 1), fun σ' H' p' => ⟨xs.length - (i + 1), by omega, rfl, hlt, p'⟩, fun x H' y => ?_⟩
    obtain ⟨e, y⟩ := y
    subst e
    exact hs i x σ _ (y xs q) p
  · have e : i = xs.length := by omega
    subst e
    exact .inl ⟨⟨xs, q, Nat.le_refl _⟩, hd σ H p⟩
theorem for_range {lo : Int} {n : Nat} {g : TG} {tb : TS} {D : Ends} {σ : St} {H : Hp} (Pv : Nat → St → Hp → Prop) (h0 : Pv 0 σ H)
    (hs : ∀ i σ H, i < n → Pv i σ H → g (.int (lo + i)) σ H fun σ2 H2 => tb { D with nx := Pv (i + 1), ct := Pv (i + 1), bk := D.nx } σ2 H2) (hd : ∀ σ H, Pv n σ H → D.nx σ H) :
    ∃ W : Nat → Nat → St → Hp → Prop, (∃ m, W 0 m σ H) ∧ ∀ i m σ H, W i m σ H →
      ((Itr lo n).stop i H ∧ D.nx σ H) ∨ ((Itr lo n).go i H ∧ ∃ N : St → Hp → Prop, (∀ σ' H', N σ' H' → ∃ m', m' < m ∧ W (i + 1) m' σ' H') ∧ ∀ x H', (Itr lo n).yld i H x H' → g x σ H' fun σ2 H2 => tb { D with nx := N, ct := N, bk := D.nx } σ2 H2) := by
  refine ⟨fun i m σ H => m = n - i ∧ i ≤ n ∧ Pv i σ H, ⟨n, by simp, Nat.zero_le _, h0⟩, ?_⟩
  rintro i m σ H ⟨rfl, hi, p⟩
  by_cases hlt : i < n
  · refine .inr ⟨hlt, Pv (i + 1), fun σ' H' p' => ⟨n - (i + 1), by omega, rfl, hlt, p'⟩, fun x H' y => ?_⟩
    obtain ⟨e, y⟩ := y
    subst e y
    exact hs i σ _ hlt p
  · have e : i = n := by omega
    subst e
    exact .inl ⟨Nat.le_refl _, hd σ H p⟩
end L2

namespace L2
open PySem PySem.Spec PyProof.Rows

abbrev R2 := V → V → Hp → VK → Prop
/-- a two-place operation on values: f is binaryOp op, inplaceOp op or compareOp op -/
def OpR (X : Cx) (f : Value → Value → Sem Value) (r : R2) : Prop :=
  ∀ (pins : List (Addr × Obj)) (s : Shared) (σ : St) (H : Hp) (x y : V) (v u : Value) (Q : VK), Inv X pins σ H s → RelV x v → RelV y u → r x y H Q →
    wpAny (model X.prog X.w) X.A (f v u) (EP X pins σ Q) X.xe s
/-- a one-place operation -/
def UnR (X : Cx) (f : Value → Sem Value) (r : V → Hp → VK → Prop) : Prop :=
  ∀ (pins : List (Addr × Obj)) (s : Shared) (σ : St) (H : Hp) (x : V) (v : Value) (Q : VK), Inv X pins σ H s → RelV x v → r x H Q →
    wpAny (model X.prog X.w) X.A (f v) (EP X pins σ Q) X.xe s
/-- a call of a value that is known (a builtin, a type) with values -/
def CallR (X : Cx) (f : Value) (r : List V → Hp → VK → Prop) : Prop :=
  ∀ (pins : List (Addr × Obj)) (s : Shared) (σ : St) (H : Hp) (xs : List V) (us : List Value) (Q : VK), Inv X pins σ H s → Vals xs us → r xs H Q →
    wpAny (model X.prog X.w) X.A (call f us) (EP X pins σ Q) X.xe s

def tOp (r : R2) (ta tb : TE) : TE := fun σ H Q => ta σ H fun x H1 => tb σ H1 fun y H2 => r x y H2 Q
def tUn (r : V → Hp → VK → Prop) (ta : TE) : TE := fun σ H Q => ta σ H fun x H1 => r x H1 Q
/-- ints in, under C, and a value out -/
def rI (C : Int → Int → Prop) (g : Int → Int → V) : R2 := fun x y H Q => ∃ i j, x = .int i ∧ y = .int j ∧ C i j ∧ Q (g i j) H
def rI0 (g : Int → Int → V) : R2 := fun x y H Q => ∃ i j, x = .int i ∧ y = .int j ∧ Q (g i j) H
def rU (g : Int → V) : V → Hp → VK → Prop := fun x H Q => ∃ i, x = .int i ∧ Q (g i) H

section
variable {X : Cx} {a b c : Expr} {ta tb tc : TE} {pos : Pos}

theorem binT (ha : PE X a ta) (hb : PE X b tb) {pins : List (Addr × Obj)} {s : Shared} {σ : St} {H : Hp} {R : V → V → Hp → Prop} (I : Inv X pins σ H s)
    (h : ta σ H fun x H1 => tb σ H1 fun y H2 => R x y H2) {Q : Value → Shared → Prop} {f : Value → Value → Sem Value}
    (hf : ∀ v u s2 x y H2, Inv X pins σ H2 s2 → RelV x v → RelV y u → R x y H2 → wpAny (model X.prog X.w) X.A (f v u) Q X.xe s2) :
    wpAny (model X.prog X.w) X.A (eval a X.env) (fun v s₁ => wpAny (model X.prog X.w) X.A (eval b X.env) (fun u s₂ => wpAny (model X.prog X.w) X.A (f v u) Q X.xe s₂) X.xe s₁) X.xe s := by
  refine thn (ha pins s σ H _ I h) fun v s1 ⟨x, H1, I1, r1, q1⟩ => ?_
  refine thn (hb pins s1 σ H1 _ I1 q1) fun u s2 ⟨y, H2, I2, r2, q2⟩ => ?_
  exact hf v u s2 x y H2 I2 r1 r2 q2

theorem pe_op {op : Operator} {r : R2} (ho : OpR X (binaryOp op) r) (ha : PE X a ta) (hb : PE X b tb) : PE X (.BinOp a op b pos) (tOp r ta tb) := by
  intro pins s σ H Q I h
  exact wpAny_BinOp (binT ha hb I h fun v u s2 x y H2 I2 rx ry q => ho pins s2 σ H2 x y v u Q I2 rx ry q)
theorem pe_un {op : UnaryOp} {r : V → Hp → VK → Prop} (ho : UnR X (unaryOp op) r) (ha : PE X a ta) : PE X (.UnaryOp op a pos) (tUn r ta) := by
  intro pins s σ H Q I h
  exact UnaryOp_ (thn (ha pins s σ H _ I h) fun v s1 ⟨x, H1, I1, r1, q1⟩ => ho pins s1 σ H1 x v Q I1 r1 q1)

/-! ### ints -/
theorem opI {f : Value → Value → Sem Value} {C : Int → Int → Prop} {g : Int → Int → Int}
    (rule : ∀ (i j : Int) (t u : Tok) (s : Shared) (Q : Value → Shared → Prop) (E : Value → Shared → Prop), C i j → Q (.int (g i j) s.toks) { s with toks := s.toks + 1 } → wpAny (model X.prog X.w) X.A (f (.int i t) (.int j u)) Q E s) :
    OpR X f (rI C fun i j => .int (g i j)) := by
  intro pins s σ H x y v u Q I rx ry h
  obtain ⟨i, j, rfl, rfl, hc, q⟩ := h
  obtain ⟨t, rfl⟩ := rx
  obtain ⟨t', rfl⟩ := ry
  exact rule i j t t' s _ _ hc ⟨.int (g i j), H, I.tok _, ⟨_, rfl⟩, q⟩
theorem opI0 {f : Value → Value → Sem Value} {g : Int → Int → Int}
    (rule : ∀ (i j : Int) (t u : Tok) (s : Shared) (Q : Value → Shared → Prop) (E : Value → Shared → Prop), Q (.int (g i j) s.toks) { s with toks := s.toks + 1 } → wpAny (model X.prog X.w) X.A (f (.int i t) (.int j u)) Q E s) :
    OpR X f (rI0 fun i j => .int (g i j)) := by
  intro pins s σ H x y v u Q I rx ry h
  obtain ⟨i, j, rfl, rfl, q⟩ := h
  obtain ⟨t, rfl⟩ := rx
  obtain ⟨t', rfl⟩ := ry
  exact rule i j t t' s _ _ ⟨.int (g i j), H, I.tok _, ⟨_, rfl⟩, q⟩
theorem opB0 {f : Value → Value → Sem Value} {g : Int → Int → Bool}
    (rule : ∀ (i j : Int) (t u : Tok) (s : Shared) (Q : Value → Shared → Prop) (E : Value → Shared → Prop), Q (.bool (g i j)) s → wpAny (model X.prog X.w) X.A (f (.int i t) (.int j u)) Q E s) :
    OpR X f (rI0 fun i j => .bl (g i j)) := by
  intro pins s σ H x y v u Q I rx ry h
  obtain ⟨i, j, rfl, rfl, q⟩ := h
  obtain ⟨t, rfl⟩ := rx
  obtain ⟨t', rfl⟩ := ry
  exact rule i j t t' s _ _ ⟨.bl (g i j), H, I, rfl, q⟩

def CPow (i j : Int) : Prop := 0 ≤ j ∧ j ≤ 1000000 ∧ i.natAbs < 2 ^ 64
def CMul (i j : Int) : Prop := (-(2 ^ 64) < i ∧ i < 2 ^ 64) ∨ (-(2 ^ 64) < j ∧ j < 2 ^ 64)
theorem CMul.ok {i j : Int} (h : CMul i j) : IntMulOk i j := by
  rcases h with ⟨h1, h2⟩ | ⟨h1, h2⟩
  · exact .of_left (intBits_le_64 h1 h2)
  · exact .of_right (intBits_le_64 h1 h2)
theorem two_pow_nn (k : Nat) : (0 : Int) ≤ 2 ^ k := by
  rw [two_pow_cast]
  exact Int.natCast_nonneg _

theorem op_add : OpR X (binaryOp .Add) (rI0 fun i j => .int (i + j)) := opI0 fun _ _ _ _ _ _ _ q => add_int q
theorem op_sub : OpR X (binaryOp .Sub) (rI0 fun i j => .int (i - j)) := opI0 fun _ _ _ _ _ _ _ q => sub_int q
theorem op_mul : OpR X (binaryOp .Mult) (rI CMul fun i j => .int (i * j)) := opI fun _ _ _ _ _ _ _ hc q => mul_int q hc.ok
/-- % by a positive divisor of any size -/
theorem op_mod : OpR X (binaryOp .Mod) (rI (fun _ j => 0 < j) fun i j => .int (i % j)) := opI fun i j _ _ _ _ _ hc q => by
  have h1 : (0 : Int) < j := hc
  exact mod_int' (by omega) (by rw [Int.fmod_eq_emod_of_nonneg i (by omega)]; exact q)
theorem op_pow : OpR X (binaryOp .Pow) (rI CPow fun i j => .int (i ^ j.toNat)) := opI fun _ _ _ _ _ _ _ hc q => pow_int_small hc.1 hc.2.1 hc.2.2 q
theorem op_shr : OpR X (binaryOp .RShift) (rI (fun _ j => 0 ≤ j) fun i j => .int (i / 2 ^ j.toNat)) := opI fun i j _ _ _ _ _ hc q =>
  rshift_int hc (by rw [Int.fdiv_eq_ediv_of_nonneg i (two_pow_nn _)]; exact q)
theorem op_and : OpR X (binaryOp .BitAnd) (rI0 fun i j => .int (Builtin.bitAnd i j)) := opI0 fun _ _ _ _ _ _ _ q => and_int q


theorem unI {f : Value → Sem Value} {g : Int → Int}
    (rule : ∀ (i : Int) (t : Tok) (s : Shared) (Q : Value → Shared → Prop) (E : Value → Shared → Prop), Q (.int (g i) s.toks) { s with toks := s.toks + 1 } → wpAny (model X.prog X.w) X.A (f (.int i t)) Q E s) :
    UnR X f (rU fun i => .int (g i)) := by
  intro pins s σ H x v Q I rx h
  obtain ⟨i, rfl, q⟩ := h
  obtain ⟨t, rfl⟩ := rx
  exact rule i t s _ _ ⟨.int (g i), H, I.tok _, ⟨_, rfl⟩, q⟩
theorem un_neg : UnR X (unaryOp .USub) (rU fun i => .int (-i)) := unI fun _ _ _ _ _ q => neg_int q

/-! ### bools among ints: n += (a < b) -/
end

/-! ### comparisons -/
/-- the scalars that == tells apart as data does -/
def scal : V → V → Bool
  | .non, .non => true | .non, .int _ => true | .int _, .non => true | .non, .bl _ => true | .bl _, .non => true | .non, .str _ => true | .str _, .non => true
  | .int _, .int _ => true | .bl _, .bl _ => true | .str _, .str _ => true | .byt _, .byt _ => true
  | .int _, .str _ => true | .str _, .int _ => true | .bl _, .str _ => true | .str _, .bl _ => true
  | _, _ => false
def rEq : R2 := fun x y H Q => scal x y = true ∧ Q (.bl (decide (x = y))) H
def rNe : R2 := fun x y H Q => scal x y = true ∧ Q (.bl (!decide (x = y))) H

theorem dec_int {i j : Int} : decide (V.int i = V.int j) = (i == j) := by
  rw [Bool.eq_iff_iff]
  simp
theorem dec_bl {i j : Bool} : decide (V.bl i = V.bl j) = (i == j) := by
  rw [Bool.eq_iff_iff]
  simp
theorem dec_str {i j : Str} : decide (V.str i = V.str j) = (i == j) := by
  rw [Bool.eq_iff_iff]
  simp
theorem dec_byt {i j : Array UInt8} : decide (V.byt i = V.byt j) = (i.toList == j.toList) := by
  rw [Bool.eq_iff_iff]
  cases i
  cases j
  simp

section
variable {X : Cx} {a b c : Expr} {ta tb tc : TE} {pos : Pos}
theorem fin_bl {pins : List (Addr × Obj)} {σ : St} {H : Hp} {s : Shared} {Q : VK} {k k' : Bool} (I : Inv X pins σ H s) (q : Q (.bl k) H) (e : k = k') : EP X pins σ Q (.bool k') s := by
  subst e
  exact ⟨.bl k, H, I, rfl, q⟩
theorem op_eq : OpR X (compareOp .Eq) rEq := by
  intro pins s σ H x y v u Q I rx ry h
  obtain ⟨hs, q⟩ := h
  cases x with
  | non =>
    cases rx
    cases y with
    | non => cases ry; exact PySem.EqNone.eq_none_none (fin_bl I q (by simp))
    | bl j => cases ry; exact PySem.EqNone.eq_none_bool (fin_bl I q (by simp))
    | int j => obtain ⟨t', rfl⟩ := ry; exact PySem.EqNone.eq_none_int (fin_bl I q (by simp))
    | str j => obtain ⟨t', rfl⟩ := ry; exact PySem.EqNone.eq_none_str (fin_bl I q (by simp))
    | _ => exact absurd (show false = true from hs) Bool.false_ne_true
  | bl i =>
    cases rx
    cases y with
    | non => cases ry; exact PySem.EqNone.eq_bool_none (fin_bl I q (by simp))
    | bl j => cases ry; exact eq_bool (fin_bl I q dec_bl)
    | str j => obtain ⟨t', rfl⟩ := ry; exact PySem.EqMixed.eq_bool_str (fin_bl I q (by simp))
    | _ => exact absurd (show false = true from hs) Bool.false_ne_true
  | int i =>
    obtain ⟨t, rfl⟩ := rx
    cases y with
    | non => cases ry; exact PySem.EqNone.eq_int_none (fin_bl I q (by simp))
    | int j => obtain ⟨t', rfl⟩ := ry; exact eq_int (fin_bl I q dec_int)
    | str j => obtain ⟨t', rfl⟩ := ry; exact PySem.EqMixed.eq_int_str (fin_bl I q (by simp))
    | _ => exact absurd (show false = true from hs) Bool.false_ne_true
  | str i =>
    obtain ⟨t, rfl⟩ := rx
    cases y with
    | non => cases ry; exact PySem.EqNone.eq_str_none (fin_bl I q (by simp))
    | bl j => cases ry; exact PySem.EqMixed.eq_str_bool (fin_bl I q (by simp))
    | int j => obtain ⟨t', rfl⟩ := ry; exact PySem.EqMixed.eq_str_int (fin_bl I q (by simp))
    | str j => obtain ⟨t', rfl⟩ := ry; exact eq_str (fin_bl I q dec_str)
    | _ => exact absurd (show false = true from hs) Bool.false_ne_true
  | byt i =>
    obtain ⟨t, rfl⟩ := rx
    cases y with
    | byt j => obtain ⟨t', rfl⟩ := ry; exact PySem.W.eq_bytes (fin_bl I q dec_byt)
    | _ => exact absurd (show false = true from hs) Bool.false_ne_true
  | _ => cases y <;> exact absurd (show false = true from hs) Bool.false_ne_true
theorem op_ne : OpR X (compareOp .NotEq) rNe := by
  intro pins s σ H x y v u Q I rx ry h
  obtain ⟨hs, q⟩ := h
  cases x with
  | non =>
    cases rx
    cases y with
    | non => cases ry; exact PySem.EqNone.ne_none_none (fin_bl I q (by simp))
    | bl j => cases ry; exact PySem.EqNone.ne_none_bool (fin_bl I q (by simp))
    | int j => obtain ⟨t', rfl⟩ := ry; exact PySem.EqNone.ne_none_int (fin_bl I q (by simp))
    | str j => obtain ⟨t', rfl⟩ := ry; exact PySem.EqNone.ne_none_str (fin_bl I q (by simp))
    | _ => exact absurd (show false = true from hs) Bool.false_ne_true
  | bl i =>
    cases rx
    cases y with
    | non => cases ry; exact PySem.EqNone.ne_bool_none (fin_bl I q (by simp))
    | bl j => cases ry; exact ne_bool (fin_bl I q (congrArg not dec_bl))
    | str j => obtain ⟨t', rfl⟩ := ry; exact PySem.EqMixed.ne_bool_str (fin_bl I q (by simp))
    | _ => exact absurd (show false = true from hs) Bool.false_ne_true
  | int i =>
    obtain ⟨t, rfl⟩ := rx
    cases y with
    | non => cases ry; exact PySem.EqNone.ne_int_none (fin_bl I q (by simp))
    | int j => obtain ⟨t', rfl⟩ := ry; exact ne_int (fin_bl I q (congrArg not dec_int))
    | str j => obtain ⟨t', rfl⟩ := ry; exact PySem.EqMixed.ne_int_str (fin_bl I q (by simp))
    | _ => exact absurd (show false = true from hs) Bool.false_ne_true
  | str i =>
    obtain ⟨t, rfl⟩ := rx
    cases y with
    | non => cases ry; exact PySem.EqNone.ne_str_none (fin_bl I q (by simp))
    | bl j => cases ry; exact PySem.EqMixed.ne_str_bool (fin_bl I q (by simp))
    | int j => obtain ⟨t', rfl⟩ := ry; exact PySem.EqMixed.ne_str_int (fin_bl I q (by simp))
    | str j => obtain ⟨t', rfl⟩ := ry; exact ne_str (fin_bl I q (congrArg not dec_str))
    | _ => exact absurd (show false = true from hs) Bool.false_ne_true
  | byt i =>
    obtain ⟨t, rfl⟩ := rx
    cases y with
    | byt j => obtain ⟨t', rfl⟩ := ry; exact PySem.W.ne_bytes (fin_bl I q (congrArg not dec_byt))
    | _ => exact absurd (show false = true from hs) Bool.false_ne_true
  | _ => cases y <;> exact absurd (show false = true from hs) Bool.false_ne_true

theorem op_lt : OpR X (compareOp .Lt) (rI0 fun i j => .bl (decide (i < j))) := opB0 fun _ _ _ _ _ _ _ q => lt_int q
theorem op_le : OpR X (compareOp .LtE) (rI0 fun i j => .bl (decide (i ≤ j))) := opB0 fun _ _ _ _ _ _ _ q => le_int q
theorem op_gt : OpR X (compareOp .Gt) (rI0 fun i j => .bl (decide (j < i))) := opB0 fun _ _ _ _ _ _ _ q => gt_int q
theorem op_ge : OpR X (compareOp .GtE) (rI0 fun i j => .bl (decide (j ≤ i))) := opB0 fun _ _ _ _ _ _ _ q => ge_int q
/-- the one string within the other -/
theorem op_in_str : OpR X (compareOp .In) (fun x y H Q => ∃ i j, x = .str i ∧ y = .str j ∧ Q (.bl (!(Builtin.Str.occurrences j i 0 j.length 1).isEmpty)) H) := by
  intro pins s σ H x y v u Q I rx ry h
  obtain ⟨i, j, rfl, rfl, q⟩ := h
  obtain ⟨t, rfl⟩ := rx
  obtain ⟨t', rfl⟩ := ry
  exact in_str (fin_bl I q rfl)

theorem op_notN : OpR X (compareOp .IsNot) (fun x y H Q => y = .non ∧ Q (.bl (!decide (x = .non))) H) := by
  intro pins s σ H x y v u Q I rx ry h
  obtain ⟨rfl, q⟩ := h
  cases ry
  refine isnot_none_gen (fin_bl I q ?_)
  cases x <;> first
    | (cases rx; rfl)
    | (obtain ⟨t, rfl⟩ := rx; rfl)



theorem nomark (b : Expr) {op : CmpOp} (h : op ≠ .In := by decide) (h2 : op ≠ .NotIn := by decide) : behindInMarks op b = false := by
  have e1 : (op == CmpOp.In) = false := by cases op <;> first | rfl | exact absurd rfl h
  have e2 : (op == CmpOp.NotIn) = false := by cases op <;> first | rfl | exact absurd rfl h2
  cases b <;> simp [behindInMarks, e1, e2]
/-- a comparison as a value; hm: nomark b, or (for in, not in) by with_unfolding_all rfl -/
theorem pe_cmpR {op : CmpOp} {r : R2} (ho : OpR X (compareOp op) r) (ha : PE X a ta) (hb : PE X b tb) (hm : behindInMarks op b = false) : PE X (.Compare a [op] [b] pos) (tOp r ta tb) := by
  intro pins s σ H Q I h
  exact wpAny_Compare1 (binT ha hb I h fun v u s2 x y H2 I2 rx ry q => ho pins s2 σ H2 x y v u Q I2 rx ry q) hm
/-- a reading of a value as a test -/
def tTest (t : TE) : TT := fun σ H Q => t σ H fun x H' => ∃ k, x = .bl k ∧ Q k H'
theorem pt_cmpR {op : CmpOp} {r : R2} (ho : OpR X (compareOp op) r) (ha : PE X a ta) (hb : PE X b tb) (hm : behindInMarks op b = false) : PT X (.Compare a [op] [b] pos) (tTest (tOp r ta tb)) := by
  intro pins s σ H Q I h
  refine wpAny_isTrue_Compare1 (thn (ha pins s σ H _ I h) fun v s1 ⟨x, H1, I1, r1, q1⟩ => thn (hb pins s1 σ H1 _ I1 q1) fun u s2 ⟨y, H2, I2, r2, q2⟩ =>
    thn (ho pins s2 σ H2 x y v u _ I2 r1 r2 q2) fun c s3 ⟨z, H3, I3, r3, k, e, q3⟩ => ?_) hm
  subst e
  cases r3
  exact wpAny_truthy_bool ⟨H3, I3, q3⟩
/-- a op1 b op2 c -/
def tChain (r r' : R2) (ta tb tc : TE) : TE := fun σ H Q => ta σ H fun x H1 => tb σ H1 fun y H2 => r x y H2 fun z H3 => ∃ k, z = .bl k ∧
  (if k = true then tc σ H3 fun w' H4 => r' y w' H4 Q else Q (.bl false) H3)
theorem pe_chain {op op' : CmpOp} {r r' : R2} (ho : OpR X (compareOp op) r) (ho' : OpR X (compareOp op') r') (ha : PE X a ta) (hb : PE X b tb) (hc : PE X c tc)
    (hm : lastMarks [op, op'] [b, c] = false := by with_unfolding_all rfl) : PE X (.Compare a [op, op'] [b, c] pos) (tChain r r' ta tb tc) := by
  intro pins s σ H Q I h
  refine Compare_chain (thn (ha pins s σ H _ I h) fun v s1 ⟨x, H1, I1, r1, q1⟩ => chain_link (thn (hb pins s1 σ H1 _ I1 q1) fun u s2 ⟨y, H2, I2, r2, q2⟩ =>
    thn (ho pins s2 σ H2 x y v u _ I2 r1 r2 q2) fun d s3 ⟨z, H3, I3, r3, k, e, q3⟩ => ?_)) hm
  subst e
  cases r3
  refine wpAny_truthy_bool ?_
  cases k with
  | false => exact ite_ff ⟨.bl false, H3, I3, rfl, q3⟩
  | true => exact ite_tt (chain_last (thn (hc pins s3 σ H3 _ I3 q3) fun w' s4 ⟨z', H4, I4, r4, q4⟩ => ho' pins s4 σ H4 y z' u w' Q I4 r2 r4 q4))

/-! ### truth -/
theorem line63 : (sizeLine : Nat) < 2 ^ 63 := by rw [sizeLine_eq]; decide

/-! ### strs and bytes -/
theorem op_add_str : OpR X (binaryOp .Add) (fun x y H Q => ∃ i j, x = .str i ∧ y = .str j ∧ i.length + j.length ≤ sizeLine ∧ Q (.str (i ++ j)) H) := by
  intro pins s σ H x y v u Q I rx ry h
  obtain ⟨i, j, rfl, rfl, hz, q⟩ := h
  obtain ⟨t, rfl⟩ := rx
  obtain ⟨t', rfl⟩ := ry
  exact add_str (fun t' tk => ⟨.str (i ++ j), H, I.tok _, ⟨_, rfl⟩, q⟩) hz


/-! ### scalar builtins, by CallR -/
theorem vals1 {x : V} {us : List Value} (r : Vals [x] us) : ∃ u, us = [u] ∧ RelV x u := by
  cases r with
  | cons r1 r2 => cases r2; exact ⟨_, rfl, r1⟩
theorem vals2 {x y : V} {us : List Value} (r : Vals [x, y] us) : ∃ u w', us = [u, w'] ∧ RelV x u ∧ RelV y w' := by
  cases r with
  | cons r1 r2 =>
    cases r2 with
    | cons r3 r4 => cases r4; exact ⟨_, _, rfl, r1, r3⟩
theorem call_max2 (hc : X.calm = true) : CallR X (.builtin "max") (fun xs H Q => ∃ i j, xs = [.int i, .int j] ∧ Q (.int (if j > i then j else i)) H) := by
  intro pins s σ H xs us Q I r h
  obtain ⟨i, j, rfl, q⟩ := h
  obtain ⟨u, w', rfl, ⟨t, rfl⟩, ⟨t', rfl⟩⟩ := vals2 r
  refine max_two_ints (I.ok.hd hc) fun h' tk k => ⟨_, H, I.kept k, ?_, q⟩
  by_cases hj : j > i
  · rw [if_pos hj, if_pos hj]; exact ⟨_, rfl⟩
  · rw [if_neg hj, if_neg hj]; exact ⟨_, rfl⟩
theorem call_min2 (hc : X.calm = true) : CallR X (.builtin "min") (fun xs H Q => ∃ i j, xs = [.int i, .int j] ∧ Q (.int (if j < i then j else i)) H) := by
  intro pins s σ H xs us Q I r h
  obtain ⟨i, j, rfl, q⟩ := h
  obtain ⟨u, w', rfl, ⟨t, rfl⟩, ⟨t', rfl⟩⟩ := vals2 r
  refine min_two_ints (I.ok.hd hc) fun h' tk k => ⟨_, H, I.kept k, ?_, q⟩
  by_cases hj : j < i
  · rw [if_pos hj, if_pos hj]; exact ⟨_, rfl⟩
  · rw [if_neg hj, if_neg hj]; exact ⟨_, rfl⟩
theorem call_int1 : CallR X (.type "int") (fun xs H Q => (∃ i, xs = [.int i] ∧ Q (.int i) H) ∨ ∃ k, xs = [.bl k] ∧ Q (.int (if k then 1 else 0)) H) := by
  intro pins s σ H xs us Q I r h
  rcases h with ⟨i, rfl, q⟩ | ⟨k, rfl, q⟩
  · obtain ⟨u, rfl, t, rfl⟩ := vals1 r
    exact call_int_int ⟨.int i, H, I, ⟨_, rfl⟩, q⟩
  · obtain ⟨u, rfl, r1⟩ := vals1 r
    cases r1
    exact call_int_bool ⟨.int (if k then 1 else 0), H, I.tok _, ⟨_, rfl⟩, q⟩
theorem call_str_int : CallR X (.type "str") (fun xs H Q => ∃ i, xs = [.int i] ∧ i.natAbs.log2 < 1920 ∧ Q (.str (toString i)) H) := by
  intro pins s σ H xs us Q I r h
  obtain ⟨i, rfl, hz, q⟩ := h
  obtain ⟨u, rfl, t, rfl⟩ := vals1 r
  exact PySem.P.str_of_int hz ⟨.str _, H, I.tok _, ⟨_, rfl⟩, q⟩
end
end L2

namespace L2
open PySem PySem.Spec PyProof.Rows

/-! ### an instance, its attributes a map -/
structure ObjM (h : Heap) (x dx C : Addr) (mA : Str → Option Value) : Prop where
  obj : h.get? x = some (PySem.W.instObj C dx)
  ns : h.Ns1 dx mA
  ne : dx ≠ x

theorem lookIn_ns {h : Heap} {dx : Addr} {mA : Str → Option Value} (n : h.Ns1 dx mA) : ∃ od, h.get? dx = some od ∧ ∀ name, PySem.W.lookIn name od = some (mA name) := by
  obtain ⟨o, es, ep, ho, hd, hk, _, hm⟩ := n
  refine ⟨o, ho, fun name => ?_⟩
  have e := hm name
  unfold nsFind findBy at e
  rw [← Array.find?_toList] at e
  unfold PySem.W.lookIn
  rw [hd]
  dsimp only
  split
  · rename_i y q
    rw [q] at e
    exact congrArg some e
  · rename_i q
    rw [q] at e
    have a : es.toList.any (·.refKey) = false := by
      rw [List.any_eq_false]
      intro y hy
      obtain ⟨z, t, hkey⟩ := hk y (Array.mem_toList_iff.mp hy)
      simp [DictEntry.refKey, hkey]
    have a' : ¬ es.toList.any (·.refKey) = true := by rw [a]; exact Bool.false_ne_true
    rw [if_neg a']
    exact congrArg some e

theorem ObjM.look {h : Heap} {x dx C : Addr} {mA : Str → Option Value} (I : ObjM h x dx C mA) : ∃ od, PySem.W.InstAt h x (PySem.W.instObj C dx) C (some od) ∧ ∀ name, PySem.W.lookIn name od = some (mA name) :=
  let ⟨od, ho, hl⟩ := lookIn_ns I.ns
  ⟨od, ⟨I.obj, rfl, rfl, ho⟩, hl⟩

section
variable {prog : Program} {w : World} {A : Around} {E : Value → Shared → Prop} {s : Shared} {K : PySem.W.Frag} {x dx C f : Addr} {mA : Str → Option Value} {name : Str} {v : Value}





end

/-! ### the attributes as a list of pairs -/

theorem RelO.some_of {v : V} {o : Option Value} (r : RelO (some v) o) : ∃ u, o = some u ∧ RelV v u := by
  cases o with
  | none => exact (show False from r).elim
  | some u => exact ⟨u, rfl, r⟩

section
variable {P : Program} {w : World} {H H' : Hp} {h h' : Heap} {a C dx : Addr} {fs fs' : List (Str × V)}
theorem ins_get (hok : HOk P w H h) (e : H a = some (.ins C dx fs)) : ∃ mA, ObjM h a dx C mA ∧ (∀ f, RelO (fs.lookup f) (mA f)) ∧ PySem.Within mA (fs.map (·.1)) ∧ fs.length ≤ 1000 ∧ H dx = some (.own a) := by
  obtain ⟨d, z, ne, ob, mA, n, r, q⟩ := (show ObjOk P w H h a (.ins C dx fs) from hok a _ e)
  exact ⟨mA, ⟨ob, n, ne⟩, r, q, z, d⟩
end

/-! ### what of the text a class must have -/
structure Cls (K : PySem.W.Frag) (C : Addr) : Prop where
  pg : PySem.W.plainGet K C Str.empty = true
  hd : PySem.W.hasDictIn K C = true
  po : PySem.W.plainOver K C = true
  sa : PySem.W.findIn K (.ref C) "__setattr__" = some (some (.builtin "object.__setattr__"))
theorem Cls.get {K : PySem.W.Frag} {C : Addr} (c : Cls K C) (f : Str) : PySem.W.plainGet K C f = true := c.pg

section
variable {X : Cx} {pins : List (Addr × Obj)} {σ : St} {H : Hp} {s : Shared} {a C dx : Addr} {fs : List (Str × V)} {f : Str} {v : V} {A : Around} {E : Value → Shared → Prop}






/-- e.f where nothing but the object is asked: through attributeBase (super) and the last hold -/
theorem attr_of {prog : Program} {w : World} {env : Env} {e : Expr} {f : Str} {pos : Pos} {s : Shared} {Q : Value → Shared → Prop} (hb : attributeBase e f env (eval e env) = eval e env)
    (h : wpAny (model prog w) A (eval e env) (fun o s₁ => wpAny (model prog w) A (getAttr o f true) Q E s₁) E s) : wpAny (model prog w) A (eval (.Attribute e f pos) env) Q E s :=
  Attribute_any_ h (by rw [arm_eval_Attribute, hb])
end

/-! ### readings and rules -/

section
variable {X : Cx} {o e value : Expr} {f : Str} {pos pos' tpos : Pos} {ta tv : TE}

end

/-! ### isinstance -/
section
variable {X : Cx} {pins : List (Addr × Obj)} {σ : St} {H : Hp} {s : Shared} {A : Around} {E : Value → Shared → Prop} {Q : Value → Shared → Prop} {c : Value} {b : Bool}
/-- the type of a value, as the fragment's deciders take it; for an instance its class -/
inductive TyOf (K : PySem.W.Frag) (H : Hp) : V → Value → Prop where
  | non : TyOf K H .non (.type "NoneType")
  | bl (x : Bool) : TyOf K H (.bl x) (.type "bool")
  | int (i : Int) : TyOf K H (.int i) (.type "int")
  | str (x : Str) : TyOf K H (.str x) (.type "str")
  | flt (x : UInt64) : TyOf K H (.flt x) (.type "float")
  | lst {a : Addr} {xs : List V} (e : H a = some (.lst xs)) : TyOf K H (.ref a) (.type "list")
  | frz {a : Addr} {o : Obj} {xs : List V} (e : H a = some (.frz o (.lst xs))) : TyOf K H (.ref a) (.type "list")
  | tup {a : Addr} {xs : List V} (e : H a = some (.tup xs)) : TyOf K H (.ref a) (.type "tuple")
  | dK {a : Addr} {kvs : List (Key × V)} (e : H a = some (.dK kvs)) : TyOf K H (.ref a) (.type "dict")
  | dT {a : Addr} {kvs : List (List Key × V)} (e : H a = some (.dT kvs)) : TyOf K H (.ref a) (.type "dict")
  | ins {a C dx : Addr} {fs : List (Str × V)} (e : H a = some (.ins C dx fs)) (cl : Cls K C) (ha : PySem.W.findIn K (.ref C) "__class__" = some (some (.builtin "object.__class__")))
      (hn : PySem.W.specialIn K (.builtin "object.__class__") "__get__" = some (some (.builtin "getset_descriptor.__get__"))) (htk : PySem.W.takesIn K (.builtin "object.__class__") = some true)
      (hm : PySem.W.mroIn K C (.type "object") = some true) : TyOf K H (.ref a) (.ref C)
/-- isinstance(x, c) for one class c, a built-in or an own one: kitOne's answer -/
theorem isinst_ok {x : V} {u t : Value} (I : Inv X pins σ H s) (rx : RelV x u) (ty : TyOf X.K H x t) (e : PySem.W.kitOne X.K t c = some b) (h : ∀ tk, Q (.bool b) { s with toks := tk }) :
    wpAny (model X.prog X.w) A (call (.builtin "isinstance") [u, c]) Q E s := by
  cases ty with
  | non => cases (show u = Value.none from rx); exact PySem.W.kia_one PySem.W.kitx_none I.kIn True.intro e (fun z => nomatch z) h
  | bl y => cases (show u = Value.bool y from rx); exact PySem.W.kia_one PySem.W.kitx_bool I.kIn True.intro e (fun z => nomatch z) h
  | int i => obtain ⟨t, q⟩ := (show ∃ t, u = Value.int i t from rx); cases q; exact PySem.W.kia_one PySem.W.kitx_int I.kIn True.intro e (fun z => nomatch z) h
  | str y => obtain ⟨t, q⟩ := (show ∃ t, u = Value.str y t from rx); cases q; exact PySem.W.kia_one PySem.W.kitx_str I.kIn True.intro e (fun z => nomatch z) h
  | flt y => obtain ⟨t, q⟩ := (show ∃ t, u = Value.float y t from rx); cases q; exact PySem.W.kia_one PySem.W.kitx_float I.kIn True.intro e (fun z => nomatch z) h
  | @lst a xs ea =>
    cases (show u = Value.ref a from rx)
    obtain ⟨_, _, n, _, h1⟩ := (show ObjOk X.prog X.w H s.heap a (.lst xs) from I.hok a _ ea)
    exact PySem.W.kia_one PySem.W.kitx_list I.kIn ⟨_, h1, rfl⟩ e (fun z => nomatch z) h
  | @frz a ob xs ea =>
    cases (show u = Value.ref a from rx)
    obtain ⟨_, _, _, n, _, h1⟩ := (show ObjOk X.prog X.w H s.heap a (.frz ob (.lst xs)) from I.hok a _ ea)
    exact PySem.W.kia_one PySem.W.kitx_list I.kIn ⟨_, h1, rfl⟩ e (fun z => nomatch z) h
  | @tup a xs ea =>
    cases (show u = Value.ref a from rx)
    obtain ⟨_, _, _, p⟩ := (show ObjOk X.prog X.w H s.heap a (.tup xs) from I.hok a _ ea)
    obtain ⟨o, h1, h2, _⟩ := p
    exact PySem.W.kia_one PySem.W.kitx_tuple I.kIn ⟨o, h1, h2⟩ e (fun z => nomatch z) h
  | @dK a kvs ea =>
    cases (show u = Value.ref a from rx)
    obtain ⟨_, _, vs, _, p⟩ := (show ObjOk X.prog X.w H s.heap a (.dK kvs) from I.hok a _ ea)
    obtain ⟨o, es, ep, h1, h2, _⟩ := p
    exact PySem.W.kia_one PySem.W.kitx_dict I.kIn ⟨o, h1, h2.1⟩ e (fun z => nomatch z) h
  | @dT a kvs ea =>
    cases (show u = Value.ref a from rx)
    obtain ⟨_, _, xs, _, o, es, ep, h1, h2, _⟩ := (show ObjOk X.prog X.w H s.heap a (.dT kvs) from I.hok a _ ea)
    exact PySem.W.kia_one PySem.W.kitx_dict I.kIn ⟨o, h1, h2.1⟩ e (fun z => nomatch z) h
  | @ins a C dx fs ea cl ha hn htk hm =>
    cases (show u = Value.ref a from rx)
    obtain ⟨mA, O, _⟩ := ins_get I.hok ea
    obtain ⟨od, J, _⟩ := O.look
    exact PySem.W.kia_one (PySem.W.kitx_own (cl.get _) cl.hd ha hn htk hm) I.kIn J e (fun z => nomatch z) h
end
end L2

namespace L2
open PySem PySem.Spec PyProof.Rows

/-! ### room -/
structure Room (k : Nat) (A : Around) : Prop where
  hd : A.handled = none
  dp : A.depth + 3 * k + 5 < recursionLimit
  un : A.units + 16 * k + 200 < cLine
theorem Room.mono {j k : Nat} {A : Around} (r : Room k A) (h : j ≤ k) : Room j A := ⟨r.hd, by have := r.dp; omega, by have := r.un; omega⟩
theorem Room.deeper {k : Nat} {A : Around} (r : Room (k + 1) A) (env : Env) : Room k (A.deeper env) :=
  ⟨r.hd, by have := r.dp; show A.depth + 1 + 3 * k + 5 < _; omega, by have := r.un; show A.units + 3 + 16 * k + 200 < _; omega⟩
theorem make_depth {A : Around} {C : Addr} {us : List Value} {kw : List (Str × Value)} : (A.under (.builtin "type.__call__" ⟨.ref C :: us, kw⟩)).depth = A.depth + 1 := by
  first | rfl | simp [Around.under, Code.weight, Code.isCreation, Code.isGuard, Code.isCaller, Code.frames, Code.isFrame, guardIds]
theorem make_units {A : Around} {C : Addr} {us : List Value} {kw : List (Str × Value)} : (A.under (.builtin "type.__call__" ⟨.ref C :: us, kw⟩)).units = A.units + 1 := by
  first | rfl | simp [Around.under, Code.cUnits, Code.frames, Code.isFrame]
theorem Room.make {k : Nat} {A : Around} (r : Room (k + 1) A) (C : Addr) (us : List Value) (kw : List (Str × Value)) : Room k (A.under (.builtin "type.__call__" ⟨.ref C :: us, kw⟩)) :=
  ⟨r.hd, by have := r.dp; rw [make_depth]; omega, by have := r.un; rw [make_units]; omega⟩
theorem Room.depth {k : Nat} {A : Around} (r : Room k A) : A.depth < recursionLimit := by have := r.dp; omega
theorem Room.units {k : Nat} {A : Around} (r : Room k A) : A.units + 64 < cLine := by have := r.un; omega

/-! ### argument lists and displays -/
def tNil : TA := fun _ H Q => Q [] H
def tCons (ta : TE) (tr : TA) : TA := fun σ H Q => ta σ H fun x H1 => tr σ H1 fun xs H2 => Q (x :: xs) H2
section
variable {X : Cx} {e : Expr} {es : List Expr} {te : TE} {t : TA} {pos : Pos}
theorem pa_nil : PA X [] tNil := fun _ _ _ _ H Q I h => Calls.spliced_nil ⟨[], H, I, .nil, h⟩
theorem pa_cons (ha : PE X e te) (hr : PA X es t) (hs : starEach (e :: es) X.env = (false, eval e X.env) :: starEach es X.env := by rfl) : PA X (e :: es) (tCons te t) := by
  intro pos pins s σ H Q I h
  rw [hs]
  show wpAny _ _ (spliced ((false, eval e X.env) :: backTo pos (starEach es X.env))) _ _ s
  refine Calls.spliced_cons (thn (ha pins s σ H _ I h) fun u s1 ⟨x, H1, I1, r1, q1⟩ => ?_)
  exact thn (hr pos pins s1 σ H1 _ I1 q1) fun us s2 ⟨xs, H2, I2, r2, q2⟩ => ⟨x :: xs, H2, I2, .cons r1 r2, q2⟩

/-- a tuple, a list of written items -/
def tTup (t : TA) : TE := fun σ H Q => t σ H fun xs H1 => xs.length ≤ sizeLine ∧ ∀ p, H1 p = none → Q (.ref p) (upd H1 p (.tup xs))
def tLst (t : TA) : TE := fun σ H Q => t σ H fun xs H1 => xs.length ≤ sizeLine ∧ ∀ p, H1 p = none → Q (.ref p) (upd H1 p (.lst xs))
theorem pe_tup {x1} (h : PA X es t) : PE X (.Tuple es x1 pos) (tTup t) := by
  intro pins s σ H Q I hq
  refine wpAny_Tuple_spliced (thn (h pos pins s σ H _ I hq) fun us s1 ⟨xs, H1, I1, r, z, q⟩ => ⟨by rw [← r.length]; exact z, ?_⟩)
  have hf : H1 s1.heap.objs.size = none := I1.hok.fresh (Nat.le_refl _)
  refine ⟨.ref s1.heap.objs.size, upd H1 s1.heap.objs.size (.tup xs), I1.laid (t' := s1.toks) (fun b u e => Heap.get?_push_of_some _ e) (Nat.le_refl _) ?_, rfl, q _ hf⟩
  exact ⟨z, us, r, ⟨_, Heap.get?_push_size _ rfl, rfl, _, rfl⟩⟩
theorem pe_lst (h : PA X es t) : PE X (.List es pos) (tLst t) := by
  intro pins s σ H Q I hq
  refine wpAny_List_spliced (thn (h pos pins s σ H _ I hq) fun us s1 ⟨xs, H1, I1, r, z, q⟩ => ⟨by rw [← r.length]; exact z, ?_⟩)
  have hf : H1 s1.heap.objs.size = none := I1.hok.fresh (Nat.le_refl _)
  refine ⟨.ref s1.heap.objs.size, upd H1 s1.heap.objs.size (.lst xs), I1.laid (t' := s1.toks) (fun b u e => Heap.get?_push_of_some _ e) (Nat.le_refl _) ?_, rfl, q _ hf⟩
  exact ⟨z, us, 0, r, Heap.get?_push_size _ rfl⟩
end

/-! ### what a def promises -/
/-- a def's promise: the bound arguments in the parameters' order, the heap, the wanted end, the wanted exception -/
abbrev Sp := List V → Hp → VK → XK → Prop
/-- how an exception lies behind a call (file 08 gives it): the callers' frames, abstract heap and state ahead of the call, the wish, the exception, the state -/
abbrev CXT := List Env → Hp → Shared → XK → Value → Shared → Prop

/-- the state at a call -/
structure Env0 (P : Program) (w : World) (K : PySem.W.Frag) (mg : Str → Option Value) (base : Heap) (A : Around) (outer : List Env) (s : Shared) (H : Hp) : Prop where
  frames : A.frames = some outer
  mod : Mod K mg base
  bs : ∀ b o, base.get? b = some o → s.heap.get? b = some o ∧ H b = none
  bsz : base.objs.size ≤ s.heap.objs.size
  funs : s.heap.FunFrames base outer
  frf : ∀ b ∈ frs outer, H b = none
  hok : HOk P w H s.heap
  bare : AllBare s.gens
/-- a call's end -/
def CE (outer : List Env) (P : Program) (w : World) (H : Hp) (s : Shared) (Q : VK) (u : Value) (s' : Shared) : Prop :=
  ∃ v H', s'.os = s.os ∧ AllBare s'.gens ∧ Un (frs outer) [] H H' s.heap s'.heap ∧ HOk P w H' s'.heap ∧ RelV v u ∧ Q v H'
def CR (CX : CXT) (outer : List Env) (P : Program) (w : World) (H : Hp) (s : Shared) (Q : VK) (E : XK) (r : Result) (s' : Shared) : Prop :=
  match r with
  | .ok (.ret u) => CE outer P w H s Q u s'
  | .ok _ => False
  | .error e => CX outer H s E e s'
structure FnOk (P : Program) (w : World) (K : PySem.W.Frag) (mg : Str → Option Value) (base : Heap) (CX : CXT) (k : Nat) (f : Addr) (fd : FuncData) (ps : List Str) (sp : Sp) : Prop where
  len : ∀ vs H Q E, sp vs H Q E → vs.length = ps.length
  run : ∀ (A : Around) (outer : List Env) (s : Shared) (H : Hp) (args : Args) (us : List Value) (vs : List V) (Q : VK) (E : XK), Room k A → Env0 P w K mg base A outer s H → BindsTo s fd args (ps.zip us) → Vals vs us → sp vs H Q E →
    codeAny (model P w) A (.call (.ref f) args) (CR CX outer P w H s Q E) s

theorem Env0.make {P : Program} {w : World} {K : PySem.W.Frag} {mg : Str → Option Value} {base : Heap} {A : Around} {outer : List Env} {s : Shared} {H : Hp} (e : Env0 P w K mg base A outer s H) (C : Addr) (us : List Value) (kw : List (Str × Value)) :
    Env0 P w K mg base (A.under (.builtin "type.__call__" ⟨.ref C :: us, kw⟩)) outer s H := ⟨by first | exact e.frames | (simpa [Around.under, Code.envs, Code.isFrame, pushEnvs] using e.frames), e.mod, e.bs, e.bsz, e.funs, e.frf, e.hok, e.bare⟩

section
variable {X : Cx} {pins : List (Addr × Obj)} {σ : St} {H : Hp} {s s' : Shared}
/-- from a body: what a callee wants -/
theorem Inv.env0 (I : Inv X pins σ H s) : Env0 X.prog X.w X.K X.mg X.base X.A X.stack s H :=
  ⟨I.ok.frames, I.ok.mod, I.bs, Nat.le_trans I.ok.bsz I.sz, I.stack, I.stkFree, I.hok, I.bare⟩
/-- behind a call -/
theorem Inv.after {Q : VK} {u : Value} (I : Inv X pins σ H s) (h : CE X.stack X.prog X.w H s Q u s') : EP X pins σ Q u s' := by
  obtain ⟨v, H', os, bare, un, hok, r, q⟩ := h
  obtain ⟨hh, g, d, t, os'⟩ := s'
  obtain rfl : os' = s.os := os
  exact ⟨v, H', I.call (h' := hh) (g' := g) (d' := d) (t' := t) (ch := []) un hok bare (fun b z => absurd z (by simp)), r, q⟩
end

/-! ### calls -/
/-- f(..): the written arguments, then the defaults dvs; E: what is wanted of an exception -/
def tCall (sp : Sp) (dvs : List V) (E : XK) (t : TA) : TE := fun σ H Q => t σ H fun vs H1 => sp (vs ++ dvs) H1 Q E

/-- how the parameters are bound: us the positional arguments, kw the keywords' values by name, ds the defaults that fill up -/
def Binds (K : PySem.W.Frag) (fd : FuncData) (ps : List Str) (ds : List Value) : Prop :=
  ∀ (s : Shared) (us : List Value), K.In s.heap → (us ++ ds).length = ps.length → BindsTo s fd ⟨us, []⟩ (ps.zip (us ++ ds))
/-- every parameter is given -/
theorem Binds.all {K : PySem.W.Frag} {fd : FuncData} {ps : List Str} (h : ∀ us : List Value, us.length = ps.length → bindArgs fd ⟨us, []⟩ = pure (ps.zip us)) : Binds K fd ps [] := fun s us _ hl => by
  rw [List.append_nil] at hl ⊢
  exact .of_eq (h us hl)

/-- an exception of a callee reaches what this body wants of exceptions -/
def Passes (CX : CXT) (X : Cx) (E : XK) : Prop := ∀ (pins : List (Addr × Obj)) (σ : St) (H : Hp) (s : Shared) (e : Value) (s' : Shared), Inv X pins σ H s → CX X.stack H s E e s' → X.xe e s'

section
variable {X : Cx} {CX : CXT} {k : Nat} {f C : Addr} {fd : FuncData} {ps : List Str} {sp : Sp} {dvs : List V} {ds : List Value} {E : XK} {x m : Str} {p pos apos : Pos} {e o : Expr} {es : List Expr} {ta : TE} {t : TA}

/-- the callee runs -/
theorem run_fn {pins : List (Addr × Obj)} {σ : St} {H : Hp} {s : Shared} {Q : VK} {us : List Value} {vs : List V} (F : FnOk X.prog X.w X.K X.mg X.base CX k f fd ps sp) (hr : Room k X.A) (hb : Binds X.K fd ps ds) (hd : Vals dvs ds) (hx : Passes CX X E)
    (I : Inv X pins σ H s) (r : Vals vs us) (h : sp (vs ++ dvs) H Q E) : wpAny (model X.prog X.w) X.A (call (.ref f) us) (EP X pins σ Q) X.xe s := by
  have r2 : Vals (vs ++ dvs) (us ++ ds) := r.append hd
  have hl : (us ++ ds).length = ps.length := by rw [← r2.length]; exact F.len _ _ _ _ h
  refine wpAny_call (codeAny_mono (F.run X.A X.stack s H ⟨us, []⟩ (us ++ ds) (vs ++ dvs) Q E hr I.env0 (hb s us I.kIn hl) r2 h) fun r s' hq => ?_)
  cases r with
  | error e => exact hx pins σ H s e s' I hq
  | ok fl =>
    cases fl with
    | ret u => exact I.after hq
    | next => exact False.elim hq
    | brk => exact False.elim hq
    | cont => exact False.elim hq

theorem pe_call (F : FnOk X.prog X.w X.K X.mg X.base CX k f fd ps sp) (hr : Room k X.A) (hg : Gl X x) (hm : X.mg x = some (.ref f)) (hk : PySem.W.keepIn X.K (.ref f) = true) (hb : Binds X.K fd ps ds) (hd : Vals dvs ds) (hx : Passes CX X E)
    (ha : PA X (e :: es) t) (hdb : (x == ("__debug__" : Str)) = false := by decide) (he : starEach (e :: es) X.env = (false, eval e X.env) :: starEach es X.env := by rfl) (hpl : (backTo pos (starEach es X.env)).any (·.1) = false := by rfl) :
    PE X (.Call (.Name x p) (e :: es) [] pos) (tCall sp dvs E t) := by
  intro pins s σ H Q I h
  refine wpAny_Call_Name_kw (ld_glob I hg hm ?_ hdb)
  refine PySem.W.callWith_K (h₀ := X.base) I.ok.mod.kin hk (thn (ha pos pins s σ H _ I h) fun us s1 ⟨vs, H1, I1, r, q⟩ => ⟨I1.kIn, ?_⟩) he hpl
  exact run_fn F hr hb hd hx I1 r q



end

/-! ### keywords -/
section
variable {X : Cx} {CX : CXT} {k : Nat} {f C : Addr} {fd : FuncData} {ps ks : List Str} {sp : Sp} {E : XK} {x m : Str} {p pos apos kpos : Pos} {e o : Expr} {es : List Expr} {kws : List Keyword} {te ta : TE} {t tk : TA} {nm : Option Str}

variable {g : List Value → List Value → List Value} {gV : List V → List V → List V}
end

/-! ### a def's body keeps its promise -/
/-- names: the parameters first -/
structure FnScope (N P : List Str) (sc : Scope) : Prop where
  kind : sc.kind = .function
  co : sc.isCoroutine = false
  gen : sc.isGenerator = false
  nd : N.Nodup
  pre : N.take P.length = P
  par : ∀ x ∈ P, sc.names.lookup x = some .local ∨ sc.names.lookup x = some .cell
  nofree : ∀ y ∈ sc.names, y.2 ≠ .free

theorem bindL_out {kindOf : Str → Option NameKind} {x : Str} : ∀ {binds : List (Str × Value)} {m : Str → Option Value}, (∀ v, (x, v) ∉ binds) → bindL kindOf binds m x = m x
  | [], _, _ => rfl
  | (n, v) :: r, m, h => by
    unfold bindL
    rw [bindL_out fun w hw => h w (List.mem_cons_of_mem _ hw)]
    split
    · have : x ≠ n := by rintro rfl; exact h v List.mem_cons_self
      simp [this]
    · rfl
theorem bindC_out {kindOf : Str → Option NameKind} {x : Str} : ∀ {binds : List (Str × Value)} {m : Str → Option Value}, (∀ v, (x, v) ∉ binds) → bindC kindOf binds m x = m x
  | [], _, _ => rfl
  | (n, v) :: r, m, h => by
    unfold bindC
    rw [bindC_out fun w hw => h w (List.mem_cons_of_mem _ hw)]
    split
    · rfl
    · have : x ≠ n := by rintro rfl; exact h v List.mem_cons_self
      simp [this]
theorem bindL_get {kindOf : Str → Option NameKind} {x : Str} {v : Value} : ∀ {P : List Str} {vs : List Value} {i : Nat} {m : Str → Option Value}, P.Nodup → P[i]? = some x → vs[i]? = some v → kindOf x = some .local →
    bindL kindOf (P.zip vs) m x = some v
  | [], _, _, _, _, h, _, _ => by simp at h
  | _ :: _, [], _, _, _, _, h, _ => by simp at h
  | p :: P, w :: vs, 0, m, nd, h1, h2, hk => by
    simp at h1 h2; subst h1; subst h2
    show bindL kindOf ((p, w) :: P.zip vs) m p = _
    unfold bindL
    rw [bindL_out fun v hv => (List.nodup_cons.mp nd).1 (List.of_mem_zip hv).1, if_pos hk]
    simp
  | p :: P, w :: vs, i + 1, m, nd, h1, h2, hk => by
    show bindL kindOf ((p, w) :: P.zip vs) m x = _
    unfold bindL
    exact bindL_get (i := i) (List.nodup_cons.mp nd).2 (by simpa using h1) (by simpa using h2) hk
theorem bindC_get {kindOf : Str → Option NameKind} {x : Str} {v : Value} : ∀ {P : List Str} {vs : List Value} {i : Nat} {m : Str → Option Value}, P.Nodup → P[i]? = some x → vs[i]? = some v → kindOf x ≠ some .local →
    bindC kindOf (P.zip vs) m x = some v
  | [], _, _, _, _, h, _, _ => by simp at h
  | _ :: _, [], _, _, _, _, h, _ => by simp at h
  | p :: P, w :: vs, 0, m, nd, h1, h2, hk => by
    simp at h1 h2; subst h1; subst h2
    show bindC kindOf ((p, w) :: P.zip vs) m p = _
    unfold bindC
    rw [bindC_out fun v hv => (List.nodup_cons.mp nd).1 (List.of_mem_zip hv).1, if_neg hk]
    simp
  | p :: P, w :: vs, i + 1, m, nd, h1, h2, hk => by
    show bindC kindOf ((p, w) :: P.zip vs) m x = _
    unfold bindC
    exact bindC_get (i := i) (List.nodup_cons.mp nd).2 (by simpa using h1) (by simpa using h2) hk

/-- the names' values at the entry -/
def start (N : List Str) (vs : List V) : St := vs.map some ++ List.replicate (N.length - vs.length) none

/-- the context of a def's body, at its entry; an exception leaves the frame, then lies as CX says -/
def cxOf (CX : CXT) (P : Program) (w : World) (K : PySem.W.Frag) (mg : Str → Option Value) (base : Heap) (N : List Str) (qual : Str) (scope : Scope) (f : Addr) (cd : Value) (A : Around) (outer : List Env) (s : Shared) (H : Hp) (E : XK) : Cx where
  prog := P
  w := w
  K := K
  mg := mg
  base := base
  A := A.deeper (envOfC qual scope s.heap.objs.size f cd)
  N := N
  s₀ := s
  H₀ := H
  env := envOfC qual scope s.heap.objs.size f cd
  outer := outer
  stack := envOfC qual scope s.heap.objs.size f cd :: outer
  ex := []
  calm := true
  fn := fun _ => true
  pn := []
  xe := fun e s' => wpAny (model P w) (A.deeper (envOfC qual scope s.heap.objs.size f cd)) (leaving (envOfC qual scope s.heap.objs.size f cd) e) (fun _ s'' => CX outer H s E e s'') (fun e' s'' => CX outer H s E e' s'') s'

theorem cell_has {sc : Scope} {n : Nat} {x : Str} (h : sc.names.lookup x = some .cell) : ∃ c, (cellsFrom n sc.names []).lookup x = some c := by
  have q := PySem.W.cellsFrom_some sc.names n [] (.inl h)
  exact Option.isSome_iff_exists.mp q

theorem inv_start {CX : CXT} {P : Program} {w : World} {K : PySem.W.Frag} {mg : Str → Option Value} {base : Heap} {N ps : List Str} {qual : Str} {scope : Scope} {f : Addr} {cd : Value} {A : Around} {outer : List Env} {s s1 : Shared} {H : Hp} {E : XK} {us : List Value} {vs : List V}
    (S : FnScope N ps scope) (hd : A.handled = none) (e0 : Env0 P w K mg base A outer s H) (hl : vs.length = ps.length) (r : Vals vs us)
    (x : InCallC s s.heap.objs.size (bindL (envOfC qual scope s.heap.objs.size f cd).kindOf (ps.zip us) fun _ => none) (cellsFrom (s.heap.objs.size + 1) scope.names []) (bindC (envOfC qual scope s.heap.objs.size f cd).kindOf (ps.zip us) fun _ => none) s1) :
    Inv (cxOf CX P w K mg base N qual scope f cd A outer s H E) [] (start N vs) H s1 := by
  have hpl : ps.length ≤ N.length := by have := congrArg List.length S.pre; rw [List.length_take] at this; omega
  obtain ⟨h1, tk, rfl, hk⟩ := x.done
  have noA : ∀ b : Addr, b ∉ (cxOf CX P w K mg base N qual scope f cd A outer s H E).ex := fun b z => absurd (show b ∈ ([] : List Addr) from z) (by simp)
  refine ⟨⟨e0.mod, S.kind, rfl, rfl, Nat.le_refl _, fun y z c h1 h2 => ?_, fun y hy => ?_, fun y c _ h => ?_, fun _ => hd, Around.frames_deeper e0.frames, .inr ⟨rfl, rfl⟩, fun b z => absurd z (noA b), e0.bs, e0.bsz, fun b _ _ => noA b, fun b z => absurd z (noA b), e0.funs, e0.frf⟩,
    rfl, e0.bare, Un.kept hk, ⟨_, x.toInCall.ns, fun i y v h1 h2 h3 => ?_⟩, fun y c h => ⟨_, x.cell y c h⟩, e0.hok.fresh (Nat.le_refl _), fun y c h => ?_, fun p hp => absurd (show p ∈ ([] : List (Addr × Obj)) from hp) (by simp), e0.hok.kept hk, ?_⟩
  · exact name_of_addr x.apart (PySem.mem_of_lookup h1) (PySem.mem_of_lookup h2)
  · have hy : scope.names.lookup y = some .cell ∨ scope.names.lookup y = some .free := hy
    rcases hy with hy | hy
    · exact cell_has hy
    · exact absurd rfl (S.nofree _ (PySem.mem_of_lookup hy))
  · exact Nat.le_of_lt (x.above y c (PySem.mem_of_lookup h))
  · have hi : i < vs.length := by
      unfold start at h2
      by_cases hi : i < vs.length
      · exact hi
      · rw [List.getElem?_append_right (by simpa using hi)] at h2
        rw [List.getElem?_replicate] at h2
        split at h2 <;> cases h2
    have ha : vs[i]? = some v := by
      unfold start at h2
      rw [List.getElem?_append_left (by simpa using hi), List.getElem?_map] at h2
      cases e : vs[i]? with
      | none => rw [e] at h2; cases h2
      | some a => rw [e] at h2; cases h2; rfl
    obtain ⟨u, hu, rv⟩ := r.get ha
    have hp : ps[i]? = some y := by
      rw [← S.pre, List.getElem?_take_of_lt (by omega)]; exact h1
    have ndP : ps.Nodup := by rw [← S.pre]; exact S.nd.sublist (List.take_sublist _ _)
    refine ⟨u, rv, ?_⟩
    rcases S.par y (List.mem_of_getElem? hp) with k | k
    · exact .inl ⟨k, bindL_get ndP hp hu k⟩
    · obtain ⟨c, e⟩ := cell_has (n := s.heap.objs.size + 1) k
      refine .inr ⟨.inl k, c, e, ?_⟩
      have q := x.cell y c e
      rw [bindC_get ndP hp hu (by show scope.names.lookup y ≠ _; rw [k]; decide)] at q
      exact q
  · exact e0.hok.fresh (Nat.le_of_lt (x.above y c (PySem.mem_of_lookup h)))
  · unfold start
    show _ = N.length
    rw [List.length_append, List.length_map, List.length_replicate]
    omega

/-- THE RULE: a def (or a method) of the text, by its body. The body's reading t is chosen for each entry; it is run at the parameters' values -/
theorem fn_of {CX : CXT} {P : Program} {w : World} {K : PySem.W.Frag} {mg : Str → Option Value} {base : Heap} {k : Nat} {f : Addr} {name qual : Str} {params : Arguments} {body : List Stmt} {scope : Scope} {dV kV doc pm cdv ct oc : Value} {an od : Option Addr}
    {osl : Array (Option Value)} {N ps : List Str} {sp : Sp} (lk : K.lookup f = some ⟨oc, od, .func (PySem.W.fnOf name qual params body scope dV kV doc pm an cdv ct), osl⟩) (hcd : PySem.W.codeIn K cdv qual = true) (S : FnScope N ps scope)
    (len : ∀ vs H Q E, sp vs H Q E → vs.length = ps.length)
    (hbody : ∀ (A : Around) (outer : List Env) (s : Shared) (H : Hp) (vs : List V) (Q : VK) (E : XK), Room k (A.deeper (envOfC qual scope s.heap.objs.size f cdv)) → sp vs H Q E →
      ∃ t, PSs (cxOf CX P w K mg base N qual scope f cdv A outer s H E) body t ∧ t { nx := fun _ H' => Q .non H', rt := Q } (start N vs) H) :
    FnOk P w K mg base CX (k + 1) f (PySem.W.fnOf name qual params body scope dV kV doc pm an cdv ct) ps sp := by
  refine ⟨len, fun A outer s H args us vs Q E hr e0 hb r hsp => ?_⟩
  have hl := len _ _ _ _ hsp
  have KX : K.In s.heap := e0.mod.kin.keeps fun b o e => (e0.bs b o e).1
  have lim : s.heap.NoLimit := e0.mod.nolimit.keeps fun b o e => (e0.bs b o e).1
  have hkind : ∀ y ∈ ps.zip us, scope.names.lookup y.1 = some .local ∨ (scope.names.lookup y.1 = some .cell ∧ ((cellsFrom (s.heap.objs.size + 1) scope.names []).lookup y.1).isSome = true) := fun ⟨n, v⟩ hy => by
    rcases S.par n (List.of_mem_zip hy).1 with q | q
    · exact .inl q
    · exact .inr ⟨q, PySem.W.cellsFrom_some _ _ _ (.inl q)⟩
  refine codeAny_call_function hr.depth (KX _ _ lk) rfl S.co S.gen rfl (PySem.W.codeRec_of KX hcd) (hb _ _ _ _ ?_)
  refine wpAny_newFunctionEnv_cells S.kind hkind fun env he s1 x => ?_
  subst he
  refine ⟨lim.keeps x.toInCall.keep, codeAny_func ?_⟩
  obtain ⟨t, ht, hq⟩ := hbody A outer s H vs Q E (hr.deeper _) hsp
  have I : Inv (cxOf CX P w K mg base N qual scope f cdv A outer s H E) [] (start N vs) H s1 := inv_start S hr.hd e0 hl r x
  refine wpAny_mono (ht [] s1 (start N vs) H _ I hq) (fun fl s' hs => ?_) fun e s' hs => hs
  have fin : ∀ {σ' : St} {H' : Hp} {v : V} {u : Value}, Inv (cxOf CX P w K mg base N qual scope f cdv A outer s H E) [] σ' H' s' → RelV v u → Q v H' → CE outer P w H s Q u s' :=
    fun {σ' H' v u} J rv q => ⟨v, H', J.os, J.bare, J.base, J.hok, rv, q⟩
  cases fl with
  | ret u =>
    obtain ⟨v, σ', H', J, rv, q⟩ := hs
    exact fin J rv q
  | next =>
    obtain ⟨σ', H', J, q⟩ := hs
    exact fin (v := V.non) (u := Value.none) J rfl q
  | brk =>
    obtain ⟨_, _, _, q⟩ := hs
    exact False.elim q
  | cont =>
    obtain ⟨_, _, _, q⟩ := hs
    exact False.elim q
end L2

namespace L2
open PySem PySem.Spec PyProof.Rows
section
variable {X : Cx} {x : Str} {p pos : Pos} {e : Expr} {es : List Expr} {t : TA} {id T : String} {r : List V → Hp → VK → Prop}

def tCB (r : List V → Hp → VK → Prop) (t : TA) : TE := fun σ H Q => t σ H fun vs H1 => r vs H1 Q
/-- f(e, ..), f a built-in function -/
theorem pe_callB (hc : CallR X (.builtin id) r) (hg : Gl X x) (hm : X.mg x = none) (hv : bootBuiltins x = some (.builtin id)) (ha : PA X (e :: es) t) (hn : x ≠ "__name__" := by decide) (hdb : (x == ("__debug__" : Str)) = false := by decide)
    (he : starEach (e :: es) X.env = (false, eval e X.env) :: starEach es X.env := by rfl) (hpl : (backTo pos (starEach es X.env)).any (·.1) = false := by rfl) : PE X (.Call (.Name x p) (e :: es) [] pos) (tCB r t) := by
  intro pins s σ H Q I h
  refine wpAny_Call_Name_kw (ld_blt I hg hm hv ?_ hn hdb)
  exact PyProof.Rows.callWith_builtin1 (thn (ha pos pins s σ H _ I h) fun us s1 ⟨vs, H1, I1, r1, q1⟩ => hc pins s1 σ H1 vs us Q I1 r1 q1) he hpl
/-- T(e, ..), T a built-in type -/
theorem pe_callTy (hc : CallR X (.type T) r) (hg : Gl X x) (hm : X.mg x = none) (hv : bootBuiltins x = some (.type T)) (ha : PA X (e :: es) t) (hn : x ≠ "__name__" := by decide) (hdb : (x == ("__debug__" : Str)) = false := by decide)
    (he : starEach (e :: es) X.env = (false, eval e X.env) :: starEach es X.env := by rfl) (hpl : (backTo pos (starEach es X.env)).any (·.1) = false := by rfl) : PE X (.Call (.Name x p) (e :: es) [] pos) (tCB r t) := by
  intro pins s σ H Q I h
  refine wpAny_Call_Name_kw (ld_blt I hg hm hv ?_ hn hdb)
  exact PyProof.Rows.callWith_type1 (thn (ha pos pins s σ H _ I h) fun us s1 ⟨vs, H1, I1, r1, q1⟩ => hc pins s1 σ H1 vs us Q I1 r1 q1) he hpl
end
end L2

namespace HT
open PySem PyProof.Rows



section
open PySem.SeqAt
open PySem.AutoSeq1 (wpAny_loadPart')
open PySem.MeetsSeq PySem.MeetsSeq2 PySem.MeetsSeq3

end

section
variable {prog : Program} {w : World} {A : Around} {E : Value → Shared → Prop} {s : Shared}



/-! ### t[a:b], not the whole -/
/-- a slice's bound as a place among n (d where it is left out) -/
def sIx (n d : Nat) : Option Int → Nat
  | none => d
  | some v => if v < 0 then (v + (n : Int)).toNat else min v.toNat n
theorem sIx_nat (n d k : Nat) : sIx n d (some (k : Int)) = min k n := by
  show (if (k : Int) < 0 then ((k : Int) + (n : Int)).toNat else min (k : Int).toNat n) = min k n
  rw [if_neg (by omega), Int.toNat_natCast]

end
end HT

namespace L2
open PySem PySem.Spec PyProof.Rows

/-! ### the parts of a slice -/
abbrev TO := St → Hp → (Option Int → Hp → Prop) → Prop
/-- a slice's part (left out, or an int) -/
def PO (X : Cx) (e : Option Expr) (t : TO) : Prop :=
  ∀ (pins : List (Addr × Obj)) (s : Shared) (σ : St) (H : Hp) (Q : Option Int → Hp → Prop), Inv X pins σ H s → t σ H Q →
    wpAny (model X.prog X.w) X.A (evalPart e X.env) (fun u s' => ∃ o H', Inv X pins σ H' s' ∧ IsPart u o ∧ Q o H') X.xe s
def tNoPart : TO := fun _ H Q => Q none H
def tPart (t : TE) : TO := fun σ H Q => t σ H fun x H1 => ∃ i, x = .int i ∧ Q (some i) H1

theorem intsAre_of {ns : List Int} : ∀ {us : List Value}, Vals (ns.map V.int) us → IntsAre us ns := by
  induction ns with
  | nil => intro us r; rw [List.map_nil] at r; cases r; exact .nil
  | cons n ns ih =>
    intro us r
    rw [List.map_cons] at r
    cases r with
    | cons r1 r2 =>
      obtain ⟨t, e⟩ := r1
      subst e
      exact .cons n t (ih r2)

section
variable {X : Cx} {e : Expr} {te : TE} {lo hi : Option Expr} {tl th : TO} {pos p2 : Pos}

theorem po_none : PO X none tNoPart := by
  intro pins s σ H Q I h
  rw [evalPart_none]
  exact wpAny_pure ⟨none, H, I, .none, h⟩
theorem po_some (h : PE X e te) : PO X (some e) (tPart te) := by
  intro pins s σ H Q I hw
  rw [evalPart_some]
  refine thn (h pins s σ H _ I hw) fun u s1 ⟨x, H1, I1, r1, q1⟩ => ?_
  obtain ⟨i, rfl, q⟩ := q1
  obtain ⟨t, rfl⟩ := r1
  exact ⟨some i, H1, I1, .int i t, q⟩

/-- what a slice of a value is, by values: the slice object stands at sl -/
def SlR (X : Cx) (r : V → Option Int → Option Int → Hp → VK → Prop) : Prop :=
  ∀ (pins : List (Addr × Obj)) (s : Shared) (σ : St) (H : Hp) (x : V) (v vl vu : Value) (lo hi : Option Int) (sl : Addr) (Q : VK), Inv X pins σ H s → RelV x v → s.heap.IsSliceOf sl vl vu .none → IsPart vl lo → IsPart vu hi → r x lo hi H Q →
    ∃ T id, typeLookup (.type T) "__getitem__" = pure (some (.builtin id)) ∧ s.TypeIs v T ∧ wpAny (model X.prog X.w) X.A (getItem v (.ref sl)) (EP X pins σ Q) X.xe s
def tSl (r : V → Option Int → Option Int → Hp → VK → Prop) (te : TE) (tl th : TO) : TE := fun σ H Q => te σ H fun x H1 => tl σ H1 fun l H2 => th σ H2 fun u H3 => r x l u H3 Q
/-- a[lo:hi], any a -/
theorem pe_slice {r : V → Option Int → Option Int → Hp → VK → Prop} (hr : SlR X r) (he : PE X e te) (hl : PO X lo tl) (hu : PO X hi th) : PE X (.Subscript e (.Slice lo hi none p2) pos) (tSl r te tl th) := by
  intro pins s σ H Q I h
  refine Subscript_ (thn (he pins s σ H _ I h) fun v s1 ⟨x, H1, I1, r1, q1⟩ => ?_)
  refine wpAny_Slice (thn (hl pins s1 σ H1 _ I1 q1) fun vl s2 ⟨l, H2, I2, pl, q2⟩ => thn (hu pins s2 σ H2 _ I2 q2) fun vu s3 ⟨u, H3, I3, pu, q3⟩ => ?_)
  rw [evalPart_none]
  refine wpAny_pure ?_
  have I4 : Inv X pins σ H3 { s3 with heap := s3.heap.push { cls := .type "slice", data := .fields #[vl, vu, .none] } } := I3.kept (t' := s3.toks) fun b ob q => Heap.get?_push_of_some _ q
  obtain ⟨T, id, hT, ht, hg⟩ := hr pins { s3 with heap := s3.heap.push { cls := .type "slice", data := .fields #[vl, vu, .none] } } σ H3 x v vl vu l u s3.heap.objs.size Q I4 r1 (Heap.IsSliceOf.new ..) pl pu q3
  show wpAny (model X.prog X.w) X.A (subscriptTail e (.Slice lo hi none p2) v (.ref s3.heap.objs.size)) (EP X pins σ Q) X.xe { s3 with heap := s3.heap.push { cls := .type "slice", data := .fields #[vl, vu, .none] } }
  exact tail_any (ops := [.ref s3.heap.objs.size, v]) ht hT hg (by with_unfolding_all rfl)

/-- the items of xs[lo:hi] -/
def cutV (xs : List V) (lo hi : Option Int) : List V := (xs.drop (HT.sIx xs.length 0 lo)).take (HT.sIx xs.length xs.length hi - HT.sIx xs.length 0 lo)
theorem cutV_length (xs : List V) (lo hi : Option Int) : (cutV xs lo hi).length ≤ xs.length := by
  unfold cutV
  rw [List.length_take, List.length_drop]
  omega

/-! ### t < u, t + u -/
end
end L2

namespace L2
open PySem PySem.Spec PyProof.Rows

/-! ### places -/
/-- the place that an index of any sign means -/
def ixN (n : Nat) (i : Int) : Option Nat := if 0 ≤ i then (if i < n then some i.toNat else none) else if -(n : Int) ≤ i then some (i + n).toNat else none
def atI {α : Type} (xs : List α) (i : Int) : Option α := (ixN xs.length i).bind fun j => xs[j]?
theorem ixN_seq {n : Nat} {i : Int} {j : Nat} (h : ixN n i = some j) : seqIndex? i n = some j ∧ j < n ∧ -(n : Int) ≤ i ∧ i < n := by
  unfold ixN at h
  by_cases h0 : 0 ≤ i
  · rw [if_pos h0] at h
    by_cases h1 : i < n
    · rw [if_pos h1] at h
      have e : i.toNat = j := Option.some.inj h
      exact ⟨by rw [seqIndex_of h0 h1, e], by omega, by omega, h1⟩
    · rw [if_neg h1] at h; cases h
  · rw [if_neg h0] at h
    by_cases h1 : -(n : Int) ≤ i
    · rw [if_pos h1] at h
      have e : (i + n).toNat = j := Option.some.inj h
      exact ⟨by rw [seqIndex_neg (by omega) h1, e], by omega, h1, by omega⟩
    · rw [if_neg h1] at h; cases h
theorem atI_get {α : Type} {xs : List α} {i : Int} {v : α} (h : atI xs i = some v) : ∃ j, seqIndex? i xs.length = some j ∧ xs[j]? = some v ∧ j < xs.length ∧ -(xs.length : Int) ≤ i ∧ i < xs.length := by
  unfold atI at h
  cases e : ixN xs.length i with
  | none => rw [e] at h; cases h
  | some j =>
    rw [e] at h
    obtain ⟨h1, h2, h3, h4⟩ := ixN_seq e
    exact ⟨j, h1, h, h2, h3, h4⟩
theorem atI_nat {α : Type} {xs : List α} {j : Nat} {v : α} (h : xs[j]? = some v) : atI xs (j : Int) = some v := by
  have hj : j < xs.length := (List.getElem?_eq_some_iff.mp h).1
  have e : ixN xs.length (j : Int) = some j := by
    unfold ixN
    rw [if_pos (by omega), if_pos (by omega)]; simp
  unfold atI; rw [e]; exact h

/-! ### what may be subscripted -/
/-- what stands as an index of a plain subscript -/
def PlainIx (b : Expr) : Prop := ∀ o i, subscripted b false o i = operate [o, i] (getItem o i)
/-- a subscript by values -/
def IxR (X : Cx) (r : R2) : Prop :=
  ∀ (value slice : Expr) (pins : List (Addr × Obj)) (s : Shared) (σ : St) (H : Hp) (x y : V) (v u : Value) (Q : VK), Inv X pins σ H s → RelV x v → RelV y u → r x y H Q →
    subscripted slice false v u = operate [v, u] (getItem v u) → wpAny (model X.prog X.w) X.A (subscriptTail value slice v u) (EP X pins σ Q) X.xe s
/-- a call of a builtin's method by values: the receiver, the arguments -/
def MtR (X : Cx) (id : String) (r : V → List V → Hp → VK → Prop) : Prop :=
  ∀ (pins : List (Addr × Obj)) (s : Shared) (σ : St) (H : Hp) (x : V) (xs : List V) (v : Value) (us : List Value) (Q : VK), Inv X pins σ H s → RelV x v → Vals xs us → r x xs H Q →
    wpAny (model X.prog X.w) X.A (call (.builtin id) (v :: us)) (EP X pins σ Q) X.xe s
section
variable {X : Cx} {a b : Expr} {ta tb : TE} {pos : Pos}
/-- a[b] -/
theorem pe_ix {r : R2} (hr : IxR X r) (ha : PE X a ta) (hb : PE X b tb) (hs : PlainIx b) : PE X (.Subscript a b pos) (tOp r ta tb) := by
  intro pins s σ H Q I h
  exact Subscript_ (binT ha hb I h fun v u s2 x y H2 I2 rx ry q => hr a b pins s2 σ H2 x y v u Q I2 rx ry q (hs _ _))

def rIxL (K : PySem.W.Frag) : R2 := fun x y H Q => ∃ p xs i v, x = .ref p ∧ y = .int i ∧ SqL K H p xs ∧ atI xs i = some v ∧ Q v H
def rIxT (K : PySem.W.Frag) : R2 := fun x y H Q => ∃ p xs i v, x = .ref p ∧ y = .int i ∧ SqT K H p xs ∧ atI xs i = some v ∧ Q v H
def rIxS : R2 := fun x y H Q => ∃ z i c, x = .str z ∧ y = .int i ∧ z.length ≤ sizeLine ∧ atI z.cps.toList i = some c ∧ Q (.str ⟨#[c]⟩) H
theorem ix_list : IxR X (rIxL X.K) := by
  intro value slice pins s σ H x y v u Q I rx ry h hs
  obtain ⟨p, xs, i, z, rfl, rfl, hq, he, q⟩ := h
  cases rx
  obtain ⟨t, rfl⟩ := ry
  obtain ⟨its, r, pl, hz⟩ := I.list hq
  obtain ⟨j, h1, h2, h3, h4, h5⟩ := atI_get he
  obtain ⟨w, ew, rw'⟩ := r.get h2
  have hl := r.length
  have hn := line63
  have fin : EP X pins σ Q w s := ⟨z, H, I, rw', q⟩
  by_cases h0 : 0 ≤ i
  · have hj : i.toNat = j := by
      rw [seqIndex_of h0 h5] at h1
      exact Option.some.inj h1
    exact item_listR pl.isList h0 (by omega) (by rw [hj]; simpa using ew) fin hs
  · have hj : (i + (its.toArray.size : Int)).toNat = j := by
      rw [seqIndex_neg (by omega) h4] at h1
      rw [List.size_toArray, ← hl]
      exact Option.some.inj h1
    exact subscriptTail_builtinR (x := w) pl.isList.typeIs slot_list_getitem.lookup
      (wpAny_getItem_list_neg (Q := fun r s' => r = w ∧ EP X pins σ Q r s') pl.isList (by omega) (by rw [List.size_toArray] <;> omega) (by omega) (by rw [hj]; simpa using ew) ⟨rfl, fin⟩) hs
theorem ix_tup : IxR X (rIxT X.K) := by
  intro value slice pins s σ H x y v u Q I rx ry h hs
  obtain ⟨p, xs, i, z, rfl, rfl, hq, he, q⟩ := h
  cases rx
  obtain ⟨t, rfl⟩ := ry
  obtain ⟨its, r, pl, hz⟩ := I.tuple hq
  obtain ⟨j, h1, h2, h3, h4, h5⟩ := atI_get he
  obtain ⟨w, ew, rw'⟩ := r.get h2
  have hl := r.length
  have hn := line63
  have fin : EP X pins σ Q w s := ⟨z, H, I, rw', q⟩
  exact subscriptTail_builtinR (x := w) pl.typeIs slot_tuple_getitem.lookup
    (getItem_tuple (j := j) (Q := fun r s' => r = w ∧ EP X pins σ Q r s') pl (by omega) (by omega) (by rw [List.size_toArray, ← hl]; exact h1) (by simpa using ew) ⟨rfl, fin⟩) hs
theorem ix_str : IxR X rIxS := by
  intro value slice pins s σ H x y v u Q I rx ry h hs
  obtain ⟨z, i, c, rfl, rfl, hz, he, q⟩ := h
  obtain ⟨t, rfl⟩ := rx
  obtain ⟨t', rfl⟩ := ry
  obtain ⟨j, h1, h2, h3, h4, h5⟩ := atI_get he
  have hl : z.cps.toList.length = z.length := by simp [Str.length]
  rw [hl] at h1 h4 h5
  have hn := line63
  exact tail_any (typeIs_str s z t) slot_str_getitem.lookup (getItem_str (c := c) (by
    have e1 : decide (i < -(2 ^ 63 : Int)) = false := decide_eq_false (by omega)
    have e2 : decide (i ≥ 2 ^ 63) = false := decide_eq_false (by omega)
    rw [e1, e2, Bool.or_false]) (by rw [h1]; simpa using h2) ⟨.str ⟨#[c]⟩, H, I.tok _, ⟨_, rfl⟩, q⟩) hs

/-! ### xs[i] = v, any sign -/
/-- the list's object behind a store -/
theorem mapSeq_set (its : List Value) (n j : Nat) (u : Value) : Obj.mapSeq (·.setIfInBounds j u) { cls := .type "list", data := .seq its.toArray n } = { cls := .type "list", data := .seq (its.set j u).toArray n } := by
  simp [Obj.mapSeq]
theorem Inv.lst {pins : List (Addr × Obj)} {σ : St} {H : Hp} {s : Shared} {p : Addr} {xs : List V} (I : Inv X pins σ H s) (h : H p = some (.lst xs)) :
    ∃ (its : List Value) (n : Nat), Vals xs its ∧ s.heap.get? p = some { cls := .type "list", data := .seq its.toArray n } ∧ xs.length ≤ sizeLine := by
  obtain ⟨z, its, n, r, e⟩ := I.hok p _ h
  exact ⟨its, n, r, e, z⟩
/-- the list at p is written by an update of its object -/
theorem Inv.lstUpd {pins : List (Addr × Obj)} {σ : St} {H : Hp} {s : Shared} {p : Addr} {xs ys : List V} {its its' : List Value} {n n' : Nat} {f : Obj → Obj} (I : Inv X pins σ H s) (h : H p = some (.lst xs))
    (ho : s.heap.get? p = some { cls := .type "list", data := .seq its.toArray n }) (hf : f { cls := .type "list", data := .seq its.toArray n } = { cls := .type "list", data := .seq its'.toArray n' }) (r : Vals ys its') (hz : ys.length ≤ sizeLine) (t : Nat) :
    Inv X pins σ (upd H p (.lst ys)) { s with heap := s.heap.update p f, toks := t } := by
  have e : (s.heap.update p f).get? p = some { cls := .type "list", data := .seq its'.toArray n' } := by
    rw [Heap.get?_update_self f ho (by rw [hf] <;> rfl), hf]
  refine I.write (x := p) (e := p) (by rw [h]; trivial) (.inl rfl) (fun b u hb q => (Heap.get?_update_other _ _ (Ne.symm hb)).trans q) ⟨_, e⟩ ?_
  exact ⟨hz, its', n', r, e⟩
def rSetL : V → V → V → Hp → (Hp → Prop) → Prop := fun o i v H Q => ∃ p xs k j, o = .ref p ∧ i = .int k ∧ H p = some (.lst xs) ∧ ixN xs.length k = some j ∧ Q (upd H p (.lst (xs.set j v)))
theorem set_list : PSet X rSetL := by
  intro pins s σ H o i v ov iv u Q I ro ri rv h
  obtain ⟨p, xs, k, j, rfl, rfl, hp, hj, q⟩ := h
  cases ro
  obtain ⟨t, rfl⟩ := ri
  obtain ⟨its, n, r, ho, hz⟩ := I.lst hp
  obtain ⟨h1, h2, h3, h4⟩ := ixN_seq hj
  have hl := r.length
  have hn := line63
  have I' : Inv X pins σ (upd H p (.lst (xs.set j v))) { s with heap := s.heap.update p (Obj.mapSeq (·.setIfInBounds j u)) } :=
    I.lstUpd hp ho (mapSeq_set its n j u) (r.set rv j) (by rw [List.length_set]; exact hz) s.toks
  by_cases h0 : 0 ≤ k
  · have hk : k.toNat = j := by
      rw [seqIndex_of h0 h4] at h1
      exact Option.some.inj h1
    exact PySem.W.ki_setAt ho h0 (by omega) (by rw [List.size_toArray, ← hl]; exact h4) (by rw [hk]; exact ⟨_, I', q⟩)
  · have hk : (k + (its.toArray.size : Int)).toNat = j := by
      rw [seqIndex_neg (by omega) h3] at h1
      rw [List.size_toArray, ← hl]
      exact Option.some.inj h1
    exact PySem.W.ki_setBack ho (by omega) (by rw [List.size_toArray, ← hl]; exact h3) (by omega) (by rw [hk]; exact ⟨_, I', q⟩)

/-! ### slices -/
theorem slice_bounds (lo hi : Option Int) (n : Nat) : (sliceBounds lo hi none n).1 = ((HT.sIx n 0 lo : Nat) : Int) ∧ (sliceBounds lo hi none n).2.1 = ((HT.sIx n n hi : Nat) : Int) ∧ (sliceBounds lo hi none n).2.2 = 1 := by
  refine ⟨?_, ?_, rfl⟩
  · cases lo with
    | none => simp [sliceBounds, HT.sIx]
    | some i =>
      simp only [sliceBounds, HT.sIx, Option.getD_none, show (1 : Int) > 0 by decide, if_true]
      by_cases h : i < 0
      · simp only [h, if_true] <;> omega
      · simp only [h, if_false] <;> omega
  · cases hi with
    | none => simp [sliceBounds, HT.sIx]
    | some i =>
      simp only [sliceBounds, HT.sIx, Option.getD_none, show (1 : Int) > 0 by decide, if_true]
      by_cases h : i < 0
      · simp only [h, if_true] <;> omega
      · simp only [h, if_false] <;> omega
theorem slicePick_cut (its : List Value) (lo hi : Option Int) : slicePick its.toArray lo hi none = ((its.drop (HT.sIx its.length 0 lo)).take (HT.sIx its.length its.length hi - HT.sIx its.length 0 lo)).toArray := by
  obtain ⟨h1, h2, h3⟩ := slice_bounds lo hi its.toArray.size
  unfold slicePick
  rw [h1, h2, h3]
  simp only [sliceRange_one, pick_run, List.size_toArray] <;> rfl
/-- xs[lo:hi] of a list: a new list -/
def rSlL (K : PySem.W.Frag) : V → Option Int → Option Int → Hp → VK → Prop := fun x lo hi H Q => ∃ a xs, x = .ref a ∧ SqL K H a xs ∧ ∀ p, H p = none → Q (.ref p) (upd H p (.lst (cutV xs lo hi)))
theorem sl_list : SlR X (rSlL X.K) := by
  intro pins s σ H x v vl vu lo hi sl Q I rx hs pl pu h
  obtain ⟨a, xs, rfl, hx, q⟩ := h
  cases rx
  obtain ⟨its, r, ht, hz⟩ := I.list hx
  have hlen := r.length
  refine ⟨"list", _, slot_list_getitem.lookup, ht.isList.typeIs, ?_⟩
  refine wpAny_getItem_list_slice ht.isList hs pl pu .none (by simp) ?_ (by rw [List.size_toArray] <;> omega)
  rw [slicePick_cut, ← hlen]
  refine ⟨.ref s.heap.objs.size, _, I.laid (t' := s.toks) (o := .lst (cutV xs lo hi)) (fun b ob q => Heap.get?_push_of_some _ q) (Nat.le_refl _) ?_, rfl, q _ (I.hok.fresh (Nat.le_refl _))⟩
  exact ⟨Nat.le_trans (cutV_length xs lo hi) hz, _, 0, (r.drop (HT.sIx xs.length 0 lo)).take (HT.sIx xs.length xs.length hi - HT.sIx xs.length 0 lo), Heap.get?_push_size _ rfl⟩

/-! ### in, not in: flat items -/
def flatV : V → Bool
  | .non => true
  | .bl _ => true
  | .int _ => true
  | .str _ => true
  | _ => false
/-- == of flat values -/
def eqV : V → V → Bool
  | .non, .non => true
  | .bl a, .bl b => a == b
  | .bl a, .int b => (if a then 1 else 0) == b
  | .int a, .bl b => a == (if b then 1 else 0)
  | .int a, .int b => a == b
  | .str a, .str b => a == b
  | _, _ => false
theorem eqAt_V {A : Around} {s : Shared} {y x : V} {u v : Value} (ry : RelV y u) (rx : RelV x v) (fy : flatV y = true) (fx : flatV x = true) : SeqAt.EqAt A s u v (eqV y x) := by
  cases y with
  | non =>
    cases ry
    cases x with
    | non => cases rx; exact SeqAt.EqAt.same _
    | bl b => cases rx; exact SeqAt.EqAt.none_bool b
    | int b => obtain ⟨t, rfl⟩ := rx; exact SeqAt.EqAt.none_int b t
    | str b => obtain ⟨t, rfl⟩ := rx; exact SeqAt.EqAt.none_str b t
    | _ => exact absurd (show false = true from fx) Bool.false_ne_true
  | bl a =>
    cases ry
    cases x with
    | non => cases rx; exact SeqAt.EqAt.bool_none a
    | bl b => cases rx; exact SeqAt.EqAt.bool_bool a b
    | int b => obtain ⟨t, rfl⟩ := rx; exact SeqAt.EqAt.bool_int a b t
    | str b => obtain ⟨t, rfl⟩ := rx; exact SeqAt.EqAt.bool_str a b t
    | _ => exact absurd (show false = true from fx) Bool.false_ne_true
  | int a =>
    obtain ⟨t', rfl⟩ := ry
    cases x with
    | non => cases rx; exact SeqAt.EqAt.int_none a t'
    | bl b => cases rx; exact SeqAt.EqAt.int_bool a t' b
    | int b => obtain ⟨t, rfl⟩ := rx; exact SeqAt.EqAt.int_int a t' b t
    | str b => obtain ⟨t, rfl⟩ := rx; exact SeqAt.EqAt.int_str a t' b t
    | _ => exact absurd (show false = true from fx) Bool.false_ne_true
  | str a =>
    obtain ⟨t', rfl⟩ := ry
    cases x with
    | non => cases rx; exact SeqAt.EqAt.str_none a t'
    | bl b => cases rx; exact SeqAt.EqAt.str_bool a t' b
    | int b => obtain ⟨t, rfl⟩ := rx; exact SeqAt.EqAt.str_int a t' b t
    | str b => obtain ⟨t, rfl⟩ := rx; exact SeqAt.EqAt.str_str a t' b t
    | _ => exact absurd (show false = true from fx) Bool.false_ne_true
  | _ => exact absurd (show false = true from fy) Bool.false_ne_true
/-- the items' answers, read off the values (a value's own answer does not lean on its token) -/
def eqU (x : V) (u : Value) : Bool := match u with
  | .none => eqV .non x
  | .bool b => eqV (.bl b) x
  | .int i _ => eqV (.int i) x
  | .str z _ => eqV (.str z) x
  | _ => false
theorem eqU_of {x y : V} {u : Value} (r : RelV y u) (f : flatV y = true) : eqU x u = eqV y x := by
  cases y with
  | non => cases r; rfl
  | bl b => cases r; rfl
  | int i => obtain ⟨t, rfl⟩ := r; rfl
  | str z => obtain ⟨t, rfl⟩ := r; rfl
  | _ => exact absurd (show false = true from f) Bool.false_ne_true
theorem any_eqU {x : V} : ∀ {xs : List V} {us : List Value}, Vals xs us → xs.all flatV = true → us.any (eqU x) = xs.any fun y => eqV y x
  | _, _, .nil, _ => rfl
  | y :: xs, u :: us, .cons r t, f => by
    rw [List.all_cons, Bool.and_eq_true] at f
    rw [List.any_cons, List.any_cons, eqU_of r f.1, any_eqU t f.2]
theorem mem_eqAt {A : Around} {s : Shared} {x : V} {v : Value} (rx : RelV x v) (fx : flatV x = true) : ∀ {xs : List V} {us : List Value}, Vals xs us → xs.all flatV = true → ∀ u ∈ us, SeqAt.EqAt A s u v (eqU x u)
  | _, _, .nil, _ => fun u hu => by cases hu
  | y :: xs, u :: us, .cons r t, f => fun u' hu => by
    rw [List.all_cons, Bool.and_eq_true] at f
    rcases List.mem_cons.mp hu with rfl | hu
    · rw [eqU_of r f.1]; exact eqAt_V r rx f.1 fx
    · exact mem_eqAt rx fx t f.2 u' hu
def inV (x : V) (xs : List V) : Bool := xs.any fun y => eqV y x
/-- x in a list or tuple of flat items -/
def rIn (K : PySem.W.Frag) (neg : Bool) : R2 := fun x y H Q => ∃ p xs, y = .ref p ∧ (SqL K H p xs ∨ SqT K H p xs) ∧ flatV x = true ∧ xs.all flatV = true ∧ Q (.bl (if neg then !inV x xs else inV x xs)) H
theorem op_in_seq : OpR X (compareOp .In) (rIn X.K false) := by
  intro pins s σ H x y v u Q I rx ry h
  obtain ⟨p, xs, rfl, hq, fx, fs, q⟩ := h
  cases ry
  rcases hq with hq | hq
  · obtain ⟨its, r, pl, hz⟩ := I.list hq
    refine SeqAt.in_listAt (eqU x) pl.isList (fun w hw => mem_eqAt rx fx r fs w (by simpa using hw)) ⟨.bl _, H, I, rfl, ?_⟩
    rw [show its.toArray.any (eqU x) = its.any (eqU x) by simp, any_eqU r fs]
    exact q
  · obtain ⟨its, r, pl, hz⟩ := I.tuple hq
    refine SeqAt.in_tupleAt (eqU x) pl (fun w hw => mem_eqAt rx fx r fs w (by simpa using hw)) ⟨.bl _, H, I, rfl, ?_⟩
    rw [show its.toArray.any (eqU x) = its.any (eqU x) by simp, any_eqU r fs]
    exact q
theorem op_notIn_seq : OpR X (compareOp .NotIn) (rIn X.K true) := by
  intro pins s σ H x y v u Q I rx ry h
  obtain ⟨p, xs, rfl, hq, fx, fs, q⟩ := h
  cases ry
  rcases hq with hq | hq
  · obtain ⟨its, r, pl, hz⟩ := I.list hq
    refine SeqAt.notIn_listAt (eqU x) pl.isList (fun w hw => mem_eqAt rx fx r fs w (by simpa using hw)) ⟨.bl _, H, I, rfl, ?_⟩
    rw [show its.toArray.any (eqU x) = its.any (eqU x) by simp, any_eqU r fs]
    exact q
  · obtain ⟨its, r, pl, hz⟩ := I.tuple hq
    refine SeqAt.notIn_tupleAt (eqU x) pl (fun w hw => mem_eqAt rx fx r fs w (by simpa using hw)) ⟨.bl _, H, I, rfl, ?_⟩
    rw [show its.toArray.any (eqU x) = its.any (eqU x) by simp, any_eqU r fs]
    exact q

/-! ### len, list(x), tuple(x) of any list or tuple that is read -/
theorem call_len_seq : CallR X (.builtin "len") (fun xs H Q => ∃ p ys, xs = [.ref p] ∧ (SqL X.K H p ys ∨ SqT X.K H p ys) ∧ Q (.int ys.length) H) := by
  intro pins s σ H xs us Q I r h
  obtain ⟨p, ys, rfl, hq, q⟩ := h
  obtain ⟨u, rfl, rx⟩ := vals1 r
  cases rx
  have hn := line63
  rcases hq with hq | hq
  · obtain ⟨its, r', pl, hz⟩ := I.list hq
    have hlen := r'.length
    exact Calls.call_len_list pl.isList (by simp only [List.size_toArray] <;> omega) ⟨.int ys.length, H, I.tok _, ⟨s.toks + 1, by rw [List.size_toArray, hlen]⟩, q⟩
  · obtain ⟨its, r', pl, hz⟩ := I.tuple hq
    have hlen := r'.length
    exact len_tuple pl (by simp only [List.size_toArray] <;> omega) ⟨.int ys.length, H, I.tok _, ⟨s.toks + 1, by rw [List.size_toArray, hlen]⟩, q⟩
theorem call_len_str : CallR X (.builtin "len") (fun xs H Q => ∃ z, xs = [.str z] ∧ z.length ≤ sizeLine ∧ Q (.int z.length) H) := by
  intro pins s σ H xs us Q I r h
  obtain ⟨z, rfl, hz, q⟩ := h
  obtain ⟨u, rfl, t, rfl⟩ := vals1 r
  have hn := line63
  exact len_str (by omega) ⟨.int z.length, H, I.tok _, ⟨_, rfl⟩, q⟩
theorem call_list_of : CallR X (.type "list") (fun xs H Q => ∃ p ys, xs = [.ref p] ∧ (SqL X.K H p ys ∨ SqT X.K H p ys) ∧ ∀ l, H l = none → Q (.ref l) (upd H l (.lst ys))) := by
  intro pins s σ H xs us Q I r h
  obtain ⟨p, ys, rfl, hq, q⟩ := h
  obtain ⟨u, rfl, rx⟩ := vals1 r
  cases rx
  have fin : ∀ (its : List Value), Vals ys its → ys.length ≤ sizeLine → ∀ (h' : Heap) (c' : Nat), (∀ b o', s.heap.get? b = some o' → h'.get? b = some o') →
      h'.get? s.heap.objs.size = some { cls := .type "list", dict := none, data := .seq its.toArray c', slots := #[] } → EP X pins σ Q (.ref s.heap.objs.size) { s with heap := h' } := fun its r' hz h' c' kp e =>
    ⟨.ref s.heap.objs.size, _, I.laid (t' := s.toks) kp (Nat.le_refl _) (show ObjOk X.prog X.w _ h' _ (.lst ys) from ⟨hz, its, c', r', e⟩), rfl, q _ (I.hok.fresh (Nat.le_refl _))⟩
  rcases hq with hq | hq
  · obtain ⟨its, r', pl, hz⟩ := I.list hq
    have hlen := r'.length
    obtain ⟨o, ho, hc, n, hd⟩ := pl.isList
    exact call_list_seq p (.inl rfl) ho hc hd (fun h' c' kp e => fin its r' hz h' c' kp e) (by simp only [List.size_toArray] <;> omega)
  · obtain ⟨its, r', pl, hz⟩ := I.tuple hq
    have hlen := r'.length
    obtain ⟨o, ho, hc, n, hd⟩ := pl
    exact call_list_seq p (.inr rfl) ho hc hd (fun h' c' kp e => fin its r' hz h' c' kp e) (by simp only [List.size_toArray] <;> omega)
theorem call_tuple_of : CallR X (.type "tuple") (fun xs H Q => ∃ p ys, xs = [.ref p] ∧ ((SqL X.K H p ys ∧ ∀ l, H l = none → Q (.ref l) (upd H l (.tup ys))) ∨ (SqT X.K H p ys ∧ Q (.ref p) H))) := by
  intro pins s σ H xs us Q I r h
  obtain ⟨p, ys, rfl, h⟩ := h
  obtain ⟨u, rfl, rx⟩ := vals1 r
  cases rx
  rcases h with ⟨hq, q⟩ | ⟨hq, q⟩
  · obtain ⟨its, r', pl, hz⟩ := I.list hq
    have hlen := r'.length
    refine call_tuple_list pl.isList (fun h' kp => ?_) (by simp only [List.size_toArray] <;> omega)
    have I1 : Inv X pins σ H { s with heap := h' } := I.kept (t' := s.toks) kp
    have I2 : Inv X pins σ (upd H h'.objs.size (.tup ys)) { s with heap := h'.push { cls := .type "tuple", data := .seq its.toArray } } :=
      I1.laid (t' := s.toks) (fun b o e => Heap.get?_push_of_some _ e) (Nat.le_refl _) (show ObjOk X.prog X.w _ _ _ (.tup ys) from ⟨hz, its, r', IsTup.new _ _⟩)
    exact ⟨.ref h'.objs.size, _, I2, rfl, q _ (I1.hok.fresh (Nat.le_refl _))⟩
  · obtain ⟨its, r', pl, hz⟩ := I.tuple hq
    exact call_tuple_same pl ⟨.ref p, H, I, rfl, q⟩

/-! ### the call of a builtin's method: o.m(..) -/
/-- the value is of that builtin type -/
def tyV (K : PySem.W.Frag) (T : String) (x : V) (H : Hp) : Prop := match x with
  | .str _ => T = "str"
  | .int _ => T = "int"
  | .ref p => (T = "list" ∧ ∃ xs, SqL K H p xs) ∨ (T = "tuple" ∧ ∃ o, K.lookup p = some o ∧ o.cls = .type "tuple" ∧ o.dict = none) ∨
      (T = "dict" ∧ ((∃ kvs, H p = some (.dK kvs)) ∨ ∃ kvs, H p = some (.dT kvs))) ∨ (T = "set" ∧ ∃ S n, H p = some (.set S n))
  | _ => False
theorem tyV_is {pins : List (Addr × Obj)} {σ : St} {H : Hp} {s : Shared} {T : String} {x : V} {v : Value} (I : Inv X pins σ H s) (r : RelV x v) (ty : tyV X.K T x H) :
    s.TypeIs v T ∧ ∀ a, v = .ref a → ∃ ob, s.heap.get? a = some ob ∧ ob.dict = none := by
  cases x with
  | str z =>
    obtain ⟨t, rfl⟩ := r
    cases (show T = "str" from ty)
    exact ⟨typeIs_str s z t, fun _ e => nomatch e⟩
  | int i =>
    obtain ⟨t, rfl⟩ := r
    cases (show T = "int" from ty)
    exact ⟨typeIs_int s i t, fun _ e => nomatch e⟩
  | ref p =>
    cases r
    rcases ty with ⟨rfl, xs, hq⟩ | ⟨rfl, o, hk, hc, hd⟩ | ⟨rfl, hk⟩ | ⟨rfl, S, n, hk⟩
    · obtain ⟨its, _, pl, _⟩ := I.list hq
      refine ⟨pl.isList.typeIs, fun a e => ?_⟩
      cases e
      obtain ⟨o, n, e, c, hd, _⟩ := pl
      exact ⟨o, e, hd⟩
    · refine ⟨⟨o, I.kIn p o hk, hc⟩, fun a e => ?_⟩
      cases e
      exact ⟨o, I.kIn _ o hk, hd⟩
    · have z : ∃ o, s.heap.get? p = some o ∧ o.ExactDict := by
        rcases hk with ⟨kvs, hk⟩ | ⟨kvs, hk⟩
        · obtain ⟨_, _, _, _, o, _, _, e, ex, _⟩ := I.hok p _ hk
          exact ⟨o, e, ex⟩
        · obtain ⟨_, _, _, _, o, _, _, e, ex, _⟩ := I.hok p _ hk
          exact ⟨o, e, ex⟩
      obtain ⟨o, e, ex⟩ := z
      refine ⟨⟨o, e, ex.1⟩, fun a e2 => ?_⟩
      cases e2
      exact ⟨o, e, ex.2.1⟩
    · obtain ⟨o, _, _, _, e, ex, _⟩ := I.hok p _ hk
      refine ⟨⟨o, e, ex.1⟩, fun a e2 => ?_⟩
      cases e2
      exact ⟨o, e, ex.2.1⟩
  | _ => exact False.elim ty
def tBM (K : PySem.W.Frag) (T : String) (r : V → List V → Hp → VK → Prop) (to : TE) (t : TA) : TE := fun σ H Q => to σ H fun x H1 => tyV K T x H1 ∧ t σ H1 fun xs H2 => r x xs H2 Q
variable {o e : Expr} {es : List Expr} {to : TE} {t : TA} {name : Str} {apos cpos : Pos} {T id : String} {r : V → List V → Hp → VK → Prop}
theorem pe_bm (pa : PlainAttrs T) (slot : Slot T name id) (hty : typeOf (.builtin id) = pure (.type "method_descriptor")) (hm : MtR X id r) (ho : PE X o to) (ha : PA X (e :: es) t)
    (hbase : attributeBase o name X.env (eval o X.env) = eval o X.env := by rfl)
    (hfew : ((backTo cpos (starEach (e :: es) X.env)).all (fun x => !x.1) && (backToKw cpos (keywordEach [] X.env)).all (fun x => x.1.isSome)
      && decide ((e :: es).length + ([] : List Keyword).length + (if ([] : List Keyword).isEmpty then 0 else 1) < 30)) = true := by rfl)
    (hline : (apos.endLine == cpos.line) = true := by rfl) (hs : starEach (e :: es) X.env = (false, eval e X.env) :: starEach es X.env := by rfl) (hplain : (backTo cpos (starEach es X.env)).any (·.1) = false := by rfl) :
    PE X (.Call (.Attribute o name apos) (e :: es) [] cpos) (tBM X.K T r to t) := by
  intro pins s σ H Q I h
  refine wpAny_Call_method_late hbase hfew hline rfl (thn (ho pins s σ H _ I h) fun v s1 ⟨x, H1, I1, r1, ty, q1⟩ => ?_)
  obtain ⟨h1, h2⟩ := tyV_is I1 r1 ty
  refine ⟨T, id, pa, slot, hty, h1, h2, ?_⟩
  have hA := ha cpos pins s1 σ H1 _ I1 q1
  rw [hs] at hA ⊢
  refine Calls.callWith_builtin (by show (false || (backTo cpos (starEach es X.env)).any (·.1)) = false; rw [hplain] <;> rfl) (Calls.evalArgs_plain ?_)
  exact thn hA fun us s2 ⟨vs, H2, I2, r2, q2⟩ => hm pins s2 σ H2 x vs v us Q I2 r1 r2 q2
/- xs.append(e), list.index on a module's tuple .. are MtR facts of 06m -/
end
end L2

namespace L2
open PySem PySem.Spec PyProof.Rows

def MtM (X : Cx) (id : String) (r : V → List V → Hp → VK → Prop) : Prop :=
  ∀ (pins : List (Addr × Obj)) (s : Shared) (σ : St) (H : Hp) (x : V) (xs : List V) (v : Value) (us : List Value) (Q : VK), Inv X pins σ H s → RelV x v → Vals xs us → r x xs H Q →
    wpAny (model X.prog X.w) X.A (call (.builtin id) (v :: us)) (EP X pins σ Q) X.xe s

/-! ### lists of values -/
theorem Vals.one : ∀ {x : V} {us : List Value}, Vals [x] us → ∃ u, us = [u] ∧ RelV x u
  | _, _, .cons r .nil => ⟨_, rfl, r⟩
theorem Vals.rep {xs : List V} {us : List Value} (h : Vals xs us) : ∀ k : Nat, Vals (List.replicate k xs).flatten (List.replicate k us).flatten
  | 0 => .nil
  | k + 1 => by
    rw [List.replicate_succ, List.replicate_succ, List.flatten_cons, List.flatten_cons]
    exact Vals.append h (Vals.rep h k)
theorem foldl_rep (its : List Value) : ∀ (k : Nat) (acc : List Value),
    List.foldl (fun x1 x2 => x1 ++ x2) acc.toArray (List.replicate k its.toArray) = (acc ++ (List.replicate k its).flatten).toArray
  | 0, acc => by simp
  | k + 1, acc => by
    have e : acc.toArray ++ its.toArray = (acc ++ its).toArray := by simp
    have e2 : (acc ++ its) ++ (List.replicate k its).flatten = acc ++ (List.replicate (k + 1) its).flatten := by
      rw [List.replicate_succ, List.flatten_cons, List.append_assoc]
    rw [← e2, ← foldl_rep its k (acc ++ its), ← e, List.replicate_succ, List.foldl_cons]

section
variable {X : Cx} {pins : List (Addr × Obj)} {σ : St} {H : Hp} {s : Shared} {l b : Addr} {xs ys zs : List V}

/-! ### the two steps: a tracked list is rewritten, a new list is laid -/
theorem Inv.lset {its its' : List Value} {n : Nat} {f : Array Value → Array Value} {t' : Nat} (I : Inv X pins σ H s) (hH : H l = some (.lst xs))
    (e : s.heap.get? l = some { cls := .type "list", data := .seq its.toArray n }) (hf : f its.toArray = its'.toArray) (hv : Vals ys its') (hz : ys.length ≤ sizeLine) :
    Inv X pins σ (upd H l (.lst ys)) { s with heap := s.heap.update l (Obj.mapSeq f), toks := t' } := by
  have q := PySem.IsL.update e f
  rw [hf] at q
  refine I.write (x := l) (e := l) (by rw [hH]; exact trivial) (.inl rfl) (fun b' u hb hu => (Heap.get?_update_other s.heap (Obj.mapSeq f) (Ne.symm hb)).trans hu) ⟨_, q⟩ ?_
  exact ⟨hz, its', _, hv, q⟩
theorem Inv.lnew {its : List Value} {t' : Nat} (I : Inv X pins σ H s) (hv : Vals ys its) (hz : ys.length ≤ sizeLine) :
    Inv X pins σ (upd H s.heap.objs.size (.lst ys)) { s with heap := s.heap.push { cls := .type "list", data := .seq its.toArray }, toks := t' } :=
  I.laid (fun _ _ q => Heap.get?_push_of_some _ q) (Nat.le_refl _) ⟨hz, its, 0, hv, Heap.get?_push_size _ rfl⟩
theorem Inv.fresh (I : Inv X pins σ H s) : H s.heap.objs.size = none := I.hok.fresh (Nat.le_refl _)
theorem Inv.lstM (I : Inv X pins σ H s) (hH : H l = some (.lst xs)) : xs.length ≤ sizeLine ∧ ∃ (its : List Value) (n : Nat), Vals xs its ∧ xs.length = its.length ∧ s.heap.get? l = some { cls := .type "list", data := .seq its.toArray n } := by
  obtain ⟨z, its, n, r, e⟩ := I.hok l _ hH
  exact ⟨z, its, n, r, r.length, e⟩

theorem notLongL {n : Nat} (h : n ≤ sizeLine) : Builtin.List.listTooLong n = false := by
  unfold Builtin.List.listTooLong
  exact decide_eq_false (by omega)
end

section
variable {X : Cx}

/-! ### methods -/
def rAppend : V → List V → Hp → VK → Prop := fun x vs H Q => ∃ l xs y, x = .ref l ∧ vs = [y] ∧ H l = some (.lst xs) ∧ xs.length < sizeLine ∧ Q .non (upd H l (.lst (xs ++ [y])))
theorem mt_append : MtM X "list.append" rAppend := by
  intro pins s σ H x vs v us Q I rx rv h
  obtain ⟨l, xs, y, rfl, rfl, hH, hz, q⟩ := h
  cases rx
  obtain ⟨u, rfl, ru⟩ := rv.one
  obtain ⟨z, its, n, r, hl, e⟩ := I.lstM hH
  refine call_meets F.slot_list_append ⟨_, e, rfl⟩ F.entry_list_append (F.args_list_append_2 _ _) (PySem.list_append l its.toArray n u (by rw [List.size_toArray]; omega)) ⟨e, ?_⟩
  refine ⟨.non, _, I.lset (its' := its ++ [u]) hH e (by simp) (r.append (.cons ru .nil)) ?_, rfl, q⟩
  rw [List.length_append, List.length_singleton]
  omega






/-! ### list + list, list += list, list * int -/
def rCat : R2 := fun x y H Q => ∃ l b xs zs, x = .ref l ∧ y = .ref b ∧ H l = some (.lst xs) ∧ H b = some (.lst zs) ∧ xs.length + zs.length ≤ sizeLine ∧ ∀ p, H p = none → Q (.ref p) (upd H p (.lst (xs ++ zs)))
theorem op_cat : OpR X (binaryOp .Add) rCat := by
  intro pins s σ H x y v u Q I rx ry h
  obtain ⟨l, b, xs, zs, rfl, rfl, hH, hB, hz, q⟩ := h
  cases rx
  cases ry
  obtain ⟨z, its, n, r, hl, e⟩ := I.lstM hH
  obtain ⟨z2, its2, n2, r2, hl2, e2⟩ := I.lstM hB
  refine PySem.P.add_list e e2 ?_ (by rw [List.size_toArray, List.size_toArray]; omega)
  have ea : its.toArray ++ its2.toArray = (its ++ its2).toArray := by simp
  rw [ea]
  exact ⟨.ref _, _, I.lnew (t' := s.toks) (r.append r2) (by rw [List.length_append]; omega), rfl, q _ I.fresh⟩
/-- a list times an int (a negative one is nothing) -/
def rRep : R2 := fun x y H Q => ∃ l k xs, x = .ref l ∧ y = .int k ∧ H l = some (.lst xs) ∧ -(2 ^ 63) ≤ k ∧ k < 2 ^ 63 ∧ xs.length * k.toNat ≤ sizeLine ∧
  ∀ p, H p = none → Q (.ref p) (upd H p (.lst (List.replicate k.toNat xs).flatten))
theorem len_rep {α : Type} (xs : List α) (k : Nat) : (List.replicate k xs).flatten.length = k * xs.length := by
  induction k with
  | zero => simp
  | succ k ih => rw [List.replicate_succ, List.flatten_cons, List.length_append, ih, Nat.succ_mul, Nat.add_comm]
theorem op_rep : OpR X (binaryOp .Mult) rRep := by
  intro pins s σ H x y v u Q I rx ry h
  obtain ⟨l, k, xs, rfl, rfl, hH, h1, h2, hz, q⟩ := h
  cases rx
  obtain ⟨t, rfl⟩ := ry
  obtain ⟨z, its, n, r, hl, e⟩ := I.lstM hH
  have hlen : its.toArray.size * k.toNat ≤ sizeLine := by rw [List.size_toArray, ← hl]; exact hz
  have hcap : ¬ its.toArray.size * k.toNat > (2 ^ 63 - 1) / 8 := by
    have : (sizeLine : Nat) ≤ (2 ^ 63 - 1) / 8 := by decide
    omega
  have hfit : ¬ (!Builtin.List.listFitsIndex k) = true := by
    rw [fitsIndex_both h1 h2]
    exact Bool.false_ne_true
  have hlong : ¬ Builtin.List.listTooLong (its.toArray.size * k.toNat) = true := by
    rw [notLongL hlen]
    exact Bool.false_ne_true
  have hnew : List.foldl (fun x1 x2 => x1 ++ x2) #[] (List.replicate (if its.toArray.isEmpty = true then 0 else k.toNat) its.toArray) = (List.replicate k.toNat its).flatten.toArray := by
    have f0 : ∀ m : Nat, List.foldl (fun x1 x2 => x1 ++ x2) #[] (List.replicate m its.toArray) = (List.replicate m its).flatten.toArray := fun m => by
      have := foldl_rep its m []
      rw [List.nil_append] at this
      exact this
    rw [f0]
    cases its with
    | nil => simp
    | cons a r' => rw [if_neg (by simp)]
  refine wpAny_binaryOp_repeat_ref (T := "list") (U := "int") (by decide) ⟨_, e, rfl⟩ (fun s' => typeIs_int s' k t) noFill_list_mul F.fills_int_mul F.slot_int_rmul repeat_list F.slot_int_index.lookup
    (call_meets F.slot_int_rmul (typeIs_int s k t) F.entry_int_rmul (F.args_int_rmul_2 _ _) (int___rmul___int_list k t l its.toArray n)
      ⟨e, rfl, ⟨_, e, rfl⟩, call_meets F.slot_list_mul ⟨_, e, rfl⟩ F.entry_list_mul (F.args_list_mul_2 _ _) (AutoListH.list___mul___list_int_3 l its.toArray n k t hfit hcap hlong) ⟨e, ?_⟩⟩)
  rw [hnew]
  exact ⟨.ref _, _, I.lnew (t' := s.toks) (r.rep k.toNat) (by rw [len_rep, Nat.mul_comm]; exact hz), rfl, q _ I.fresh⟩

/-! ### del xs[i] -/
end

/-! ### xs[a:b] = ys -/
section
variable {prog : Program} {w : World} {A : Around} {E : Value → Shared → Prop} {s : Shared}
set_option maxRecDepth 100000 in
end

section
variable {X : Cx}
end
end L2

namespace L2
open PySem PySem.Spec PyProof.Rows

/-! ### lists of pairs as tables -/
section
variable {κ : Type} [DecidableEq κ]
def valV (kvs : List (κ × V)) (k : κ) : Option V := (kvs.find? fun kv => decide (kv.1 = k)).map (·.2)
/-- in its place, or at the end -/
def putK (kvs : List (κ × V)) (k : κ) (v : V) : List (κ × V) :=
  if (kvs.any fun kv => decide (kv.1 = k)) = true then kvs.map (fun kv => if kv.1 = k then (kv.1, v) else kv) else kvs ++ [(k, v)]

theorem valV_pos {p : κ × V} {r : List (κ × V)} {k : κ} (e : p.1 = k) : valV (p :: r) k = some p.2 := by simp [valV, List.find?_cons, e]
theorem valV_neg {p : κ × V} {r : List (κ × V)} {k : κ} (e : ¬ p.1 = k) : valV (p :: r) k = valV r k := by simp [valV, List.find?_cons, e]
theorem valV_any (k : κ) : ∀ kvs : List (κ × V), (kvs.any fun kv => decide (kv.1 = k)) = (valV kvs k).isSome
  | [] => rfl
  | p :: r => by
    rw [List.any_cons]
    by_cases e : p.1 = k
    · simp only [valV_pos e, decide_eq_true e, Bool.true_or, Option.isSome_some]
    · rw [valV_neg e, decide_eq_false e, Bool.false_or]; exact valV_any k r
theorem length_putK (kvs : List (κ × V)) (k : κ) (v : V) : (putK kvs k v).length ≤ kvs.length + 1 := by
  unfold putK
  split
  · rw [List.length_map]; omega
  · rw [List.length_append, List.length_cons, List.length_nil]; omega

theorem RelO.isSome_eq {o : Option V} {u : Option Value} (r : RelO o u) : o.isSome = u.isSome := by
  cases o with
  | none => cases u with
    | none => rfl
    | some _ => exact (show False from r).elim
  | some _ => cases u with
    | none => exact (show False from r).elim
    | some _ => rfl

/-- raw tables of the same keys -/
theorem KV.val {kvs : List (κ × V)} {vs : List (κ × Value)} (r : KV kvs vs) (k : κ) : RelO (valV kvs k) (valueAt vs k) := by
  unfold KV at r
  induction r with
  | nil => exact True.intro
  | @cons p q ps qs h t ih =>
    obtain ⟨h1, h2⟩ := h
    by_cases e : p.1 = k
    · have e' : q.1 = k := h1.symm.trans e
      have b : valueAt (q :: qs) k = some q.2 := by simp [valueAt, List.find?_cons, e']
      rw [valV_pos e, b]; exact h2
    · have e' : ¬ q.1 = k := fun z => e (h1.trans z)
      have b : valueAt (q :: qs) k = valueAt qs k := by simp [valueAt, List.find?_cons, e']
      rw [valV_neg e, b]; exact ih
theorem KV.any {kvs : List (κ × V)} {vs : List (κ × Value)} (r : KV kvs vs) (k : κ) : (kvs.any fun kv => decide (kv.1 = k)) = vs.any fun kv => decide (kv.1 = k) := by
  unfold KV at r
  induction r with
  | nil => rfl
  | cons h t ih => rw [List.any_cons, List.any_cons, ih, h.1]
theorem KV.repl {kvs : List (κ × V)} {vs : List (κ × Value)} (r : KV kvs vs) (k : κ) {y : V} {u : Value} (ry : RelV y u) :
    KV (kvs.map fun kv => if kv.1 = k then (kv.1, y) else kv) (vs.map fun kv => if kv.1 = k then (kv.1, u) else kv) := by
  unfold KV at r ⊢
  induction r with
  | nil => exact .nil
  | @cons p q ps qs h t ih =>
    rw [List.map_cons, List.map_cons]
    refine .cons ?_ ih
    obtain ⟨h1, h2⟩ := h
    by_cases e : p.1 = k
    · rw [if_pos e, if_pos (h1.symm.trans e)]; exact ⟨h1, ry⟩
    · rw [if_neg e, if_neg (fun z => e (h1.trans z))]; exact ⟨h1, h2⟩
theorem KV.put {kvs : List (κ × V)} {vs : List (κ × Value)} (r : KV kvs vs) (k : κ) {y : V} {u : Value} (ry : RelV y u) : KV (putK kvs k y) (stored vs k u) := by
  unfold putK stored
  rw [r.any k]
  by_cases e : (vs.any fun kv => decide (kv.1 = k)) = true
  · rw [if_pos e, if_pos e]; exact r.repl k ry
  · rw [if_neg e, if_neg e]; exact Paired.snoc r ⟨rfl, ry⟩
theorem KV.length {kvs : List (κ × V)} {vs : List (κ × Value)} (r : KV kvs vs) : kvs.length = vs.length := Paired.length r
end


/-! ### a tracked dict, its keys ints and texts or tuples of these -/
theorem kV_is {P : Program} {w : World} {k : Key} {u : Value} (r : RelV (kV k) u) : (mixKind P w).is k u = true := by
  cases k with
  | inl i => obtain ⟨t, e⟩ := (show ∃ t, u = Value.int i t from r); subst e; exact mixKind_int P w i t
  | inr x => obtain ⟨t, e⟩ := (show ∃ t, u = Value.str x t from r); subst e; exact mixKind_str P w x t
theorem items_are {P : Program} {w : World} : ∀ {ks : List Key} {us : List Value}, Vals (ks.map kV) us → ItemsAre (mixKind P w) ks us
  | [], _, r => by rw [List.map_nil] at r; cases r; exact .nil
  | k :: ks, _, r => by
    rw [List.map_cons] at r
    cases r with
    | cons h t => exact .cons (kV_is h) (items_are t)

/-- raw entries of a dict with tuple keys -/
abbrev KT (H : Hp) : List (List Key × V) → List (List Key × Addr × Value) → Prop := Paired fun p q => p.1 = q.1 ∧ H q.2.1 = some (.tup (p.1.map kV)) ∧ RelV p.2 q.2.2
theorem KT.val {H : Hp} {kvs : List (List Key × V)} {xs : List (List Key × Addr × Value)} (r : KT H kvs xs) (k : List Key) : RelO (valV kvs k) ((atKey xs k).map (·.2)) := by
  induction r with
  | nil => exact True.intro
  | @cons p q ps qs h t ih =>
    obtain ⟨h1, _, h2⟩ := h
    by_cases e : p.1 = k
    · have e' : q.1 = k := h1.symm.trans e
      have b : atKey (q :: qs) k = some q.2 := by simp [atKey, List.find?_cons, e']
      rw [valV_pos e, b]; exact h2
    · have e' : ¬ q.1 = k := fun z => e (h1.trans z)
      have b : atKey (q :: qs) k = atKey qs k := by simp [atKey, List.find?_cons, e']
      rw [valV_neg e, b]; exact ih
theorem KT.repl {H : Hp} {kvs : List (List Key × V)} {xs : List (List Key × Addr × Value)} (r : KT H kvs xs) (k : List Key) {y : V} {u : Value} (ry : RelV y u) :
    KT H (kvs.map fun kv => if kv.1 = k then (kv.1, y) else kv) (xs.map (putAt k u)) := by
  induction r with
  | nil => exact .nil
  | @cons p q ps qs h t ih =>
    rw [List.map_cons, List.map_cons]
    refine .cons ?_ ih
    obtain ⟨h1, h2, h3⟩ := h
    unfold putAt
    by_cases e : p.1 = k
    · rw [if_pos e, if_pos (h1.symm.trans e)]; exact ⟨h1, h2, ry⟩
    · rw [if_neg e, if_neg (fun z => e (h1.trans z))]; exact ⟨h1, h2, h3⟩
theorem KT.put {H : Hp} {kvs : List (List Key × V)} {xs : List (List Key × Addr × Value)} (r : KT H kvs xs) (k : List Key) {b : Addr} {y : V} {u : Value} (hb : H b = some (.tup (k.map kV))) (ry : RelV y u) :
    KT H (putK kvs k y) (storedH xs k b u) := by
  have e : (kvs.any fun kv => decide (kv.1 = k)) = (atKey xs k).isSome := by
    rw [valV_any, (r.val k).isSome_eq, Option.isSome_map]
  unfold putK storedH
  rw [e]
  by_cases q : (atKey xs k).isSome = true
  · rw [if_pos q, if_pos q]; exact r.repl k ry
  · rw [if_neg q, if_neg q]; exact Paired.snoc r ⟨rfl, hb, ry⟩
theorem KT.keeps {H H' : Hp} {kvs : List (List Key × V)} {xs : List (List Key × Addr × Value)} (r : KT H kvs xs) (ht : ∀ b ys, H b = some (.tup ys) → H' b = some (.tup ys)) : KT H' kvs xs :=
  Paired.mapP r fun _ _ z => ⟨z.1, ht _ _ z.2.1, z.2.2⟩

section
variable {P : Program} {w : World} {H : Hp} {h : Heap} {a : Addr}
theorem rd_of {u : HO} (ok : HOk P w H h) (e : Rd H a u) : ObjOk P w H h a u := e.ok ok
theorem dk_rd {kvs : List (Key × V)} (ok : HOk P w H h) (e : Rd H a (.dK kvs)) : kvs.length ≤ sizeLine ∧ (a == sysModules) = false ∧ ∃ vs, KV kvs vs ∧ h.DictOf (mixKind P w) a vs :=
  show ObjOk P w H h a (.dK kvs) from rd_of ok e
theorem dk_of {kvs : List (Key × V)} (ok : HOk P w H h) (e : H a = some (.dK kvs)) : kvs.length ≤ sizeLine ∧ (a == sysModules) = false ∧ ∃ vs, KV kvs vs ∧ h.DictOf (mixKind P w) a vs := dk_rd ok (.inl e)
/-- a tracked tuple of ints and texts is a key -/
theorem key_of {ks : List Key} (ok : HOk P w H h) (e : H a = some (.tup (ks.map kV))) : (tupleKind (mixKind P w)).is h ks a := by
  obtain ⟨_, its, r, o, h1, h2, n, h3⟩ := (show ObjOk P w H h a (.tup (ks.map kV)) from ok a _ e)
  exact ⟨o, its.toArray, n, h1, h2, h3, by simpa using items_are r⟩
theorem dt_rd {kvs : List (List Key × V)} (ok : HOk P w H h) (e : Rd H a (.dT kvs)) : kvs.length ≤ sizeLine ∧ (a == sysModules) = false ∧
    ∃ xs, KT H kvs xs ∧ h.DictOfH (tupleKind (mixKind P w)) a xs := by
  obtain ⟨z, y, xs, r, o, es, ep, h1, h2, h3, h4, h5⟩ := (show ObjOk P w H h a (.dT kvs) from rd_of ok e)
  refine ⟨z, y, xs, r, o, es, ep, h1, h2, h3, h4, fun x hx => ?_, h5⟩
  have all : ∀ {l : List (List Key × V)} {m : List (List Key × Addr × Value)}, KT H l m → ∀ x ∈ m, (tupleKind (mixKind P w)).is h x.1 x.2.1 := by
    intro l m q
    induction q with
    | nil => intro x hx; exact nomatch hx
    | @cons p q ps qs hq t ih =>
      intro x hx
      rcases List.mem_cons.mp hx with e | hx
      · subst e
        exact key_of ok (by rw [← hq.1]; exact hq.2.1)
      · exact ih x hx
  exact all r x hx
theorem dt_of {kvs : List (List Key × V)} (ok : HOk P w H h) (e : H a = some (.dT kvs)) : kvs.length ≤ sizeLine ∧ (a == sysModules) = false ∧
    ∃ xs, KT H kvs xs ∧ h.DictOfH (tupleKind (mixKind P w)) a xs := dt_rd ok (.inl e)
end

/-- what the dict at a holds at the key y -/
def DGet (H : Hp) (a : Addr) (y : V) (r : Option V) : Prop :=
  (∃ kvs k, Rd H a (.dK kvs) ∧ y = kV k ∧ r = valV kvs k) ∨ ∃ kvs k b, Rd H a (.dT kvs) ∧ y = .ref b ∧ H b = some (.tup (k.map kV)) ∧ r = valV kvs k
/-- the heap behind a[y] = v -/
def DPut (H : Hp) (a : Addr) (y v : V) (H' : Hp) : Prop :=
  (∃ kvs k, H a = some (.dK kvs) ∧ y = kV k ∧ kvs.length < sizeLine ∧ H' = upd H a (.dK (putK kvs k v))) ∨
  ∃ kvs k b, H a = some (.dT kvs) ∧ y = .ref b ∧ H b = some (.tup (k.map kV)) ∧ kvs.length < sizeLine ∧ H' = upd H a (.dT (putK kvs k v))
theorem DGet.k {H : Hp} {a : Addr} {kvs : List (Key × V)} {k : Key} (e : H a = some (.dK kvs)) : DGet H a (kV k) (valV kvs k) := .inl ⟨kvs, k, .inl e, rfl, rfl⟩
theorem DPut.k {H : Hp} {a : Addr} {kvs : List (Key × V)} {k : Key} {v : V} (e : H a = some (.dK kvs)) (hl : kvs.length < sizeLine) : DPut H a (kV k) v (upd H a (.dK (putK kvs k v))) := .inl ⟨kvs, k, e, rfl, hl, rfl⟩


section
variable {X : Cx} {pins : List (Addr × Obj)} {σ : St} {H : Hp} {s : Shared} {a : Addr} {y v : V} {u r : Value} {o : Option V} {A : Around} {E : Value → Shared → Prop}

theorem Inv.big (I : Inv X pins σ H s) : sysModules < s.heap.objs.size := by
  have h : mainGlobals < s.heap.objs.size := (I.mod.glob.keeps I.bk).lt
  exact Nat.lt_trans (by decide) h

/-- d[y], there -/
theorem d_getItem {Q : Value → Shared → Prop} (hu : A.units + 1 < cLine) (I : Inv X pins σ H s) (g : DGet H a y (some v)) (ry : RelV y u) (h : ∀ w' s', Inv X pins σ H s' → RelV v w' → Q w' s') :
    wpAny (model X.prog X.w) A (getItem (.ref a) u) Q E s := by
  rcases g with ⟨kvs, k, e, ey, l⟩ | ⟨kvs, k, b, e, ey, eb, l⟩
  · subst ey
    obtain ⟨z, hd, vs, rel, dd⟩ := dk_rd I.hok e
    obtain ⟨w', hw, rw'⟩ := RelO.some_of (v := v) (o := valueAt vs k) (by rw [l]; exact rel.val k)
    exact wpAny_getItem_of (kV_is ry) dd.mapOf hw (h w' _ (I.tok _) rw')
  · subst ey
    cases (show u = Value.ref b from ry)
    obtain ⟨z, hd, xs, rel, dd⟩ := dt_rd I.hok e
    obtain ⟨w', hw, rw'⟩ := RelO.some_of (v := v) (o := (atKey xs k).map (·.2)) (by rw [l]; exact rel.val k)
    obtain ⟨p, hp, hp2⟩ := Option.map_eq_some_iff.mp hw
    refine wpAny_getItem_heap (tupleKind_room_in1 hu) (key_of I.hok eb) dd hp ?_
    rw [hp2]
    exact h w' _ (I.tok _) rw'
/-- a dict's object is replaced -/
theorem d_write {h' : Heap} {t' : Nat} {ob : HO} (I : Inv X pins σ H s) (mu : Mut (H a)) (hs : Heap.SameBut a s.heap h') (he : ∃ q, h'.get? a = some q) (new : ObjOk X.prog X.w (upd H a ob) h' a ob) :
    Inv X pins σ (upd H a ob) { s with heap := h', toks := t' } :=
  I.write (x := a) (e := a) mu (.inl rfl) (fun b q hb z => (hs.2 b hb).trans z) he new
theorem dk_new {P : Program} {w : World} {H' : Hp} {h' : Heap} {kvs : List (Key × V)} {vs : List (Key × Value)} (z : kvs.length ≤ sizeLine) (hd : (a == sysModules) = false) (rel : KV kvs vs) (dd : h'.DictOf (mixKind P w) a vs) :
    ObjOk P w H' h' a (.dK kvs) := ⟨z, hd, vs, rel, dd⟩
/-- d[y] = v -/
theorem d_setItem {H' : Hp} {Q : Unit → Shared → Prop} (hu : A.units + 1 < cLine) (I : Inv X pins σ H s) (g : DPut H a y v H') (ry : RelV y u) (rv : RelV v r) (h : ∀ s', Inv X pins σ H' s' → Q () s') :
    wpAny (model X.prog X.w) A (setItem (.ref a) u r) Q E s := by
  rcases g with ⟨kvs, k, e, ey, l, eH⟩ | ⟨kvs, k, b, e, ey, eb, l, eH⟩
  · subst ey eH
    obtain ⟨z, hd, vs, rel, dd⟩ := dk_of I.hok e
    have hz : vs.length ≤ sizeLine := by rw [← rel.length]; exact z
    have hl : (putK kvs k v).length ≤ sizeLine := by have := length_putK kvs k v; omega
    refine wpAny_setItem_pairs (hsz := hz) (kV_is ry) dd fun h' dd' hs => h _ ?_
    have he : ∃ q, h'.get? a = some q := let ⟨q, _, _, hq, _⟩ := dd'; ⟨q, hq⟩
    exact d_write I (by rw [e]; exact True.intro) hs he (dk_new hl hd (rel.put k rv) dd')
  · subst ey eH
    cases (show u = Value.ref b from ry)
    obtain ⟨z, hd, xs, rel, dd⟩ := dt_of I.hok e
    have hz : xs.length ≤ sizeLine := by rw [← Paired.length rel]; exact z
    have hl : (putK kvs k v).length ≤ sizeLine := by have := length_putK kvs k v; omega
    refine wpAny_setItem_heap (hsz := hz) (tupleKind_room_in1 hu) (key_of I.hok eb) dd fun h' dd' hs => h _ ?_
    obtain ⟨q, es, ep, hq, h2, h3, h4, _, h5⟩ := dd'
    refine d_write I (by rw [e]; exact True.intro) hs ⟨q, hq⟩ ⟨hl, hd, _, (rel.put k eb rv).keeps fun c ys ec => ?_, q, es, ep, hq, h2, h3, h4, h5⟩
    rw [upd_ne (ne_of ec e (fun z => nomatch z))]
    exact ec
end

section
variable {X : Cx} {pins : List (Addr × Obj)} {σ : St} {H : Hp} {s : Shared} {a : Addr} {kvs : List (Key × V)} {k : Key} {u : Value} {A : Around} {E : Value → Shared → Prop}
end


/-! ### readings and rules -/
/-- the element of a subscription, not a slice -/
def NoSl (i : Expr) : Prop := ∀ ov iv, subscripted i false ov iv = operate [ov, iv] (getItem ov iv)
theorem subD_of {prog : Program} {w : World} {A : Around} {E : Value → Shared → Prop} {s : Shared} {env : Env} {value slice : Expr} {pos : Pos} {T id : String} {Q : Value → Shared → Prop}
    (hl : typeLookup (.type T) "__getitem__" = pure (some (.builtin id))) (hs : NoSl slice)
    (h : wpAny (model prog w) A (eval value env) (fun o s₁ => wpAny (model prog w) A (eval slice env) (fun i s₂ => s₂.TypeIs o T ∧ wpAny (model prog w) A (getItem o i) Q E s₂) E s₁) E s) :
    wpAny (model prog w) A (eval (.Subscript value slice pos) env) Q E s := by
  refine Subscript_ (wpAny_mono h (fun o s₁ h₁ => wpAny_mono h₁ (fun i s₂ h₂ => ?_) fun _ _ x => x) fun _ _ x => x)
  obtain ⟨hT, h₂⟩ := h₂
  unfold subscriptTail
  refine wpAny_bind ?_
  rw [getitemInPython_of_ne hT.not_modules]
  refine wpAny_bind (wpAny_specialOf hT hl ?_)
  have fin : wpAny (model prog w) A (subscripted slice false o i) (fun r s₃ => wpAny (model prog w) A (letTemporaryGo value o r >>= fun _ => pure r) Q E s₃) E s₂ := by
    rw [hs o i]
    exact wpAny_operating (wpAny_mono h₂ (fun r s₃ h₃ => wpAny_bind (wpAny_letTemporaryGo (wpAny_pure h₃))) fun _ _ x => x)
  first
    | exact wpAny_pure (wpAny_bind fin)
    | exact wpAny_bind (wpAny_pure (wpAny_bind fin))
    | exact wpAny_bind fin

theorem dict_typeIs {X : Cx} {pins : List (Addr × Obj)} {σ : St} {H : Hp} {s : Shared} {a : Addr} {y : V} {o : Option V} (I : Inv X pins σ H s) (g : DGet H a y o) : s.TypeIs (.ref a) "dict" := by
  rcases g with ⟨kvs, k, e, _, _⟩ | ⟨kvs, k, b, e, _, _, _⟩
  · obtain ⟨_, _, vs, _, dd⟩ := dk_rd I.hok e
    exact dd.typeIs
  · obtain ⟨_, _, xs, _, dd⟩ := dt_rd I.hok e
    exact dd.typeIs

/-- d[y] -/
def tDGet (td ty : TE) : TE := fun σ H Q => td σ H fun x H1 => ty σ H1 fun y H2 => ∃ a v, x = .ref a ∧ DGet H2 a y (some v) ∧ Q v H2
/-- d[y] = v -/
def sDPut (td ty tv : TE) : TS := fun D σ H => tv σ H fun v H1 => td σ H1 fun x H2 => ty σ H2 fun y H3 => ∃ a H4, x = .ref a ∧ DPut H3 a y v H4 ∧ D.nx σ H4

section
variable {X : Cx} {o i e value : Expr} {pos pos' tpos : Pos} {td ty tv : TE}
theorem pe_dget (hu : X.A.units + 1 < cLine) (ho : PE X o td) (hi : PE X i ty) (hs : NoSl i) : PE X (.Subscript o i pos) (tDGet td ty) := by
  intro pins s σ H Q I h
  refine subD_of PySem.F.slot_dict_getitem.lookup hs (thn (ho pins s σ H _ I h) fun u s1 ⟨x, H1, I1, rx, q1⟩ => thn (hi pins s1 σ H1 _ I1 q1) fun iv s2 ⟨y, H2, I2, ry, a, v, ex, g, q2⟩ => ?_)
  subst ex
  obtain rfl : u = Value.ref a := rx
  exact ⟨dict_typeIs I2 g, d_getItem hu I2 g ry fun w' s3 I3 rw' => ⟨v, H2, I3, rw', q2⟩⟩
theorem ps_dput (hu : X.A.units + 1 < cLine) (ho : PE X o td) (hi : PE X i ty) (hv : PE X value tv) (hs : swapsWith value (some (.Subscript o i pos')) pos.line X.env = pure false) :
    PS X (.Assign [.Subscript o i pos'] value pos) (sDPut td ty tv) := by
  intro pins s σ H D I h
  refine wpAny_Assign_Subscript (thn (hv pins s σ H _ I h) fun r s1 ⟨v, H1, I1, rv, q1⟩ => thn (ho pins s1 σ H1 _ I1 q1) fun u s2 ⟨x, H2, I2, rx, q2⟩ => thn (hi pins s2 σ H2 _ I2 q2) fun iv s3 ⟨y, H3, I3, ry, a, H4, ex, g, q3⟩ => ?_) hs
  subst ex
  obtain rfl : u = Value.ref a := rx
  exact d_setItem hu I3 g ry rv fun s4 I4 => ⟨σ, H4, I4, q3⟩
end


/-! ### displays -/
theorem dk_empty {P : Program} {w : World} {H : Hp} (h : Heap) (hb : sysModules < h.objs.size) : ObjOk P w H (h.push { cls := .type "dict", data := .dict #[] }) h.objs.size (.dK []) :=
  ⟨Nat.zero_le _, beq_eq_false_iff_ne.mpr (Ne.symm (Nat.ne_of_lt hb)), [], .nil, Heap.DictOf.new h⟩
/-- {}, to be a dict of the kind that is wanted -/
def tDNewK : TE := fun _ H Q => ∀ p, H p = none → Q (.ref p) (upd H p (.dK []))
section
variable {X : Cx} {pos : Pos}
theorem pe_dnewK : PE X (.Dict [] [] pos) tDNewK := fun pins s σ H Q I h =>
  wpAny_Dict_empty ⟨.ref s.heap.objs.size, _, I.laid (a := s.heap.objs.size) (o := .dK []) (t' := s.toks) (fun _ _ q => Heap.get?_push_of_some _ q) (Nat.le_refl _) (dk_empty s.heap I.big), rfl, h _ (I.hok.fresh (Nat.le_refl _))⟩
end

/-- the pairs of a display, from the left -/
def tPairs : List (TE × TE) → St → Hp → (List (V × V) → Hp → Prop) → Prop
  | [], _, H, Q => Q [] H
  | (tk, tv) :: r, σ, H, Q => tk σ H fun x H1 => tv σ H1 fun y H2 => tPairs r σ H2 fun ps H3 => Q ((x, y) :: ps) H3
abbrev VV : List (V × V) → List (Value × Value) → Prop := Paired fun p q => RelV p.1 q.1 ∧ RelV p.2 q.2
def PPs (X : Cx) (pos : Pos) (keys : List (Option Expr)) (values : List Expr) (trs : List (TE × TE)) : Prop :=
  ∀ (pins : List (Addr × Obj)) (s : Shared) (σ : St) (H : Hp) (Q : List (V × V) → Hp → Prop), Inv X pins σ H s → tPairs trs σ H Q →
    wpAny (model X.prog X.w) X.A (evalPairs (pairTrees keys values X.env pos)) (fun vs s' => ∃ ps H', Inv X pins σ H' s' ∧ VV ps vs ∧ Q ps H') X.xe s
theorem pps_nil {X : Cx} {pos : Pos} : PPs X pos [] [] [] := fun pins s σ H Q I h => pairTrees_nil_walk ⟨[], H, I, .nil, h⟩
theorem pps_cons {X : Cx} {pos : Pos} {k v : Expr} {ks : List (Option Expr)} {vs : List Expr} {tk tv : TE} {trs : List (TE × TE)} (hk : PE X k tk) (hv : PE X v tv) (hr : PPs X pos ks vs trs) :
    PPs X pos (some k :: ks) (v :: vs) ((tk, tv) :: trs) := fun pins s σ H Q I h =>
  pairTrees_cons_walk (thn (hk pins s σ H _ I h) fun u s1 ⟨x, H1, I1, rx, q1⟩ => thn (hv pins s1 σ H1 _ I1 q1) fun w2 s2 ⟨y, H2, I2, ry, q2⟩ =>
    thn (hr pins s2 σ H2 _ I2 q2) fun ws s3 ⟨ps, H3, I3, rel, q3⟩ => ⟨(x, y) :: ps, H3, I3, .cons ⟨rx, ry⟩ rel, q3⟩)

def mergeK (kvs more : List (Key × V)) : List (Key × V) := more.foldl (fun acc kv => putK acc kv.1 kv.2) kvs
theorem KV.merge : ∀ {more : List (Key × V)} {rs : List (Key × Value)} {kvs : List (Key × V)} {vs : List (Key × Value)}, KV more rs → KV kvs vs → KV (mergeK kvs more) (merged vs rs) := by
  intro more rs kvs vs r
  unfold KV at r
  induction r generalizing kvs vs with
  | nil => intro q; exact q
  | @cons p q ps qs h t ih =>
    intro r0
    have e : KV (putK kvs p.1 p.2) (stored vs q.1 q.2) := by
      have := r0.put p.1 h.2
      rw [← h.1]; exact this
    exact ih e
theorem length_mergeK : ∀ (more kvs : List (Key × V)), (mergeK kvs more).length ≤ kvs.length + more.length
  | [], kvs => by show kvs.length ≤ kvs.length + 0; omega
  | p :: r, kvs => by
    have h1 := length_mergeK r (putK kvs p.1 p.2)
    have h2 := length_putK kvs p.1 p.2
    show (mergeK (putK kvs p.1 p.2) r).length ≤ _
    rw [List.length_cons]; omega
theorem carries_of {P : Program} {w : World} : ∀ {kvs : List (Key × V)} {ws : List (Value × Value)}, VV (kvs.map fun kv => (kV kv.1, kv.2)) ws → ∃ rs, Carries (mixKind P w) ws rs ∧ KV kvs rs
  | [], _, r => by rw [List.map_nil] at r; cases r; exact ⟨[], True.intro, .nil⟩
  | p :: kvs, _, r => by
    rw [List.map_cons] at r
    cases r with
    | @cons a b as bs h t =>
      obtain ⟨rs, c, q⟩ := carries_of (P := P) (w := w) t
      obtain ⟨b1, b2⟩ := b
      exact ⟨(p.1, b2) :: rs, ⟨kV_is h.1, rfl, c⟩, .cons ⟨rfl, h.2⟩ q⟩
/-- {k: v, ..} with keys ints and texts; the new dict stands empty while the pairs are made -/
def tDisp (trs : List (TE × TE)) : TE := fun σ H Q => ∀ p, H p = none → tPairs trs σ (upd H p (.dK [])) fun ps H2 => H2 p = some (.dK []) ∧ ∃ kvs : List (Key × V), ps = kvs.map (fun kv => (kV kv.1, kv.2)) ∧ kvs.length ≤ 15 ∧ Q (.ref p) (upd H2 p (.dK (mergeK [] kvs)))
theorem pe_disp {X : Cx} {pos : Pos} {keys : List (Option Expr)} {values : List Expr} {trs : List (TE × TE)} (h : PPs X pos keys values trs) (hall : keys.all (·.isSome) = true) (hl : keys.length = values.length) (h0 : keys ≠ [])
    (h15 : keys.length ≤ 15) : PE X (.Dict keys values pos) (tDisp trs) := by
  intro pins s σ H Q I q
  have hn := I.hok.fresh (Nat.le_refl s.heap.objs.size)
  have I1 := I.laid (a := s.heap.objs.size) (o := .dK []) (h' := s.heap.push { cls := .type "dict", data := .dict #[] }) (t' := s.toks) (fun _ _ q => Heap.get?_push_of_some _ q) (Nat.le_refl _) (dk_empty s.heap I.big)
  refine wpAny_Dict_walk (knd := mixKind X.prog X.w) hall hl h0 h15 (thn (h pins _ σ _ _ I1 (q _ hn)) fun ws s2 ⟨ps, H2, I2, rel, e, kvs, ep, lk, q2⟩ => ?_)
  subst ep
  obtain ⟨rs, c, rk⟩ := carries_of (P := X.prog) (w := X.w) rel
  obtain ⟨z, hd, vs0, r0, dd⟩ := dk_of I2.hok e
  cases r0
  refine ⟨rs, c, dd, fun h' dd' hs => ⟨.ref s.heap.objs.size, _, ?_, rfl, q2⟩⟩
  have hz : (mergeK [] kvs).length ≤ sizeLine := by
    have h1 := length_mergeK kvs []
    rw [List.length_nil] at h1
    rw [sizeLine_eq]; omega
  have he : ∃ q, h'.get? s.heap.objs.size = some q := let ⟨q, _, _, hq, _⟩ := dd'; ⟨q, hq⟩
  exact d_write I2 (by rw [e]; exact True.intro) hs he (dk_new hz hd (rk.merge .nil) dd')


/-! ### methods -/


section
variable {X : Cx} {pins : List (Addr × Obj)} {σ : St} {H : Hp} {s : Shared} {a : Addr} {y d : V} {u r : Value} {o : Option V} {A : Around} {E : Value → Shared → Prop}
end

section
variable {X : Cx} {o e f : Expr} {apos cpos : Pos} {td ty tx : TE}
end

/-! ### dict(d): a copy -/
section
variable {X : Cx} {pins : List (Addr × Obj)} {σ : St} {H : Hp} {s : Shared} {a : Addr} {kvs : List (Key × V)} {A : Around} {E : Value → Shared → Prop}
end


section
variable {X : Cx} {pins : List (Addr × Obj)} {σ : St} {H : Hp} {s : Shared} {a : Addr} {y : V} {u : Value} {A : Around} {E : Value → Shared → Prop}
end
end L2

namespace Att
open PySem PySem.W PySem.Calls PyProof.Rows

/-! ### the script -/
theorem ints_of_wellAll {P : Params} {h : Heap} : ∀ (ns : List Int) (vs : List Value), WellAll P h vs (ns.map WData.int) → IntsAre vs ns := by
  intro ns
  induction ns with
  | nil =>
    intro vs w
    rw [List.map_nil] at w
    cases w
    exact .nil
  | cons n ns ih =>
    intro vs w
    rw [List.map_cons] at w
    cases w with
    | cons a b =>
      cases a
      exact .cons _ _ (ih _ b)

theorem script_of {l : OpenLaw} {n : Nat} (hn : l.most = some n) {P : Params} {h : Heap} {args : List WData} {vals : List Value}
    (hpre : l.row.toRowW.claim.pre args = true) (hwl : WellAll P h vals args) :
    ∃ a vs ns, vals = [Value.ref a] ∧ args = [WData.list (ns.map WData.int)] ∧ h.get? a = some { cls := .type "list", data := .seq vs.toArray } ∧ IntsAre vs ns ∧ ns.length ≤ n := by
  have hsh : WShape.hasAll [] args [.list .int] = true := (pre_splitW hpre).1
  have hc : l.pre.holds [] { args := args } = true := (pre_splitW hpre).2
  obtain ⟨d, r, rfl, h1, h2⟩ := hasAllW_cons hsh
  obtain rfl := hasAllW_nil h2
  obtain ⟨xs, rfl, h3⟩ := hasW_list h1
  obtain ⟨ns, rfl⟩ := items_int h3
  have hlen : ns.length ≤ n := by
    unfold OpenLaw.pre at hc
    have h4 : (WTm.not (.lt (.lit (.int (n : Int))) (.len (.arg 0)))).holds [] { args := [.list (ns.map .int)] } = true := by
      have h4 := (holds_andW hc).1
      rw [hn] at h4
      exact h4
    have h5 := condW_of h4 (w_not (w_lt w_lit (w_len_list (w_arg rfl))))
    rw [List.length_map] at h5
    refine Nat.le_of_not_lt fun q => ?_
    have q' : (n : Int) < ((ns.length : Nat) : Int) := by omega
    first
      | (rw [decide_eq_true q'] at h5; exact absurd h5 (by decide))
      | (simp at h5; omega)
  cases hwl with
  | cons w1 w2 =>
    cases w2
    cases w1 with
    | list ho hall => exact ⟨_, _, ns, rfl, rfl, ho, ints_of_wellAll ns _ hall, hlen⟩

theorem post_true (l : OpenLaw) (args : List WData) : l.row.toRowW.claim.post args (.bool true) args = true :=
  postW_of (r := l.row.toRowW) (X := (true == true))
    (show WShape.has [] (.bool true) .bool = true by first | rfl | decide | simp [WShape.has, WShape.arms, WShape.armsAll])
    (show (WTm.eq .res (.lit (.bool true))).value [] { args := args, res := some (.bool true), after := args } = some (.bool (true == true)) from w_eq_bool (w_res rfl) w_lit) rfl

/-! ### the attachment: holds_open's last premise (the goal 'hc' behind k_head) from a wpAny of the law's body -/

/-- the same from a codeAny of the CALL (for a layer whose function contracts speak of calls) -/
theorem attach_call {l : OpenLaw} {n : Nat} {q : Program} {loose : List Str} {XP : (Str → Option Value) → Heap → Prop} {YP : World → Heap → Prop} {d : DefRec}
    (hn : l.most = some n) (hdf : d.params.defaults = [])
    (call : ∀ (w : World) (s₀ s₁ : Shared) (mg mb : Str → Option Value) (fa : Addr) (o : Obj) (pm cd doc : Value) (a : Addr) (vs : List Value) (ns : List Int),
      Ground q loose [] XP w s₀ mg mb s₁.heap → YP w s₁.heap →
      s₁.heap.get? fa = some o → o.data = .func (docDef d.name d.params d.body d.scope pm cd doc) → s₁.heap.CodeRec cd d.name → mg d.name = some (.ref fa) →
      s₁.heap.get? a = some { cls := .type "list", data := .seq vs.toArray } → IntsAre vs ns → ns.length ≤ n → s₁.gens = #[] →
      codeAny (model l.prog w) callerA (.call (.ref fa) ⟨[.ref a], []⟩) (fun r s' => r = .ok (.ret (.bool true)) ∧ OldK s₁.heap s'.heap ∧ s'.os = s₁.os ∧ AllBare s'.gens) s₁) :
    WalkO q loose XP YP l.row.toRowW d [] (fun f vs => PySem.call f vs) := by
  intro w s₀ s₁ mg mb G Y fa o pm cd doc dV kV ho hd hcd hD hmg hg args vals as hpre hlay hrd hwl hlo
  obtain rfl : dV = .none := Dflts.none hD hdf
  obtain rfl : kV = .none := Dflts.noKw hD
  obtain ⟨a, vs, ns, rfl, rfl, hobj, hints, hlen⟩ := script_of hn hpre hwl
  refine enter_call (codeAny_mono (call w s₀ s₁ mg mb fa o pm cd doc a vs ns G Y ho (fd_plain hd) hcd hmg hobj hints hlen hg) fun r s' hq => ?_)
  obtain ⟨rfl, h2, h3, h4⟩ := hq
  exact ⟨.inl ⟨.bool true, .bool true, [], rfl, fun _ => rfl, .bool true, post_true l _, fun _ => ⟨List.Pairwise.nil, fun _ hm => (nomatch hm)⟩⟩, h2, h3, h4⟩


/-! ### rules over ANY heap (no ledger) from facts about the written part K: the library's own take a ledger (News) for what they write -/
section
variable {prog : Program} {w : World} {A : Around} {E : Value → Shared → Prop} {s : Shared} {K : Frag}





/-! the whole heap as the ledger: makes every rule that writes through a ledger a rule over any heap -/

end
end Att

namespace L2
open PySem PySem.Spec PyProof.Rows

theorem vals_ints : ∀ {vs : List Value} {ns : List Int}, IntsAre vs ns → Vals (ns.map V.int) vs
  | _, _, .nil => .nil
  | _, _, .cons n t h => .cons ⟨t, rfl⟩ (vals_ints h)

/-- nothing is tracked but the script, known to the object (or it is an object of the module) -/
def Only (H : Hp) : Prop := ∀ b, H b = none ∨ ∃ o xs, H b = some (.frz o (.lst xs))

/-- THE HEAD: the law's promise, at the heap behind the top. F, the promise of the law's def, may use that base is part of the heap (so K.In base, base.Ns mainGlobals mg stand in Mod) -/
theorem law_call {P : Program} {w : World} {K : PySem.W.Frag} {mg mb : Str → Option Value} {CX : CXT} {k : Nat} {fa a : Addr} {fd : FuncData} {x : Str} {sp : Sp} {s₁ : Shared} {vs : List Value} {ns : List Int}
    (KX : K.In s₁.heap) (hns : s₁.heap.Ns mainGlobals mg) (hb : s₁.heap.Ns builtinsNs mb) (hbb : ∀ x : Str, x ≠ "__name__" → mb x = bootBuiltins x) (hlim : s₁.heap.NoLimit) (hg : s₁.gens = #[])
    (ha : s₁.heap.get? a = some { cls := .type "list", data := .seq vs.toArray }) (hi : IntsAre vs ns) (hl : ns.length ≤ sizeLine) (hr : Room k callerA)
    (F : ∀ base : Heap, K.In base → base.Ns mainGlobals mg → FnOk P w K mg base CX k fa fd [x] sp) (hbind : ∀ (s : Shared) (u : Value), BindsTo s fd ⟨[u], []⟩ [(x, u)])
    (hsp : ∀ H : Hp, Only H → SqL K H a (ns.map V.int) → sp [.ref a] H (fun v _ => v = .bl true) fun _ _ _ => False)
    (hCX : ∀ H e s', CX [] H s₁ (fun _ _ _ => False) e s' → False) :
    codeAny (model P w) callerA (.call (.ref fa) ⟨[.ref a], []⟩) (fun r s' => r = .ok (.ret (.bool true)) ∧ OldK s₁.heap s'.heap ∧ s'.os = s₁.os ∧ AllBare s'.gens) s₁ := by
  have rv := vals_ints hi
  have lenV := hi.length
  -- from an abstract heap in which nothing but the script may be tracked
  have core : ∀ H : Hp, Only H → SqL K H a (ns.map V.int) → HOk P w H s₁.heap → (∀ b, H b ≠ none → b = a) → (H a ≠ none → K.lookup a = none) →
      codeAny (model P w) callerA (.call (.ref fa) ⟨[.ref a], []⟩) (fun r s' => r = .ok (.ret (.bool true)) ∧ OldK s₁.heap s'.heap ∧ s'.os = s₁.os ∧ AllBare s'.gens) s₁ := by
    intro H hO hS hok hA hK
    have base_of : ∀ {b : Addr} {o : Obj}, s₁.heap.get? b = some o → H b = none → (hidT s₁.heap H).get? b = some o := fun e n => hidT_get e n
    have noA : ∀ {b : Addr} {o : Obj} {es : Array DictEntry} {ep : Nat}, s₁.heap.get? b = some o → o.data = .dict es ep → H b = none := fun {b o es ep} e d => by
      cases q : H b with
      | none => rfl
      | some u =>
        have e' : b = a := hA b (by rw [q]; simp)
        subst e'
        rw [ha] at e; cases e
        have d' : Data.seq vs.toArray _ = Data.dict es ep := d
        cases d'
    have nsK : ∀ {b : Addr} {m : Str → Option Value}, s₁.heap.Ns b m → (hidT s₁.heap H).Ns b m := fun {b m} ⟨o, es, ep, e, d, r⟩ => ⟨o, es, ep, base_of e (noA e d), d, r⟩
    have hKb : K.In (hidT s₁.heap H) := fun b o e => base_of (KX b o e) (by
      cases q : H b with
      | none => rfl
      | some u =>
        have e' : b = a := hA b (by rw [q]; simp)
        subst e'
        rw [hK (by rw [q]; simp)] at e; cases e)
    have hM : Mod K mg (hidT s₁.heap H) := ⟨hKb, nsK hns, ⟨mb, nsK hb, hbb⟩, let ⟨mc, h1, h2⟩ := hlim; ⟨mc, nsK h1, h2⟩⟩
    have e0 : Env0 P w K mg (hidT s₁.heap H) callerA [] s₁ H := ⟨rfl, hM, fun b o e => of_hidT e, Nat.le_of_eq (hidT_size _ _), trivial, fun b hb => absurd (show b ∈ ([] : List Addr) from hb) (by simp), hok, .of_eq hg⟩
    refine codeAny_mono ((F _ hKb (nsK hns)).run callerA [] s₁ H ⟨[.ref a], []⟩ [.ref a] [.ref a] _ _ hr e0 (hbind s₁ (.ref a)) (.cons rfl .nil) (hsp H hO hS)) fun r s' h => ?_
    cases r with
    | error e => exact (hCX H e s' h).elim
    | ok fl =>
      cases fl with
      | next => exact False.elim h
      | brk => exact False.elim h
      | cont => exact False.elim h
      | ret u =>
        obtain ⟨v, H', os, bare, un, hok', r', q⟩ := h
        have q' : v = .bl true := q
        subst q'
        obtain rfl : u = Value.bool true := r'
        refine ⟨rfl, OldK.of_keep fun b o e => ?_, os, bare⟩
        cases q : H b with
        | none => exact un.keep b o e q (by intro z; exact absurd (show b ∈ ([] : List Addr) from z) (by simp)) (by simp)
        | some u =>
          rcases hO b with z | ⟨ob, xs, z⟩
          · rw [q] at z; cases z
          · have z2 := un.frzs b ob _ z
            obtain ⟨e1, _⟩ := hok b _ z
            obtain ⟨e2, _⟩ := hok' b _ z2
            rw [e] at e1; cases e1
            exact e2
  cases hk : K.lookup a with
  | some o =>
    -- the script is one of the module's own objects
    have e := KX a o hk
    rw [ha] at e
    cases e
    refine core (fun _ => none) (fun _ => .inl rfl) (.inr ⟨_, vs.toArray, _, hk, rfl, rfl, rfl, by rw [List.size_toArray, lenV]; exact hl, by simpa using rv⟩) (fun b u z => by have z' : (none : Option HO) = some u := z; cases z') (fun b z => absurd rfl z) fun z => absurd rfl z
  | none =>
    refine core (fun b => if b = a then some (.frz { cls := .type "list", data := .seq vs.toArray } (.lst (ns.map V.int))) else none) (fun b => ?_) (.inl (.inr ⟨{ cls := .type "list", data := .seq vs.toArray }, if_pos rfl⟩)) (fun b u z => ?_) (fun b z => ?_) fun _ => hk
    · by_cases hb : b = a
      · exact .inr ⟨_, _, if_pos hb⟩
      · exact .inl (if_neg hb)
    · by_cases hb : b = a
      · have z' := (if_pos hb).symm.trans z
        cases z'
        subst hb
        exact ⟨ha, by rw [List.length_map]; exact hl, vs, _, rv, ha⟩
      · have z' := (if_neg hb).symm.trans z
        cases z'
    · by_cases hb : b = a
      · exact hb
      · exact absurd (if_neg hb) z
end L2

namespace L2
open PySem PySem.Spec PyProof.Rows


/-- the goal that k_head leaves (case hc), from the law's promise. F gives the function object fd (K's own) once, then the promise over every base -/
theorem walk_of {l : PySem.W.OpenLaw} {n k : Nat} {q : Program} {loose : List Str} {XP : (Str → Option Value) → Heap → Prop} {YP : World → Heap → Prop} {d : DefRec} {K : Params → PySem.W.Frag} {CX : World → CXT} {sp : World → Sp} {x : Str}
    (hn : l.most = some n) (hn2 : n ≤ sizeLine) (hdf : d.params.defaults = []) (hr : Room k callerA)
    (hY : ∀ (w : World) (h : Heap), YP w h → (K w.params).In h)
    (F : ∀ (w : World) (mg : Str → Option Value) (fa : Addr) (h : Heap), (K w.params).In h → h.Ns mainGlobals mg → mg d.name = some (.ref fa) →
      ∃ fd : FuncData, (∀ (s : Shared) (u : Value), BindsTo s fd ⟨[u], []⟩ [(x, u)]) ∧
        ∀ base : Heap, (K w.params).In base → base.Ns mainGlobals mg → FnOk l.prog w (K w.params) mg base (CX w) k fa fd [x] (sp w))
    (hsp : ∀ (w : World) (H : Hp) (a : Addr) (ns : List Int), ns.length ≤ n → Only H → SqL (K w.params) H a (ns.map V.int) → sp w [.ref a] H (fun v _ => v = .bl true) fun _ _ _ => False)
    (hCX : ∀ (w : World) (H : Hp) (s : Shared) (e : Value) (s' : Shared), CX w [] H s (fun _ _ _ => False) e s' → False) :
    PySem.W.WalkO q loose XP YP l.row.toRowW d [] (fun f vs => PySem.call f vs) := by
  refine Att.attach_call hn hdf fun w s₀ s₁ mg mb fa o pm cd doc a vs ns G Y ho hd hcd hmg hobj hints hlen hg => ?_
  have KX := hY w _ Y
  obtain ⟨fd, hb, hF⟩ := F w mg fa _ KX G.T.g hmg
  exact law_call KX G.T.g G.T.b G.T.builtins G.T.nolimit hg hobj hints (Nat.le_trans hlen hn2) hr hF hb (fun H hO hS => hsp w H a ns hlen hO hS) fun H e s' => hCX w H s₁ e s'
end L2

/- THE LAST THEOREM (shape; LID, My.* are yours):
   My.Adr: a structure of the addresses that your layer names (classes, functions); My.Txt K t: a structure (Prop) of the equations over K;
   My.txt_mk : {K} {implicit addresses ..} (e1 : nsIn K mainGlobals "law" = some (some (.ref f))) (e2 : K.lookup f = some ⟨oc, od, .func (fnOf "law" "law" params body scope dV kV doc pm an cdv ct), sl⟩) (e3 : codeIn K cdv "law" = true) .. : ∃ t, My.Txt K t

set_option maxRecDepth 100000 in
set_option maxHeartbeats 0 in
theorem PySem.Challenge.cw_LID_holds : PySem.Challenge.rw_LID.Holds := by
  w_on; o_law; k_head; (case hw => w_witness2)
  k_fill
  refine L2.walk_of (l := PySem.Challenge.rw_LID) (n := 63) (k := 40) (x := "script") (CX := fun w => ..) (sp := fun _ => My.sp_law) rfl (by decide) rfl ⟨rfl, by decide, by decide⟩ (fun w h Y => PySem.W.kIn_of Y) ?F ?S ?C
  case F =>
    intro w mg fa h KX G hmg
    have T : ∃ t, My.Txt (L2.KOf KX) t := by
      dsimp only [L2.KOf]                          -- K must stand as «<heap const> w.params» for k_is
      refine' My.txt_mk ?e1 ?e2 ?e3 ..
      (case e1 => PySem.W.k_is)                    -- in the order: a name -> its address -> its object -> its parts
      (case e2 => PySem.W.k_is)
      ..
    obtain ⟨t, T⟩ := T
    have e0 := hmg.symm.trans (PySem.W.mg_of KX G T.law)
    cases e0                                       -- fa is the law's own address
    exact ⟨_, fun s u => .of_eq rfl, fun base kb nb => My.law_fn T kb nb⟩     -- if «.of_eq rfl» comes too early: refine' ⟨_, ?b, fun base kb nb => My.law_fn T kb nb⟩; exact fun s u => .of_eq rfl
  case S => exact fun w H a ns hl hO hS => ..
  case C => exact ..
(the tactic k_is has no namespace: write k_is) -/

/-! SHORT WORDS over the layer: a def of the text, its body, what a loop and a test want. -/
namespace L2
open PySem PySem.Spec PyProof.Rows

/-! ### the text by places -/
/-- the j-th statement of a class's body -/
def inClass (s : Stmt) (j : Nat) : Stmt := match s with
  | .ClassDef _ _ _ body _ _ _ _ _ _ _ => body.getD j (.Pass ⟨0, 0, 0, 0⟩)
  | _ => .Pass ⟨0, 0, 0, 0⟩
def defArgs (s : Stmt) : Arguments := match s with
  | .FunctionDef _ a _ _ _ _ _ _ _ _ => a
  | _ => { posonlyargs := [], args := [], vararg := none, kwonlyargs := [], kw_defaults := [], kwarg := none, defaults := [] }
def defBody (s : Stmt) : List Stmt := match s with
  | .FunctionDef _ _ b _ _ _ _ _ _ _ => b
  | _ => []
def defScope (s : Stmt) : Scope := match s with
  | .FunctionDef _ _ _ _ _ _ sc _ _ _ => sc
  | _ => { kind := .function, names := [], isGenerator := false, isCoroutine := false }

/-! ### no exception leaves a def -/
abbrev CX0 : CXT := fun _ _ _ _ _ _ => False
abbrev E0 : XK := fun _ _ _ => False
theorem pass0 {X : Cx} : Passes CX0 X E0 := fun _ _ _ _ _ _ _ h => h.elim

/-! ### a def (or method) of the text as it stands behind the top -/
structure Fun (K : PySem.W.Frag) (x qual : Str) (st : Stmt) (f : Addr) (fd : FuncData) : Prop where
  ex : ∃ (oc : Value) (od : Option Addr) (kV doc pm : Value) (an : Option Addr) (cdv ct : Value) (osl : Array (Option Value)),
    fd = PySem.W.fnOf x qual (defArgs st) (defBody st) (defScope st) .none kV doc pm an cdv ct ∧ K.lookup f = some ⟨oc, od, .func fd, osl⟩ ∧ PySem.W.codeIn K cdv qual = true
  kp : PySem.W.keepIn K (.ref f) = true
section
variable {P : Program} {w : World} {K : PySem.W.Frag} {mg : Str → Option Value} {base : Heap}
/-- THE RULE for a def: its body as a term of rules, and the reading of that term -/
theorem Fun.ok {x qual : Str} {st : Stmt} {f : Addr} {fd : FuncData} {N ps : List Str} {k : Nat} {sp : Sp} (F : Fun K x qual st f fd) (S : FnScope N ps (defScope st)) (len : ∀ vs H Q E, sp vs H Q E → vs.length = ps.length)
    (hbody : ∀ (cdv : Value) (A : Around) (outer : List Env) (s : Shared) (H : Hp) (vs : List V) (Q : VK) (E : XK), Room k (A.deeper (envOfC qual (defScope st) s.heap.objs.size f cdv)) → sp vs H Q E →
      ∃ t, PSs (cxOf CX0 P w K mg base N qual (defScope st) f cdv A outer s H E).nox (defBody st) t ∧ t { nx := fun _ H' => Q .non H', rt := Q } (start N vs) H) : FnOk P w K mg base CX0 (k + 1) f fd ps sp := by
  obtain ⟨oc, od, kV, doc, pm, an, cdv, ct, osl, rfl, lk, hcd⟩ := F.ex
  refine fn_of lk hcd S len fun A outer s H vs Q E hr hsp => ?_
  obtain ⟨t, h, q⟩ := hbody cdv A outer s H vs Q E hr hsp
  exact ⟨t, h.nox, q⟩
/-- how its arguments bind (no defaults): h is «fun _ _ _ _ _ _ us hl => match us, hl with | [_, _], _ => rfl», one _ a parameter -/
theorem Fun.binds {x qual : Str} {st : Stmt} {f : Addr} {fd : FuncData} {ps : List Str} (F : Fun K x qual st f fd)
    (h : ∀ (kV doc pm : Value) (an : Option Addr) (cdv ct : Value) (us : List Value), us.length = ps.length → bindArgs (PySem.W.fnOf x qual (defArgs st) (defBody st) (defScope st) .none kV doc pm an cdv ct) ⟨us, []⟩ = pure (ps.zip us)) : Binds K fd ps [] := by
  obtain ⟨oc, od, kV, doc, pm, an, cdv, ct, osl, rfl, lk, hcd⟩ := F.ex
  exact .all (h kV doc pm an cdv ct)
theorem fun_mk {x qual : Str} {st : Stmt} {f : Addr} {oc : Value} {od an : Option Addr} {osl : Array (Option Value)} {kV doc pm cdv ct : Value} (l : K.lookup f = some ⟨oc, od, .func (PySem.W.fnOf x qual (defArgs st) (defBody st) (defScope st) .none kV doc pm an cdv ct), osl⟩)
    (c : PySem.W.codeIn K cdv qual = true) (k : PySem.W.keepIn K (.ref f) = true) : Fun K x qual st f (PySem.W.fnOf x qual (defArgs st) (defBody st) (defScope st) .none kV doc pm an cdv ct) := ⟨⟨oc, od, kV, doc, pm, an, cdv, ct, osl, rfl, l, c⟩, k⟩
end
theorem small1000 {n : Nat} (h : n ≤ 1000) : n < sizeLine := Nat.lt_of_le_of_lt h (by decide)

/-! ### expressions in short: the name that stands in the i-th slot -/
section
variable {X : Cx}
theorem pv (i : Nat) {x : Str} {pos : Pos} (hN : X.N[i]? = some x := by rfl) (hv : Vis X.env.scope x := by first | exact Or.inl rfl | exact Or.inr (Or.inl rfl) | exact Or.inr (Or.inr rfl)) (hd : (x == ("__debug__" : Str)) = false := by decide)
    (hcd : (x == ("__classdict__" : Str)) = false := by decide) : PE X (.Name x pos) (tVar i) := pe_var hN hv hd hcd
end

/-! ### tests -/
theorem ite2 {c A B : Prop} [Decidable c] (h1 : c → A) (h2 : ¬ c → B) : if c then A else B := by
  by_cases h : c
  · rw [if_pos h]
    exact h1 h
  · rw [if_neg h]
    exact h2 h

/-! ### heaps -/
/-- all that was tracked is as it was -/
def Same (H H' : Hp) : Prop := ∀ b o, H b = some o → H' b = some o
theorem Same.refl (H : Hp) : Same H H := fun _ _ h => h
theorem Same.trans {H H1 H2 : Hp} (a : Same H H1) (b : Same H1 H2) : Same H H2 := fun c o h => b c o (a c o h)
theorem Same.free {H H' : Hp} (e : Same H H') {l : Addr} (h : H' l = Option.none) : H l = Option.none := by
  cases q : H l with
  | none => rfl
  | some o =>
    rw [e l o q] at h
    cases h
theorem Same.seq {K : PySem.W.Frag} {H H' : Hp} {a : Addr} {xs : List V} (e : Same H H') (h : SqL K H a xs) : SqL K H' a xs := by
  rcases h with (h | ⟨o, h⟩) | h
  · exact .inl (.inl (e _ _ h))
  · exact .inl (.inr ⟨o, e _ _ h⟩)
  · exact .inr h
/-! dict words -/
section
variable {X : Cx}
end

/-! ### a dict's pairs: keys that differ -/
section
variable {κ : Type} [DecidableEq κ]
end
end L2


set_option Elab.async false
set_option linter.all false
set_option maxRecDepth 100000
set_option maxHeartbeats 4000000
namespace L2
open PySem PySem.Spec PyProof.Rows

/-! ### a list comprehension of one clause, as a block of its own -/
def clStep (env : Env) (cs : List (Str × Addr)) (nk : Str × NameKind) : List (Str × Addr) :=
  if nk.2 == .free then (nk.1, (env.cells.lookup nk.1).getD 0) :: cs else cs
def clOf (scope : Scope) (env : Env) : List (Str × Addr) := scope.names.foldl (clStep env) []
theorem clos_of {scope : Scope} {env : Env} (h : ∀ y ∈ scope.names, y.2 = .free → ∃ c, env.cells.lookup y.1 = some c) : closureFor scope env = pure (clOf scope env) := by
  have all : ∀ (l : List (Str × NameKind)) (cs : List (Str × Addr)), (∀ y ∈ l, y.2 = .free → ∃ c, env.cells.lookup y.1 = some c) →
      (forIn l cs (fun x r => if (x.2 == NameKind.free) = true then do let a ← cellOf env x.1; pure (ForInStep.yield ((x.1, a) :: r)) else pure (ForInStep.yield r)) : Sem (List (Str × Addr))) = pure (l.foldl (clStep env) cs) := by
    intro l
    induction l with
    | nil => intro cs _; rfl
    | cons y r ih =>
      intro cs hy
      obtain ⟨n, k⟩ := y
      rw [List.forIn_cons, List.foldl_cons]
      by_cases hk : (k == NameKind.free) = true
      · obtain ⟨c, hc⟩ := hy (n, k) List.mem_cons_self (by simpa using hk)
        have e1 : cellOf env n = pure c := by unfold cellOf; rw [hc]
        have e2 : clStep env cs (n, k) = (n, c) :: cs := by unfold clStep; rw [if_pos hk, hc]; rfl
        rw [e2, ← ih _ fun z hz => hy z (List.mem_cons_of_mem _ hz)]
        dsimp only
        rw [if_pos hk, e1]
        rfl
      · have e2 : clStep env cs (n, k) = cs := by unfold clStep; rw [if_neg hk]
        rw [e2, ← ih _ fun z hz => hy z (List.mem_cons_of_mem _ hz)]
        dsimp only
        rw [if_neg hk]
        rfl
  have e := all scope.names [] h
  unfold closureFor clOf
  rw [← e]
  simp only [bind_pure]
theorem clOf_mem {env : Env} : ∀ {l : List (Str × NameKind)} {cs : List (Str × Addr)} {n : Str} {c : Addr}, (∀ y ∈ l, y.2 = .free → ∃ c, env.cells.lookup y.1 = some c) → (n, c) ∈ l.foldl (clStep env) cs → (n, c) ∈ cs ∨ env.cells.lookup n = some c
  | [], cs, n, c, _, m => .inl m
  | (y, k) :: r, cs, n, c, h, m => by
    rcases clOf_mem (fun z hz => h z (List.mem_cons_of_mem _ hz)) (show (n, c) ∈ r.foldl (clStep env) (clStep env cs (y, k)) from m) with q | q
    · unfold clStep at q
      by_cases hk : (k == NameKind.free) = true
      · rw [if_pos hk] at q
        rcases List.mem_cons.mp q with q | q
        · obtain ⟨d, hd⟩ := h (y, k) List.mem_cons_self (by simpa using hk)
          have hd : env.cells.lookup y = some d := hd
          injection q with q1 q2
          subst q1
          rw [hd] at q2
          subst q2
          exact .inr hd
        · exact .inl q
      · rw [if_neg hk] at q
        exact .inl q
    · exact .inr q
theorem clStep_sub {env : Env} : ∀ {l : List (Str × NameKind)} {cs : List (Str × Addr)} {p : Str × Addr}, p ∈ cs → p ∈ l.foldl (clStep env) cs
  | [], _, _, m => m
  | (y, k) :: r, cs, p, m => by
    refine clStep_sub (l := r) (cs := clStep env cs (y, k)) ?_
    unfold clStep
    split
    · exact List.mem_cons_of_mem _ m
    · exact m
theorem clOf_has {env : Env} : ∀ {l : List (Str × NameKind)} {cs : List (Str × Addr)} {n : Str}, (n, NameKind.free) ∈ l → ∃ c, (n, c) ∈ l.foldl (clStep env) cs
  | (y, k) :: r, cs, n, m => by
    rcases List.mem_cons.mp m with q | q
    · cases q
      exact ⟨(env.cells.lookup y).getD 0, clStep_sub (l := r) (by simp [clStep])⟩
    · exact clOf_has (l := r) q
theorem lookup_has {β : Type} : ∀ {l : List (Str × β)} {n : Str} {c : β}, (n, c) ∈ l → ∃ d, l.lookup n = some d
  | (k, v) :: r, n, c, m => by
    rw [List.lookup_cons]
    cases e : n == k with
    | true => exact ⟨v, rfl⟩
    | false =>
      rcases List.mem_cons.mp m with q | q
      · cases q
        simp at e
      · exact lookup_has q
theorem lookup_relabel_cell {env : Env} (hf : env.scope.kind = .function) : ∀ {names : List (Str × NameKind)} {x : Str}, names.lookup x = some .free → env.kindOf x = some .cell →
    (names.map fun (n, k) => if (k == NameKind.free && env.scope.kind == .function && env.kindOf n == some .cell) then (n, NameKind.cell) else (n, k)).lookup x = some .cell
  | [], _, h, _ => by simp at h
  | (n, k) :: r, x, h, hc => by
    have ih := @lookup_relabel_cell env hf r x
    show List.lookup x ((if (k == NameKind.free && env.scope.kind == .function && env.kindOf n == some .cell) = true then (n, NameKind.cell) else (n, k)) :: _) = _
    cases hx : x == n with
    | true =>
      have e : x = n := by simpa using hx
      subst e
      simp only [List.lookup_cons, hx] at h
      cases h
      rw [if_pos (by rw [hf, hc]; rfl)]
      simp [List.lookup_cons]
    | false =>
      simp only [List.lookup_cons, hx] at h
      by_cases hc' : (k == NameKind.free && env.scope.kind == .function && env.kindOf n == some .cell) = true
      · rw [if_pos hc']; simp only [List.lookup_cons, hx]; exact ih h hc
      · rw [if_neg hc']; simp only [List.lookup_cons, hx]; exact ih h hc

/-- the block's names N', each its own (none) or that of a slot around -/
def frOk (sc scope : Scope) (N : List Str) : List Str → List (Option Nat) → Bool
  | [], [] => true
  | _ :: r, none :: f => frOk sc scope N r f
  | y :: r, some i :: f => (N[i]? == some y) && (scope.names.lookup y == some .free) && (sc.names.lookup y == some .cell) && frOk sc scope N r f
  | _, _ => false
structure CompSc (sc scope : Scope) (N N' : List Str) (fr : List (Option Nat)) : Prop where
  kind : scope.kind = .function
  nocell : ∀ y ∈ scope.names, y.2 ≠ .cell
  names : ∀ y ∈ scope.names, y.2 = .local → scope.names.lookup y.1 = some .local
  free : ∀ y ∈ scope.names, y.2 = .free → sc.names.lookup y.1 = some .cell
  nd : N'.Nodup
  fr : frOk sc scope N N' fr = true
def frSt (fr : List (Option Nat)) (σ : St) : St := fr.map fun o => o.bind fun i => (σ[i]?).join
theorem frOk_len {sc scope : Scope} {N : List Str} : ∀ {N' : List Str} {fr : List (Option Nat)}, frOk sc scope N N' fr = true → fr.length = N'.length
  | [], [], _ => rfl
  | _ :: r, none :: f, h => by simp only [List.length_cons]; rw [frOk_len (N' := r) (fr := f) h]
  | y :: r, some i :: f, h => by
    unfold frOk at h
    simp only [Bool.and_eq_true] at h
    simp only [List.length_cons]; rw [frOk_len (N' := r) (fr := f) h.2]
  | [], _ :: _, h => by simp [frOk] at h
  | _ :: _, [], h => by simp [frOk] at h
theorem frOk_at {sc scope : Scope} {N : List Str} : ∀ {N' : List Str} {fr : List (Option Nat)} {j i : Nat} {y : Str}, frOk sc scope N N' fr = true → N'[j]? = some y → fr[j]? = some (some i) → N[i]? = some y ∧ scope.names.lookup y = some .free ∧ sc.names.lookup y = some .cell
  | [], [], _, _, _, _, h, _ => by simp at h
  | _ :: r, none :: f, 0, i, y, _, _, h => by simp at h
  | _ :: r, none :: f, j + 1, i, y, h, h1, h2 => frOk_at (N' := r) (fr := f) (j := j) h (by simpa using h1) (by simpa using h2)
  | z :: r, some k :: f, 0, i, y, h, h1, h2 => by
    unfold frOk at h
    simp only [Bool.and_eq_true, beq_iff_eq] at h
    have e1 : z = y := by simpa using h1
    have e2 : k = i := by simpa using h2
    subst e1 e2
    exact ⟨h.1.1.1, h.1.1.2, h.1.2⟩
  | z :: r, some k :: f, j + 1, i, y, h, h1, h2 => by
    unfold frOk at h
    simp only [Bool.and_eq_true] at h
    exact frOk_at (N' := r) (fr := f) (j := j) h.2 (by simpa using h1) (by simpa using h2)
  | [], _ :: _, _, _, _, h, _, _ => by simp [frOk] at h
  | _ :: _, [], _, _, _, h, _, _ => by simp [frOk] at h

def cxComp (X : Cx) (scope : Scope) (C : Addr) (N' : List Str) (s₀ : Shared) (H₀ : Hp) (fp : List Addr) : Cx where
  prog := X.prog
  w := X.w
  K := X.K
  mg := X.mg
  base := X.base
  A := X.A
  N := N'
  s₀ := s₀
  H₀ := H₀
  env := compEnvC scope (clOf scope X.env) C X.env
  outer := X.stack
  stack := X.stack
  ex := fp
  calm := true
  fn := fun _ => false
  pn := []
  xe := fun _ _ => False

section
variable {X : Cx} {scope : Scope} {N' : List Str} {fr : List (Option Nat)} {pins : List (Addr × Obj)} {σ : St} {H : Hp} {s : Shared} {fp : List Addr}

theorem Inv.block {h1 : Heap} {t1 : Nat} {m : Str → Option Value} (S : CompSc X.env.scope scope X.N N' fr) (hc : X.calm = true) (I : Inv X pins σ H s) (hf : ∀ b ∈ fp, FpOk X pins H b) (hlt : ∀ b ∈ fp, b < s.heap.objs.size)
    (hns : h1.Ns s.heap.objs.size m) (old : ∀ b o, s.heap.get? b = some o → h1.get? b = some o) :
    Inv (cxComp X scope s.heap.objs.size N' s H fp) [] (frSt fr σ) H { s with heap := h1, toks := t1 } := by
  have hfree : ∀ y ∈ scope.names, y.2 = .free → ∃ c, X.env.cells.lookup y.1 = some c := fun y hy e => I.ok.has y.1 (.inl (S.free y hy e))
  have cl1 : ∀ y c, (clOf scope X.env).lookup y = some c → X.env.cells.lookup y = some c := fun y c e => by
    rcases clOf_mem (cs := []) hfree (PySem.mem_of_lookup e) with q | q
    · exact absurd q (by simp)
    · exact q
  have has : ∀ y, ((relabel scope X.env).names.lookup y = some .cell ∨ (relabel scope X.env).names.lookup y = some .free) → ∃ c, (clOf scope X.env).lookup y = some c := fun y hy => by
    have q : (y, NameKind.free) ∈ scope.names := by
      have m : ∃ k, (k = NameKind.cell ∨ k = NameKind.free) ∧ (y, k) ∈ (relabel scope X.env).names := by
        rcases hy with hy | hy
        · exact ⟨_, .inl rfl, PySem.mem_of_lookup hy⟩
        · exact ⟨_, .inr rfl, PySem.mem_of_lookup hy⟩
      obtain ⟨k, hk, m⟩ := m
      obtain ⟨⟨n, k0⟩, hm, e⟩ := List.mem_map.mp m
      dsimp only at e
      by_cases hq : (k0 == NameKind.free && X.env.scope.kind == .function && X.env.kindOf n == some .cell) = true
      · rw [if_pos hq] at e
        simp only [Bool.and_eq_true, beq_iff_eq] at hq
        injection e with e1 e2
        rw [← e1, ← hq.1.1]
        exact hm
      · rw [if_neg hq] at e
        injection e with e1 e2
        subst e1 e2
        rcases hk with hk | hk
        · exact absurd hk (S.nocell _ hm)
        · rw [← hk]; exact hm
    obtain ⟨c, mc⟩ := clOf_has (env := X.env) (cs := []) q
    exact lookup_has mc
  have ltC : ∀ y c, X.env.cells.lookup y = some c → c < s.heap.objs.size := fun y c e => by
    obtain ⟨v, q⟩ := I.cell y c e
    exact q.lt
  refine ⟨⟨I.ok.mod, S.kind, I.ok.glob, I.ok.blt, Nat.le_refl _, fun x y c e1 e2 => I.ok.inj x y c (cl1 x c e1) (cl1 y c e2), has, fun x c e _ => absurd e (by simp [cxComp]), fun _ => I.ok.hd hc, I.ok.frames, .inl rfl,
      fun b hb => ⟨Nat.ne_of_lt (hlt b hb), fun x c e => (hf b hb).2.2.2.2.1 x c (cl1 x c e)⟩, I.bs, Nat.le_trans I.ok.bsz I.sz, fun b o e hb => ?_, fun b hb z => ?_, I.stack, I.stkFree⟩,
    rfl, I.bare, Un.kept old, ⟨m, hns, fun i x v e1 e2 e3 => ?_⟩, fun x c e => ?_, I.fresh, fun x c e => I.freeC x c (cl1 x c e), fun p hp => absurd hp (by simp [cxComp]), I.hok.kept old, ?_⟩
  · rcases (hf b hb).2.2.2.1 with z | z
    · exact I.ok.noex b o e z
    · exact absurd (Nat.lt_of_lt_of_le (Heap.lt_size e) (Nat.le_trans I.ok.bsz z)) (Nat.lt_irrefl _)
  · rcases List.mem_cons.mp (I.stkSub b z) with q | q
    · exact (hf b hb).2.1 q
    · exact (hf b hb).2.2.1 q
  · -- a name of the block at its entry: one from around
    have e2 : (frSt fr σ)[i]? = some (some v) := e2
    unfold frSt at e2
    rw [List.getElem?_map] at e2
    cases q : fr[i]? with
    | none => rw [q] at e2; cases e2
    | some o =>
      rw [q] at e2
      cases o with
      | none => cases e2
      | some j =>
        have e2 : (σ[j]?).join = some v := Option.some.inj e2
        have e4 : σ[j]? = some (some v) := by
          cases r : σ[j]? with
          | none => rw [r] at e2; cases e2
          | some w => rw [r] at e2; exact congrArg some e2
        obtain ⟨f1, f2, f3⟩ := frOk_at S.fr e1 q
        obtain ⟨m0, _, hl⟩ := I.loc
        obtain ⟨u, r, l⟩ := hl j x v f1 e4 (.inr (.inl f3))
        refine ⟨u, r, .inr ⟨.inl (lookup_relabel_cell I.ok.kind f2 f3), ?_⟩⟩
        obtain ⟨c, hc⟩ := has x (.inl (lookup_relabel_cell I.ok.kind f2 f3))
        rcases l with ⟨k, _⟩ | ⟨_, c', hc', ho⟩
        · have k : X.env.scope.names.lookup x = some .local := k
          rw [f3] at k; cases k
        · have e : c = c' := Option.some.inj ((cl1 x c hc).symm.trans hc')
          subst e
          obtain ⟨o, ho, hd⟩ := ho
          exact ⟨c, hc, o, old c o ho, hd⟩
  · obtain ⟨v, o, ho, hd⟩ := I.cell x c (cl1 x c e)
    exact ⟨v, o, old c o ho, hd⟩
  · show (frSt fr σ).length = N'.length
    unfold frSt
    rw [List.length_map]
    exact frOk_len S.fr
end

def PTs (X : Cx) (ifs : List Expr) (t : TT) : Prop :=
  ∀ (pins : List (Addr × Obj)) (s : Shared) (σ : St) (H : Hp) (Q : Bool → Hp → Prop), Inv X pins σ H s → t σ H Q →
    wpAny (model X.prog X.w) X.A (forIn ifs true fun c r => if r = true then do let ok ← isTrue c X.env (eval c X.env); pure (ForInStep.yield ok) else pure (ForInStep.yield r)) (TP X pins σ Q) X.xe s
def tYes : TT := fun _ H Q => Q true H
theorem pts_nil {X : Cx} : PTs X [] tYes := fun _ _ _ H _ I q => wpAny_tests_nil ⟨H, I, q⟩
theorem pts_one {X : Cx} {c : Expr} {t : TT} (h : PT X c t) : PTs X [c] t := fun pins s σ H Q I q => wpAny_tests_one (h pins s σ H Q I q)

theorem compLoop_any {prog : Program} {w : World} {A : Around} {R : Result → Shared → Prop} {s : Shared} {elt target iter : Expr} {ifs : List Expr} {scope : Scope} {pos : Pos} {it acc : Value} {env : Env} (I : Nat → Shared → Prop)
    (turn : ∀ n s, I n s → wpAny (model prog w) A (pyNext it) (fun r s₁ => match r with
      | none => R (.ok .next) s₁
      | some v => wpAny (model prog w) A (letOwnedTupleGo target it v) (fun _ s₀ => wpAny (model prog w) A (assign target env v) (fun _ s₂ =>
          wpAny (model prog w) A (forIn ifs true fun c r => if r = true then do let ok ← isTrue c env (eval c env); pure (ForInStep.yield ok) else pure (ForInStep.yield r)) (fun ok s₃ =>
            if ok = true then wpAny (model prog w) A (eval elt env) (fun x s₄ =>
              wpAny (model prog w) A (call (.builtin "list.append") [acc, x]) (fun _ s₅ => ∃ m, m < n ∧ I m s₅) (fun _ _ => False) s₄) (fun _ _ => False) s₃
            else ∃ m, m < n ∧ I m s₃) (fun _ _ => False) s₂) (fun _ _ => False) s₀) (fun _ _ => False) s₁) (fun _ _ => False) s)
    (n : Nat) (h : I n s) :
    codeAny (model prog w) A (.compLoop (.ListComp elt [⟨target, iter, ifs, 0⟩] scope pos) 0 it acc env) R s := by
  refine codeAny_loop rfl I (fun n s hI => ?_) n h
  show wpAny _ A ((compTurn (.ListComp elt [⟨target, iter, ifs, 0⟩] scope pos) 0 it acc env).onRaise (fun x => do noteFrame x env; theTreesLotGoes x)) _ _ s
  refine wpAny_noted ?_
  rw [compTurn_list]
  refine wpAny_bind (wpAny_standAt (wpAny_bind (wpAny_mono (turn n s hI) (fun r s₁ h₁ => ?_) fun _ _ h' => h'.elim)))
  cases r with
  | none => exact wpAny_pure h₁
  | some v =>
    refine wpAny_bind (wpAny_mono h₁ (fun _ s₀ h₀ => ?_) fun _ _ h' => h'.elim)
    refine wpAny_bind (wpAny_mono h₀ (fun _ s₂ h₂ => wpAny_bind (wpAny_mono h₂ (fun ok s₃ h₃ => ?_) fun _ _ h' => h'.elim)) fun _ _ h' => h'.elim)
    cases ok with
    | false => exact wpAny_pure ⟨rfl, h₃⟩
    | true =>
      exact wpAny_bind (wpAny_bind (wpAny_mono h₃ (fun x s₄ h₄ => wpAny_bind (wpAny_mono h₄ (fun _ s₅ h₅ => wpAny_pure (wpAny_pure ⟨rfl, h₅⟩)) fun _ _ h' => h'.elim)) fun _ _ h' => h'.elim))

/-- W: by the turn, a measure, the block's names, what has come, the heap -/
def tComp (fr : List (Option Nat)) (wi : TI) (g : TG) (tt : TT) (te : TE) : TE := fun σ H Q => wi σ H fun J H1 => ∀ D, H1 D = none →
  ∃ W : Nat → Nat → St → List V → Hp → Prop, (∃ m, W 0 m (frSt fr σ) [] (upd H1 D (.lst []))) ∧ ∀ i m σ ys H, W i m σ ys H →
    (J.stop i H ∧ Q (.ref D) H) ∨ (J.go i H ∧ ∃ N : St → List V → Hp → Prop, (∀ σ' ys' H', N σ' ys' H' → ∃ m', m' < m ∧ W (i + 1) m' σ' ys' H') ∧ ∀ x H', J.yld i H x H' → g x σ H' fun σ2 H2 => tt σ2 H2 fun b H3 =>
      if b = true then te σ2 H3 fun v H4 => H4 D = some (.lst ys) ∧ ys.length < sizeLine ∧ N σ2 (ys ++ [v]) (upd H4 D (.lst (ys ++ [v])))
      else N σ2 ys H3)

theorem comp_run {X : Cx} {elt tg iter : Expr} {ifs : List Expr} {scope : Scope} {pos cpos : Pos} {wi : TI} {g : TG} {tt : TT} {te : TE} {N' : List Str} {fr : List (Option Nat)} (S : CompSc X.env.scope scope X.N N' fr) (hc : X.calm = true) (hi : PI X tg iter wi)
    (hg : ∀ C s0 H0 fp, PG (cxComp X scope C N' s0 H0 fp) tg g) (ht : ∀ C s0 H0 fp, PTs (cxComp X scope C N' s0 H0 fp) ifs tt) (he : ∀ C s0 H0 fp, PE (cxComp X scope C N' s0 H0 fp) elt te)
    (hs : ∀ x, foldedSetIterable iter X.env x = pure x) {pins : List (Addr × Obj)} {s : Shared} {σ : St} {H : Hp} {Q : VK} (I : Inv X pins σ H s) (h : tComp fr wi g tt te σ H Q) (use : Option (Value → Sem Unit)) (QQ : Value → Shared → Prop)
    (fin : ∀ (D C : Addr) (H5 : Hp) (s6 : Shared), Inv X pins σ H5 s6 → Q (.ref D) H5 → H5 C = none → C ≠ X.env.locals → X.s₀.heap.objs.size ≤ C → (∀ x c, X.env.cells.lookup x = some c → c ≠ C) → (∀ p ∈ X.pn ++ pins, p.1 ≠ C) → (∃ m, s6.heap.Ns C m) →
      compPost (model X.prog X.w) X.A X.xe use QQ (.ref D) C (.ok .next) s6) :
    wpAny (model X.prog X.w) X.A (comprehension (.ListComp elt [⟨tg, iter, ifs, 0⟩] scope pos) scope X.env cpos (newList []) false (eval iter X.env) use) QQ X.xe s := by
  have hfree : ∀ y ∈ scope.names, y.2 = .free → ∃ c, X.env.cells.lookup y.1 = some c := fun y hy e => I.ok.has y.1 (.inl (S.free y hy e))
  refine wpAny_comprehension_free (use := use) rfl hs (clos_of hfree) S.kind S.names (thn (hi pins s σ H _ I h) fun v s1 h1 => thn h1 fun itv s2 h2 => ?_)
  obtain ⟨it, fp, tn, J, H2, e, I2, T, st2, f2, hD⟩ := h2
  subst e
  obtain ⟨W, ⟨m0, w0⟩, turn⟩ := hD s2.heap.objs.size I2.fresh
  -- the new list
  refine wpAny_newObj_type ?_
  have I3 : Inv X pins σ (upd H2 s2.heap.objs.size (.lst [])) { s2 with heap := s2.heap.push { cls := .type "list", data := .seq ([] : List Value).toArray }, toks := s2.toks } := I2.lnew (ys := []) .nil (Nat.zero_le _)
  revert I3
  generalize eD : s2.heap.objs.size = D at *
  generalize e3 : ({ s2 with heap := s2.heap.push { cls := .type "list", data := .seq ([] : List Value).toArray }, toks := s2.toks } : Shared) = s3
  intro I3
  have k3 : ∀ b o, s2.heap.get? b = some o → s3.heap.get? b = some o := fun b o e => by rw [← e3]; exact Heap.get?_push_of_some _ e
  refine wpAny_newFunctionEnv S.nocell (by intro y hy; simp at hy) (fun h4 hns hsb => ?_) S.kind
  have old : ∀ b o, s3.heap.get? b = some o → h4.get? b = some o := fun b o e => hsb.extBut b o (Nat.ne_of_lt (Heap.lt_size e)) (Heap.get?_push_of_some _ e)
  have fD : ∀ b ∈ fp, b ≠ D := fun b hb z => by
    obtain ⟨o, ho, _⟩ := T.obj _ _ st2 b hb
    exact absurd (Heap.lt_size ho) (by rw [z, eD]; exact Nat.lt_irrefl _)
  have f3 : ∀ b ∈ fp, FpOk X pins (upd H2 D (.lst [])) b := fun b hb => ⟨by rw [upd_ne (fD b hb)]; exact (f2 b hb).1, (f2 b hb).2⟩
  have l3 : ∀ b ∈ fp, b < s3.heap.objs.size := fun b hb => by
    obtain ⟨o, ho, _⟩ := T.obj _ _ st2 b hb
    exact Heap.lt_size (k3 b o ho)
  have I4 := Inv.block (t1 := s3.toks + ([] : List (Str × Value)).length) (scope := scope) S hc I3 f3 l3 hns old
  generalize eX : cxComp X scope s3.heap.objs.size N' s3 (upd H2 D (.lst [])) fp = X' at I4
  have st4 : tn 0 h4 := T.keep _ _ _ st2 fun b hb o e => old b o (k3 b o e)
  have stat : ∀ {H' : Hp}, (∀ b ∈ fp, H' b = none) → ∀ b ∈ fp, FpOk X' [] H' b := fun {H'} hn b hb => by
    subst eX
    refine ⟨hn b hb, Nat.ne_of_lt (l3 b hb), ?_, .inl hb, ?_, fun p hp => absurd hp (by simp [cxComp])⟩
    · exact I4.ok.exfs b hb
    · exact (I4.ok.exf b hb).2
  show codeAny _ _ (.compStart _ 0 (.ref it) (.ref D) (compEnvC scope (clOf scope X.env) s3.heap.objs.size X.env)) (compPost _ _ _ use _ (.ref D) s3.heap.objs.size) _
  have hX : X'.prog = X.prog ∧ X'.w = X.w ∧ X'.K = X.K ∧ X'.A = X.A ∧ X'.calm = true ∧ X'.env = compEnvC scope (clOf scope X.env) s3.heap.objs.size X.env ∧ X'.xe = (fun _ _ => False) ∧ X'.s₀ = s3 ∧ X'.H₀ = upd H2 D (.lst []) ∧ X'.fs = frs X.stack ∧ X'.ex = fp := by
    subst eX
    exact ⟨rfl, rfl, rfl, rfl, rfl, rfl, rfl, rfl, rfl, rfl, rfl⟩
  have hg' : PG X' tg g := by subst eX; exact hg _ _ _ _
  have ht' : PTs X' ifs tt := by subst eX; exact ht _ _ _ _
  have he' : PE X' elt te := by subst eX; exact he _ _ _ _
  clear eX
  obtain ⟨x1, x2, x3, x4, x5, x6, x7, x8, x9, x10, x11⟩ := hX
  have loop : codeAny (model X.prog X.w) X.A (.compLoop (.ListComp elt [⟨tg, iter, ifs, 0⟩] scope pos) 0 (.ref it) (.ref D) (compEnvC scope (clOf scope X.env) s3.heap.objs.size X.env))
      (compPost (model X.prog X.w) X.A X.xe use QQ (.ref D) s3.heap.objs.size) { s3 with heap := h4, toks := s3.toks + ([] : List (Str × Value)).length } := by
    refine compLoop_any (fun n s' => ∃ i σ' ys H', Inv X' [] σ' H' s' ∧ tn i s'.heap ∧ (∀ b ∈ fp, H' b = none) ∧ W i n σ' ys H') ?_ m0 ⟨0, _, [], _, I4, st4, fun b hb => (f3 b hb).1, w0⟩
    rintro n s5 ⟨i, σ5, ys, H5, I5, st5, fr5, w5⟩
    rcases turn i n σ5 ys H5 w5 with ⟨stop, qn⟩ | ⟨go, N, hN, step⟩
    · have z := T.done X' x1 x2 x3 x5 i [] s5 σ5 H5 (fun _ _ => False) I5 (stat fr5) st5 stop
      rw [x4] at z
      refine thn z fun r s6 ⟨hr, I6⟩ => ?_
      subst hr
      -- the end
      obtain ⟨mm, hn6, _⟩ := I6.loc
      have hL : X'.env.locals = s3.heap.objs.size := by rw [x6]; rfl
      rw [hL] at hn6
      have nC : H5 s3.heap.objs.size = none := by have := I6.free; rw [hL] at this; exact this
      have base := I6.base
      rw [x8, x9, x10, x11] at base
      have hok : HOk X.prog X.w H5 s6.heap := by have q := I6.hok; rw [x1, x2] at q; exact q
      have os : s6.os = s3.os := by have := I6.os; rw [x8] at this; exact this
      have IX : Inv X pins σ H5 s6 := I3.call' os base hok I6.bare fun b hb => ⟨(f3 b hb).2.2.2.1, (f3 b hb).2.1, (f3 b hb).2.2.2.2.1, (f3 b hb).2.2.2.2.2⟩
      refine fin D s3.heap.objs.size H5 s6 IX qn nC (Nat.ne_of_gt I3.lt) I3.sz (fun x c e => ?_) (fun p hp => ?_) ⟨mm, hn6⟩
      · obtain ⟨v, q⟩ := I3.cell x c e
        exact Nat.ne_of_lt q.lt
      · exact Nat.ne_of_lt (Heap.lt_size (I3.pin p hp).1)
    · have z := T.item X' x1 x2 x3 x5 i [] s5 σ5 H5 (fun _ _ => False) I5 (stat fr5) st5 go
      rw [x4] at z
      refine thn z fun r s6 ⟨u, hr, h6⟩ => ?_
      subst hr
      refine thn h6 fun _ s7 ⟨x, H7, I7, r7, y7, st7, fr7⟩ => ?_
      have I7' := I7.pinned (stat fr7) (T.obj _ _ st7)
      have again : ∀ {σ' : St} {H' : Hp} {s' : Shared}, Inv X' ([] ++ pinsAt fp s7.heap) σ' H' s' → Inv X' [] σ' H' s' ∧ tn (i + 1) s'.heap ∧ ∀ b ∈ fp, H' b = none := fun {σ' H' s'} J => by
        refine ⟨J.unpinned, T.keep _ _ _ st7 fun b hb o e => (J.pin (b, o) (List.mem_append_right _ (List.mem_append_right _ (mem_pinsAt hb e)))).1, fun b hb => ?_⟩
        obtain ⟨o, e, d⟩ := T.obj _ _ st7 b hb
        exact (J.pin (b, o) (List.mem_append_right _ (List.mem_append_right _ (mem_pinsAt hb e)))).2.1
      have z := hg' _ s7 σ5 H7 x u _ I7' r7 (step x H7 y7)
      rw [x1, x2, x4, x6, x7] at z
      refine thn z fun _ s8 ⟨σ8, H8, I8, q8⟩ => ?_
      have z := ht' _ s8 σ8 H8 _ I8 q8
      rw [x1, x2, x4, x6, x7] at z
      refine thn z fun b s9 ⟨H9, I9, q9⟩ => ?_
      cases b with
      | false =>
        rw [if_neg Bool.false_ne_true] at q9 ⊢
        obtain ⟨m', hm, w9⟩ := hN _ _ _ q9
        obtain ⟨a1, a2, a3⟩ := again I9
        exact ⟨m', hm, i + 1, σ8, ys, H9, a1, a2, a3, w9⟩
      | true =>
        rw [if_pos rfl] at q9 ⊢
        have z := he' _ s9 σ8 H9 _ I9 q9
        rw [x1, x2, x4, x6, x7] at z
        refine thn z fun v' s10 ⟨y, H10, I10, r10, hD10, hz, w10⟩ => ?_
        have z := mt_append (X := X') _ s10 σ8 H10 (.ref D) [y] (.ref D) [v'] (fun _ H' => N σ8 (ys ++ [y]) H') I10 rfl (.cons r10 .nil) ⟨D, ys, y, rfl, rfl, hD10, hz, w10⟩
        rw [x1, x2, x4, x7] at z
        refine thn z fun _ s11 ⟨_, H11, I11, _, w11⟩ => ?_
        obtain ⟨m', hm, w11⟩ := hN _ _ _ w11
        obtain ⟨a1, a2, a3⟩ := again I11
        exact ⟨m', hm, i + 1, σ8, _, H11, a1, a2, a3, w11⟩
  exact codeAny_compStart_list loop (T.self _ 0 _ _ _ st4 loop)
theorem pe_comp {X : Cx} {elt tg iter : Expr} {ifs : List Expr} {scope : Scope} {pos : Pos} {wi : TI} {g : TG} {tt : TT} {te : TE} {N' : List Str} {fr : List (Option Nat)} (S : CompSc X.env.scope scope X.N N' fr) (hc : X.calm = true) (hi : PI X tg iter wi)
    (hg : ∀ C s0 H0 fp, PG (cxComp X scope C N' s0 H0 fp) tg g) (ht : ∀ C s0 H0 fp, PTs (cxComp X scope C N' s0 H0 fp) ifs tt) (he : ∀ C s0 H0 fp, PE (cxComp X scope C N' s0 H0 fp) elt te)
    (hs : ∀ x, foldedSetIterable iter X.env x = pure x := by intro _; rfl) : PE X (.ListComp elt [⟨tg, iter, ifs, 0⟩] scope pos) (tComp fr wi g tt te) := by
  intro pins s σ H Q I h
  rw [eval_ListComp]
  refine comp_run S hc hi hg ht he hs I h none _ fun D C H5 s6 IX q nC c1 c2 c3 c4 hm => ?_
  obtain ⟨m, hm⟩ := hm
  refine ⟨m, hm, fun h' hs' => ⟨.ref D, H5, IX.turned (t' := s6.toks) (it := C) (fun b o hb e => hs'.extBut b o hb e) nC c1 (.inr c2) c3 c4, rfl, q⟩⟩
/-- name = [..], the name a local one -/
theorem ps_comp {X : Cx} {elt tg iter : Expr} {ifs : List Expr} {scope : Scope} {pos spos py : Pos} {y : Str} {i : Nat} {wi : TI} {g : TG} {tt : TT} {te : TE} {N' : List Str} {fr : List (Option Nat)} (hN : X.N.Nodup) (hy : X.N[i]? = some y) (hl : X.env.scope.names.lookup y = some .local)
    (S : CompSc X.env.scope scope X.N N' fr) (hc : X.calm = true) (hi : PI X tg iter wi)
    (hg : ∀ C s0 H0 fp, PG (cxComp X scope C N' s0 H0 fp) tg g) (ht : ∀ C s0 H0 fp, PTs (cxComp X scope C N' s0 H0 fp) ifs tt) (he : ∀ C s0 H0 fp, PE (cxComp X scope C N' s0 H0 fp) elt te)
    (hs : ∀ x, foldedSetIterable iter X.env x = pure x := by intro _; rfl) (hsw : swapsWith (.ListComp elt [⟨tg, iter, ifs, 0⟩] scope pos) (some (.Name y py)) spos.line X.env = pure true := by rfl) :
    PS X (.Assign [.Name y py] (.ListComp elt [⟨tg, iter, ifs, 0⟩] scope pos) spos) (tAsg (tComp fr wi g tt te) (gName i)) := by
  intro pins s σ H D I h
  rw [exec_Assign_Name_used _ _ _ _ hsw]
  refine wpAny_bind (wpAny_standAt (wpAny_bind ?_))
  show wpAny _ X.A (do let _ ← comprehension (.ListComp elt [⟨tg, iter, ifs, 0⟩] scope pos) scope X.env _ (newList []) false (eval iter X.env) (some (assign (.Name y py) X.env))) _ _ s
  refine wpAny_bind (thn (comp_run S hc hi hg ht he hs I h (some (assign (.Name y py) X.env)) (fun _ s' => SP X pins D .next s') fun L C H5 s6 IX q nC c1 c2 c3 c4 hm => ?_) fun _ s' hq => wpAny_pure (wpAny_pure hq))
  obtain ⟨m, hm⟩ := hm
  show wpAny _ X.A (assign (.Name y py) X.env (.ref L)) _ _ _
  refine wpAny_assign_Name (store_ok2 IX hN hy (.inl hl) (show RelV (.ref L) (Value.ref L) from rfl) (fun s7 I7 hch => ?_) (.inr hl))
  obtain ⟨a, hsb, ha⟩ := hch
  have hCa : C ≠ a := by
    rcases ha with ha | ha
    · rw [ha]; exact c1
    · exact (c3 _ _ ha).symm
  refine ⟨m, hm.at' (fun o e => (hsb.2 C hCa).trans e), fun h' hs' => ⟨_, H5, I7.turned (t' := s7.toks) (it := C) (fun b o hb e => hs'.extBut b o hb e) nC c1 (.inr c2) c3 c4, q⟩⟩

/-! ### the forms one uses -/
theorem comp_range {lo : Int} {n : Nat} {g : TG} {tt : TT} {te : TE} {R : Hp → Prop} {D : Addr} {σ0 : St} {H0 : Hp} (Pv : Nat → St → List V → Hp → Prop) (h0 : Pv 0 σ0 [] H0)
    (hs : ∀ i σ ys H, i < n → Pv i σ ys H → g (.int (lo + i)) σ H fun σ2 H2 => tt σ2 H2 fun b H3 =>
      if b = true then te σ2 H3 fun v H4 => H4 D = some (.lst ys) ∧ ys.length < sizeLine ∧ Pv (i + 1) σ2 (ys ++ [v]) (upd H4 D (.lst (ys ++ [v]))) else Pv (i + 1) σ2 ys H3)
    (hd : ∀ σ ys H, Pv n σ ys H → R H) :
    ∃ W : Nat → Nat → St → List V → Hp → Prop, (∃ m, W 0 m σ0 [] H0) ∧ ∀ i m σ ys H, W i m σ ys H →
      ((Itr lo n).stop i H ∧ R H) ∨ ((Itr lo n).go i H ∧ ∃ N : St → List V → Hp → Prop, (∀ σ' ys' H', N σ' ys' H' → ∃ m', m' < m ∧ W (i + 1) m' σ' ys' H') ∧ ∀ x H', (Itr lo n).yld i H x H' → g x σ H' fun σ2 H2 => tt σ2 H2 fun b H3 =>
        if b = true then te σ2 H3 fun v H4 => H4 D = some (.lst ys) ∧ ys.length < sizeLine ∧ N σ2 (ys ++ [v]) (upd H4 D (.lst (ys ++ [v]))) else N σ2 ys H3) := by
  refine ⟨fun i m σ ys H => m = n - i ∧ i ≤ n ∧ Pv i σ ys H, ⟨n, by simp, Nat.zero_le _, h0⟩, ?_⟩
  rintro i m σ ys H ⟨rfl, hi, p⟩
  by_cases hlt : i < n
  · refine .inr ⟨hlt, Pv (i + 1), fun σ' ys' H' p' => ⟨n - (i + 1), by omega, rfl, hlt, p'⟩, fun x H' y => ?_⟩
    obtain ⟨e, y⟩ := y
    subst e y
    exact hs i σ ys _ hlt p
  · have e : i = n := by omega
    subst e
    exact .inl ⟨Nat.le_refl _, hd σ ys H p⟩
theorem comp_list {K : PySem.W.Frag} {a : Addr} {xs : List V} {g : TG} {tt : TT} {te : TE} {R : Hp → Prop} {D : Addr} {σ0 : St} {H0 : Hp} (Pv : Nat → St → List V → Hp → Prop) (h0 : Pv 0 σ0 [] H0) (hl : ∀ i σ ys H, i ≤ xs.length → Pv i σ ys H → SqL K H a xs)
    (hs : ∀ i x σ ys H, xs[i]? = some x → Pv i σ ys H → g x σ H fun σ2 H2 => tt σ2 H2 fun b H3 =>
      if b = true then te σ2 H3 fun v H4 => H4 D = some (.lst ys) ∧ ys.length < sizeLine ∧ Pv (i + 1) σ2 (ys ++ [v]) (upd H4 D (.lst (ys ++ [v]))) else Pv (i + 1) σ2 ys H3)
    (hd : ∀ σ ys H, Pv xs.length σ ys H → R H) :
    ∃ W : Nat → Nat → St → List V → Hp → Prop, (∃ m, W 0 m σ0 [] H0) ∧ ∀ i m σ ys H, W i m σ ys H →
      ((Itl K a).stop i H ∧ R H) ∨ ((Itl K a).go i H ∧ ∃ N : St → List V → Hp → Prop, (∀ σ' ys' H', N σ' ys' H' → ∃ m', m' < m ∧ W (i + 1) m' σ' ys' H') ∧ ∀ x H', (Itl K a).yld i H x H' → g x σ H' fun σ2 H2 => tt σ2 H2 fun b H3 =>
        if b = true then te σ2 H3 fun v H4 => H4 D = some (.lst ys) ∧ ys.length < sizeLine ∧ N σ2 (ys ++ [v]) (upd H4 D (.lst (ys ++ [v]))) else N σ2 ys H3) := by
  refine ⟨fun i m σ ys H => m = xs.length - i ∧ i ≤ xs.length ∧ Pv i σ ys H, ⟨xs.length, by simp, Nat.zero_le _, h0⟩, ?_⟩
  rintro i m σ ys H ⟨rfl, hi, p⟩
  have q := hl i σ ys H hi p
  by_cases hlt : i < xs.length
  · refine .inr ⟨⟨xs, xs[i], q, by simp [hlt]⟩, Pv (i + 1), fun σ' ys' H' p' => ⟨xs.length - (i + 1), by omega, rfl, hlt, p'⟩, fun x H' y => ?_⟩
    obtain ⟨e, y⟩ := y
    subst e
    exact hs i x σ ys _ (y xs q) p
  · have e : i = xs.length := by omega
    subst e
    exact .inl ⟨⟨xs, q, Nat.le_refl _⟩, hd σ ys H p⟩
end L2


set_option Elab.async false
set_option linter.all false
set_option maxRecDepth 100000
set_option maxHeartbeats 4000000
namespace SF
open PySem

/-! ### a table of a set: its places rise -/
def Rise (xs : Array Nat) : Prop := ∀ i k, i < k → k < xs.size → xs.getD i 0 < xs.getD k 0
theorem getD_any {xs : Array Nat} {i a b : Nat} (h : i < xs.size) : xs.getD i a = xs.getD i b := by
  simp [Array.getD, h]
theorem go_spec {xs : Array Nat} {j : Nat} (hr : Rise xs) : ∀ (f lo hi : Nat), lo ≤ hi → hi ≤ xs.size → hi - lo ≤ f → (∀ i, i < lo → xs.getD i 0 < j) → (∀ i, hi ≤ i → i < xs.size → j ≤ xs.getD i 0) →
    SetTable.below.go xs j f lo hi ≤ xs.size ∧ (∀ i, i < SetTable.below.go xs j f lo hi → xs.getD i 0 < j) ∧ ∀ i, SetTable.below.go xs j f lo hi ≤ i → i < xs.size → j ≤ xs.getD i 0 := by
  intro f
  induction f with
  | zero =>
    intro lo hi h1 h2 h3 h4 h5
    have e : lo = hi := by omega
    subst e
    exact ⟨h2, h4, h5⟩
  | succ f ih =>
    intro lo hi h1 h2 h3 h4 h5
    unfold SetTable.below.go
    by_cases hlt : lo < hi
    · rw [if_pos hlt]
      have m1 : (lo + hi) / 2 < hi := by omega
      have m2 : lo ≤ (lo + hi) / 2 := by omega
      dsimp only
      rw [getD_any (b := 0) (Nat.lt_of_lt_of_le m1 h2)]
      by_cases hm : xs.getD ((lo + hi) / 2) 0 < j
      · rw [if_pos hm]
        refine ih _ _ (by omega) h2 (by omega) (fun i hi' => ?_) h5
        rcases Nat.lt_or_ge i ((lo + hi) / 2) with q | q
        · exact Nat.lt_trans (hr i _ q (by omega)) hm
        · have e : i = (lo + hi) / 2 := by omega
          rw [e]; exact hm
      · rw [if_neg hm]
        refine ih _ _ m2 (by omega) (by omega) h4 (fun i hi' hs => ?_)
        rcases Nat.lt_or_ge ((lo + hi) / 2) i with q | q
        · exact Nat.le_trans (Nat.not_lt.mp hm) (Nat.le_of_lt (hr _ i q hs))
        · have e : i = (lo + hi) / 2 := by omega
          rw [e]; exact Nat.not_lt.mp hm
    · rw [if_neg hlt]
      have e : lo = hi := by omega
      subst e
      exact ⟨h2, h4, h5⟩
theorem below_spec {xs : Array Nat} {j : Nat} (hr : Rise xs) : SetTable.below xs j ≤ xs.size ∧ (∀ i, i < SetTable.below xs j → xs.getD i 0 < j) ∧ ∀ i, SetTable.below xs j ≤ i → i < xs.size → j ≤ xs.getD i 0 :=
  go_spec hr xs.size 0 xs.size (Nat.zero_le _) (Nat.le_refl _) (Nat.le_refl _) (fun i h => absurd h (Nat.not_lt_zero _)) (fun i h1 h2 => absurd (Nat.lt_of_lt_of_le h2 h1) (Nat.lt_irrefl _))
/-- the slot ahead of the i-th place -/
theorem below_at {xs : Array Nat} (hr : Rise xs) {i s : Nat} (h1 : ∀ k, k < i → xs.getD k 0 < s) (h2 : i < xs.size → s ≤ xs.getD i 0) (hi : i ≤ xs.size) : SetTable.below xs s = i := by
  obtain ⟨b1, b2, b3⟩ := below_spec (j := s) hr
  rcases Nat.lt_trichotomy (SetTable.below xs s) i with q | q | q
  · have := b3 _ (Nat.le_refl _) (by omega)
    have := h1 _ q
    omega
  · exact q
  · have := b2 i q
    have := h2 (by omega)
    omega
theorem rise_list {xs : Array Nat} : Rise xs ↔ xs.toList.Pairwise (· < ·) := by
  rw [List.pairwise_iff_getElem]
  constructor
  · intro h i k hi hk hik
    have h' := h i k hik (by simpa using hk)
    have hi' : i < xs.size := by simpa using hi
    have hk' : k < xs.size := by simpa using hk
    simpa [Array.getD, hi', hk'] using h'
  · intro h i k hik hk
    have hi : i < xs.size := Nat.lt_trans hik hk
    have h' := h i k (by simpa using hi) (by simpa using hk) hik
    simpa [Array.getD, hi, hk] using h'
theorem rise_insert {xs : Array Nat} {j : Nat} (hr : Rise xs) (hn : ∀ i, i < xs.size → xs.getD i 0 ≠ j) : Rise (SetTable.insertAt xs (SetTable.below xs j) j) := by
  obtain ⟨b1, b2, b3⟩ := below_spec (j := j) hr
  rw [rise_list, SetTable.toList_insertAt]
  have hp := rise_list.mp hr
  have take : ∀ a ∈ xs.toList.take (SetTable.below xs j), a < j := fun a ha => by
    obtain ⟨i, hi, e⟩ := List.getElem_of_mem ha
    have hi' : i < SetTable.below xs j ∧ i < xs.size := by
      rw [List.length_take] at hi
      simp at hi
      omega
    have := b2 i hi'.1
    rw [← e, List.getElem_take]
    simpa [Array.getD, hi'.2] using this
  have drop : ∀ a ∈ xs.toList.drop (SetTable.below xs j), j < a := fun a ha => by
    obtain ⟨i, hi, e⟩ := List.getElem_of_mem ha
    have hi' : SetTable.below xs j + i < xs.size := by
      rw [List.length_drop] at hi
      simp at hi
      omega
    have h1 := b3 (SetTable.below xs j + i) (Nat.le_add_right _ _) hi'
    have h2 := hn _ hi'
    rw [← e, List.getElem_drop]
    have h3 : j < xs.getD (SetTable.below xs j + i) 0 := by omega
    simpa [Array.getD, hi'] using h3
  refine List.pairwise_append.mpr ⟨hp.sublist (List.take_sublist _ _), List.pairwise_cons.mpr ⟨drop, hp.sublist (List.drop_sublist _ _)⟩, fun a ha b hb => ?_⟩
  rcases List.mem_cons.mp hb with e | hb
  · rw [e]; exact take a ha
  · exact Nat.lt_trans (take a ha) (drop b hb)

structure TInv (t : SetTable) : Prop where
  nod : t.dummies = #[]
  up : t.plain = true → Rise t.place
theorem no_dummy {t : SetTable} (h : t.dummies = #[]) (j : Nat) : t.slot j ≠ .dummy := by
  unfold SetTable.slot
  dsimp only
  split
  · intro z; cases z
  · have e : SetTable.has t.dummies j = false := by rw [h]; simp [SetTable.has]
    rw [if_neg (by rw [e]; exact Bool.false_ne_true)]
    intro z; cases z
theorem probe_spec {t : SetTable} (h : t.dummies = #[]) {f : Nat → Int} {x : Int} : ∀ (n : Nat) (p : SetTable.Probe) {j : Nat} {d : Option Nat}, SetTable.probe.go t f x n p = some (.empty j d) → t.slot j = .empty ∧ d = p.dummy := by
  intro n
  induction n with
  | zero => intro p j d e; cases e
  | succ n ih =>
    intro p j d e
    unfold SetTable.probe.go at e
    cases q : t.slot p.j with
    | empty =>
      rw [q] at e
      cases e
      exact ⟨q, rfl⟩
    | dummy => exact absurd q (no_dummy h _)
    | live i =>
      rw [q] at e
      dsimp only at e
      have adv : (t.advance p).dummy = p.dummy := by
        unfold SetTable.advance
        split <;> rfl
      split at e
      · cases e
      · have := ih _ e
        rw [adv] at this
        exact this
theorem slot_out {t : SetTable} (hr : Rise t.place) {j : Nat} (h : t.slot j = .empty) : ∀ i, i < t.place.size → t.place.getD i 0 ≠ j := by
  intro i hi e
  have hb : SetTable.below t.place j = i := below_at hr (fun k hk => by rw [← e]; exact hr k i hk hi) (fun _ => by rw [e]; exact Nat.le_refl _) (Nat.le_of_lt hi)
  have q : t.place[SetTable.below t.place j]? = some j := by
    rw [hb, ← e]
    simp [Array.getD, hi]
  unfold SetTable.slot at h
  dsimp only at h
  rw [if_pos (by rw [q]; simp)] at h
  cases h
theorem standIn_inv (t : SetTable) (n : Nat) : TInv (t.standIn n) ∧ (t.standIn n).led = t.led := ⟨⟨rfl, fun h => by cases h⟩, rfl⟩
theorem layNew_inv {t : SetTable} (es : Array (Int × Value)) (h : Int) (x : Value) (I : TInv t) : TInv (layNew t es h x).2.1 ∧ (layNew t es h x).2.1.led = t.led := by
  unfold layNew
  cases e : t.freeSlot h with
  | none => exact standIn_inv _ _
  | some p =>
    obtain ⟨slot, wd⟩ := p
    dsimp only
    unfold SetTable.freeSlot at e
    cases q : t.probe (fun _ => h + 1) h (t.probeStart h) with
    | none => rw [q] at e; cases e
    | some m =>
      rw [q] at e
      cases m with
      | candidate a b c => cases e
      | empty j d =>
        obtain ⟨h1, h2⟩ := probe_spec I.nod _ _ q
        have h2 : d = none := h2
        subst h2
        have e1 : j = slot := by
          have := congrArg Prod.fst (Option.some.inj e)
          exact this
        subst e1
        have key : TInv (t.put j).1 ∧ (t.put j).1.led = t.led := by
          refine ⟨⟨?_, fun hp => ?_⟩, rfl⟩
          · show (if SetTable.has t.dummies j then _ else t.dummies) = #[]
            rw [if_neg (by rw [I.nod]; simp [SetTable.has])]
            exact I.nod
          · exact rise_insert (I.up hp) (slot_out (I.up hp) h1)
        unfold SetTable.orStandIn
        split
        · exact key
        · exact ⟨(standIn_inv _ _).1, (standIn_inv _ _).2.trans key.2⟩
theorem live_fst {β : Type} (g : Nat → Option β) : ∀ l : List Nat, (l.filterMap fun j => (g j).map (j, ·)).map (·.1) = l.filter fun j => (g j).isSome
  | [] => rfl
  | a :: r => by
    have ih := live_fst g r
    cases e : g a with
    | none => simp [List.filterMap_cons, e, ih]
    | some b => simp [List.filterMap_cons, e, ih]
theorem relayAll_inv {t : SetTable} (es : Array (Int × Value)) (n : Nat) : TInv (relayAll t es n).2.1 ∧ (relayAll t es n).2.1.led = t.led := by
  unfold relayAll
  cases e : t.relaid (es.map (·.1)) n with
  | none => exact standIn_inv _ _
  | some p =>
    obtain ⟨t', order⟩ := p
    dsimp only
    split
    · unfold SetTable.relaid SetTable.laid at e
      cases q : SetTable.layClean (SetTable.sizeAbove n - 1) (es.map (·.1)) with
      | none => rw [q] at e; cases e
      | some owner =>
        rw [q] at e
        have e := congrArg Prod.fst (Option.some.inj e)
        dsimp only at e
        subst e
        refine ⟨⟨rfl, fun _ => ?_⟩, rfl⟩
        rw [rise_list]
        dsimp only
        have z := live_fst (fun j => owner.getD j none) (List.range (SetTable.sizeAbove n - 1 + 1))
        rw [z]
        exact List.pairwise_lt_range.sublist List.filter_sublist
    · exact standIn_inv _ _

/-! ### the order by the text -/
theorem perm_erase {α : Type} : ∀ (l : List α) (i : Nat) (h : i < l.length), List.Perm (l[i] :: l.eraseIdx i) l
  | a :: r, 0, _ => List.Perm.refl _
  | a :: r, i + 1, h => by
    have q := perm_erase r i (by simpa using h)
    show List.Perm (r[i]'(by simpa using h) :: a :: r.eraseIdx i) (a :: r)
    exact (List.Perm.swap _ _ _).trans (q.cons a)
theorem pick_go {α : Type} (next : Nat → Nat) : ∀ (n k : Nat) (left : List α) (out : Array α), n = left.length → List.Perm (pickOrder.go next n k left out).toList (out.toList ++ left)
  | 0, k, left, out, h => by
    have e : left = [] := List.eq_nil_of_length_eq_zero h.symm
    subst e
    simp [pickOrder.go]
  | n + 1, k, left, out, h => by
    unfold pickOrder.go
    have hlt : next k % left.length < left.length := Nat.mod_lt _ (by omega)
    have e : left[next k % left.length]? = some left[next k % left.length] := List.getElem?_eq_getElem hlt
    rw [e]
    dsimp only
    refine (pick_go next n (k + 1) _ _ (by rw [List.length_eraseIdx, if_pos hlt]; omega)).trans ?_
    rw [Array.toList_push, List.append_assoc]
    refine List.Perm.append_left _ ?_
    show List.Perm (left[next k % left.length] :: left.eraseIdx (next k % left.length)) left
    exact perm_erase _ _ hlt
theorem pick_perm {α : Type} (next : Nat → Nat) (xs : Array α) : List.Perm (pickOrder next xs).toList xs.toList := by
  have := pick_go next xs.size 0 xs.toList #[] (by simp)
  simpa [pickOrder] using this
end SF


set_option Elab.async false
set_option linter.all false
set_option maxRecDepth 100000
set_option maxHeartbeats 4000000
namespace SF
open PySem PySem.Calls PyProof.Rows

theorem slot_si_next : Slot "set_iterator" "__next__" "set_iterator.__next__" :=
  .of (owner := "set_iterator") (n := "__next__") (by rw [typeLookup_type, builtinLookup_eq_fast]; kernel_rfl) (by decide +kernel) (by decide +kernel) (by decide +kernel)
    (by first | exact .inl (by decide +kernel) | exact .inr (by decide +kernel)) (by rw [isSubtype_type]; kernel_rfl)
theorem entry_si_next : entryFor table "set_iterator.__next__" = some Builtin.«set_iterator.__next__» := entryFor_of_tree (by kernel_rfl)
theorem args_si_next (a : Value) : argsOk "set_iterator.__next__" ⟨[a], []⟩ := by unfold argsOk; kernel_rfl
theorem entry_set_iter : entryFor table "set.__iter__" = some Builtin.«frozenset.__iter__» :=
  entryFor_alias (id' := "frozenset.__iter__") (by kernel_rfl) rfl (by decide +kernel) (by kernel_rfl)

section
variable {prog : Program} {w : World} {A : Around} {E : Value → Shared → Prop} {s : Shared}

/-- a set as it lies -/
def SetIs (h : Heap) (a : Addr) (es : Array (Int × Value)) (ep : Nat) (t : SetTable) : Prop := ∃ o, h.get? a = some o ∧ o.ExactSet ∧ o.data = .set es ep t
def SiAt (h : Heap) (I : Addr) (first : Value) (i : Nat) (a : Addr) (n ep : Nat) : Prop :=
  ∃ o, h.get? I = some o ∧ o.cls = .type "set_iterator" ∧ o.data = .fields #[first, .int i 0, .ref a, .int n 0, .int ep 0]
theorem SiAt.typeIs {I : Addr} {first : Value} {i : Nat} {a : Addr} {n ep : Nat} (x : SiAt s.heap I first i a n ep) : s.TypeIs (.ref I) "set_iterator" := let ⟨o, ho, hc, _⟩ := x; ⟨o, ho, hc⟩

theorem next_int {a I : Addr} {es : Array (Int × Value)} {ep : Nat} {t : SetTable} {sl i : Nat} {v : Value} {sl' : Nat} {Q : Option Value → Shared → Prop}
    (hs : SetIs s.heap a es ep t) (hf : t.fits es.size = true) (hi : SiAt s.heap I (.int sl 0) i a es.size ep)
    (hN : ∀ (s : Shared) (A : Around) (E : Value → Shared → Prop) (R : Option (Value × Nat) → Shared → Prop), SetIs s.heap a es ep t → R (some (v, sl')) s → wpAny (model prog w) A (setNext a sl i ep) R E s)
    (hQ : ∀ h', SiAt h' I (.int sl' 0) (i + 1) a es.size ep → Heap.SameBut I s.heap h' → Q (some v) { s with heap := h' }) : wpAny (model prog w) A (pyNext (.ref I)) Q E s := by
  obtain ⟨o, ho, hc, hd⟩ := id hi
  obtain ⟨oa, hoa, hex, hda⟩ := id hs
  unfold pyNext
  refine wpAny_bind (wpAny_attempt (wpAny_callSpecial?_slot (name := Str.ofString "__next__") hi.typeIs slot_si_next
    (wpAny_call_entry slot_si_next hi.typeIs entry_si_next ?_ (args_si_next _))))
  unfold Builtin.«set_iterator.__next__»
  refine wpAny_bind (wpAny_pure ?_)
  refine wpAny_bind (wpAny_fieldsOf ho hd ?_)
  dsimp only
  refine wpAny_bind (wpAny_setEntries_of hoa hda hf ?_)
  rw [if_neg (by simp)]
  simp only [Int.toNat_natCast]
  refine wpAny_bind (hN s _ _ _ hs ?_)
  dsimp only
  refine wpAny_bind (wpAny_setField ho hd (by simp) ?_)
  have ho1 := Heap.get?_update_self (Obj.mapFields (·.setIfInBounds 0 (rawInt (sl' : Int)))) ho (Obj.isFreed_of_fields (Obj.data_mapFields hd _))
  have hd1 := Obj.data_mapFields hd (·.setIfInBounds 0 (rawInt (sl' : Int)))
  refine wpAny_bind (wpAny_setField ho1 hd1 (by simp) ?_)
  have ho2 := Heap.get?_update_self (Obj.mapFields (·.setIfInBounds 1 (rawInt ((i : Int) + 1)))) ho1 (Obj.isFreed_of_fields (Obj.data_mapFields hd1 _))
  have hd2 := Obj.data_mapFields hd1 (·.setIfInBounds 1 (rawInt ((i : Int) + 1)))
  refine wpAny_pure ⟨_, rfl, wpAny_pure (hQ _ ⟨_, ho2, ?_, ?_⟩ ((Heap.SameBut.update ..).trans (Heap.SameBut.update ..)))⟩
  · rw [Obj.cls_mapFields, Obj.cls_mapFields]
    exact hc
  · rw [hd2]
    simp [rawInt]
/-- the end: the iterator forgets its set, a StopIteration is made -/
theorem end_int {a I : Addr} {es : Array (Int × Value)} {ep : Nat} {t : SetTable} {sl i : Nat} {Q : Option Value → Shared → Prop} (hh : A.handled = none)
    (hs : SetIs s.heap a es ep t) (hf : t.fits es.size = true) (hi : SiAt s.heap I (.int sl 0) i a es.size ep)
    (hN : ∀ (s : Shared) (A : Around) (E : Value → Shared → Prop) (R : Option (Value × Nat) → Shared → Prop), SetIs s.heap a es ep t → R none s → wpAny (model prog w) A (setNext a sl i ep) R E s)
    (hQ : ∀ h', Heap.ExtBut I s.heap h' → Q none { s with heap := h' }) : wpAny (model prog w) A (pyNext (.ref I)) Q E s := by
  obtain ⟨o, ho, hc, hd⟩ := id hi
  obtain ⟨oa, hoa, hex, hda⟩ := id hs
  unfold pyNext
  refine wpAny_bind (wpAny_attempt (wpAny_callSpecial?_slot (name := Str.ofString "__next__") hi.typeIs slot_si_next
    (wpAny_call_entry slot_si_next hi.typeIs entry_si_next ?_ (args_si_next _))))
  unfold Builtin.«set_iterator.__next__»
  refine wpAny_bind (wpAny_pure ?_)
  refine wpAny_bind (wpAny_fieldsOf ho hd ?_)
  dsimp only
  refine wpAny_bind (wpAny_setEntries_of hoa hda hf ?_)
  rw [if_neg (by simp)]
  simp only [Int.toNat_natCast]
  refine wpAny_bind (hN s _ _ _ hs ?_)
  dsimp only
  refine wpAny_bind (wpAny_setField ho hd (by simp) ?_)
  refine wpAny_bind ?_
  simp only [newExc, newTuple]
  refine wpAny_bind (wpAny_newObj_type ?_ (by size_fits))
  refine wpAny_bind (m := firstArgMember _ _) (wpAny_of_eq (a := Value.none) (by first | rfl | (simp only [firstArgMember]; rfl)) ?_)
  refine wpAny_newObj_type ?_ (by size_fits)
  simp only [raiseNew]
  refine wpAny_bind (wpAny_handled ?_)
  rw [show A.in1.handled = none from hh]
  refine wpAny_bind (wpAny_pure (wpAny_throw ?_))
  refine wpAny_bind (wpAny_isInstance (T := "StopIteration") (b := true) ⟨_, Heap.get?_push_size _ rfl, rfl⟩ isSubtype_stop ?_)
  exact wpAny_pure (hQ _ (((Heap.SameBut.update ..).extBut.push _).push _))
theorem next_drawn {a I T : Addr} {es : Array (Int × Value)} {ep : Nat} {t : SetTable} {i p : Nat} {ps : Array Value} {k : Nat} {tk : Tok} {oT : Obj} {c : Int} {v : Value} {Q : Option Value → Shared → Prop}
    (hs : SetIs s.heap a es ep t) (hf : t.fits es.size = true) (hi : SiAt s.heap I (.ref T) i a es.size ep) (hT : s.heap.get? T = some oT) (hTd : oT.data = .seq ps k) (hp : ps[i]? = some (.int p tk)) (hv : es[p]? = some (c, v))
    (hQ : ∀ h', SiAt h' I (.ref T) (i + 1) a es.size ep → Heap.SameBut I s.heap h' → Q (some v) { s with heap := h' }) : wpAny (model prog w) A (pyNext (.ref I)) Q E s := by
  obtain ⟨o, ho, hc, hd⟩ := id hi
  obtain ⟨oa, hoa, hex, hda⟩ := id hs
  unfold pyNext
  refine wpAny_bind (wpAny_attempt (wpAny_callSpecial?_slot (name := Str.ofString "__next__") hi.typeIs slot_si_next
    (wpAny_call_entry slot_si_next hi.typeIs entry_si_next ?_ (args_si_next _))))
  unfold Builtin.«set_iterator.__next__»
  refine wpAny_bind (wpAny_pure ?_)
  refine wpAny_bind (wpAny_fieldsOf ho hd ?_)
  dsimp only
  refine wpAny_bind (wpAny_setEntries_of hoa hda hf ?_)
  rw [if_neg (by simp)]
  simp only [Int.toNat_natCast]
  refine wpAny_bind ?_
  unfold seqItems?
  refine wpAny_bind (wpAny_load hT ?_)
  rw [hTd]
  refine wpAny_pure ?_
  dsimp only
  rw [hp]
  dsimp only
  refine wpAny_bind ?_
  unfold setNextDrawn
  refine wpAny_bind (wpAny_setState_of hoa hda hf ?_)
  dsimp only
  rw [if_neg (by simp)]
  simp only [Int.toNat_natCast]
  rw [hv]
  refine wpAny_pure ?_
  refine wpAny_bind (wpAny_setField ho hd (by simp) ?_)
  have ho2 := Heap.get?_update_self (Obj.mapFields (·.setIfInBounds 1 (rawInt ((i : Int) + 1)))) ho (Obj.isFreed_of_fields (Obj.data_mapFields hd _))
  have hd2 := Obj.data_mapFields hd (·.setIfInBounds 1 (rawInt ((i : Int) + 1)))
  refine wpAny_pure ⟨_, rfl, wpAny_pure (hQ _ ⟨_, ho2, ?_, ?_⟩ (Heap.SameBut.update ..))⟩
  · rw [Obj.cls_mapFields]
    exact hc
  · rw [hd2]
    simp [rawInt]
theorem end_drawn {a I T : Addr} {es : Array (Int × Value)} {ep : Nat} {t : SetTable} {i : Nat} {ps : Array Value} {k : Nat} {oT : Obj} {Q : Option Value → Shared → Prop} (hh : A.handled = none)
    (hs : SetIs s.heap a es ep t) (hf : t.fits es.size = true) (hi : SiAt s.heap I (.ref T) i a es.size ep) (hT : s.heap.get? T = some oT) (hTd : oT.data = .seq ps k) (hp : ps[i]? = none)
    (hQ : ∀ h', Heap.ExtBut I s.heap h' → Q none { s with heap := h' }) : wpAny (model prog w) A (pyNext (.ref I)) Q E s := by
  obtain ⟨o, ho, hc, hd⟩ := id hi
  obtain ⟨oa, hoa, hex, hda⟩ := id hs
  unfold pyNext
  refine wpAny_bind (wpAny_attempt (wpAny_callSpecial?_slot (name := Str.ofString "__next__") hi.typeIs slot_si_next
    (wpAny_call_entry slot_si_next hi.typeIs entry_si_next ?_ (args_si_next _))))
  unfold Builtin.«set_iterator.__next__»
  refine wpAny_bind (wpAny_pure ?_)
  refine wpAny_bind (wpAny_fieldsOf ho hd ?_)
  dsimp only
  refine wpAny_bind (wpAny_setEntries_of hoa hda hf ?_)
  rw [if_neg (by simp)]
  simp only [Int.toNat_natCast]
  refine wpAny_bind ?_
  unfold seqItems?
  refine wpAny_bind (wpAny_load hT ?_)
  rw [hTd]
  refine wpAny_pure ?_
  dsimp only
  rw [hp]
  dsimp only
  refine wpAny_bind (wpAny_setField ho hd (by simp) ?_)
  have ho1 := Heap.get?_update_self (Obj.mapFields (·.setIfInBounds 0 (rawInt 0))) ho (Obj.isFreed_of_fields (Obj.data_mapFields hd _))
  have hd1 := Obj.data_mapFields hd (·.setIfInBounds 0 (rawInt 0))
  refine wpAny_bind (wpAny_setField ho1 hd1 (by simp) ?_)
  refine wpAny_bind ?_
  simp only [newExc, newTuple]
  refine wpAny_bind (wpAny_newObj_type ?_ (by size_fits))
  refine wpAny_bind (m := firstArgMember _ _) (wpAny_of_eq (a := Value.none) (by first | rfl | (simp only [firstArgMember]; rfl)) ?_)
  refine wpAny_newObj_type ?_ (by size_fits)
  simp only [raiseNew]
  refine wpAny_bind (wpAny_handled ?_)
  rw [show A.in1.handled = none from hh]
  refine wpAny_bind (wpAny_pure (wpAny_throw ?_))
  refine wpAny_bind (wpAny_isInstance (T := "StopIteration") (b := true) ⟨_, Heap.get?_push_size _ rfl, rfl⟩ isSubtype_stop ?_)
  exact wpAny_pure (hQ _ ((((Heap.SameBut.update ..).trans (Heap.SameBut.update ..)).extBut.push _).push _))

/-! ### the next place -/
theorem setNext_text {a : Addr} {es : Array (Int × Value)} {ep : Nat} {t : SetTable} {sl i : Nat} {R : Option (Value × Nat) → Shared → Prop} (hb : w.params.followText "set-order" = true)
    (hs : SetIs s.heap a es ep t) (hf : t.fits es.size = true) (h : R (((pickOrder (w.params.setOrder a ep) es)[i]?).map fun e => (e.2, sl)) s) : wpAny (model prog w) A (setNext a sl i ep) R E s := by
  obtain ⟨o, ho, hex, hd⟩ := id hs
  unfold setNext setsByText
  refine wpAny_bind (wpAny_setState_of ho hd hf ?_)
  dsimp only
  refine wpAny_bind (wpAny_bind (wpAny_askSetting (wpAny_pure ?_)))
  rw [if_pos (show (⟨(model prog w).prog, (model prog w).w.params⟩ : Setting).params.followText "set-order" = true from hb), if_neg (by simp)]
  refine wpAny_bind ?_
  unfold setWalk setsByText
  refine wpAny_bind (wpAny_setState_of ho hd hf ?_)
  dsimp only
  refine wpAny_bind (wpAny_bind (wpAny_askSetting (wpAny_pure ?_)))
  rw [if_pos (show (⟨(model prog w).prog, (model prog w).w.params⟩ : Setting).params.followText "set-order" = true from hb)]
  exact wpAny_bind (wpAny_askSetting (wpAny_pure (wpAny_pure h)))
theorem setNext_plain {a : Addr} {es : Array (Int × Value)} {ep : Nat} {t : SetTable} {sl i : Nat} {R : Option (Value × Nat) → Shared → Prop} (hb : w.params.followText "set-order" = false) (hp : (!t.plain && decide (es.size > 1)) = false) (hl : t.led = true)
    (hs : SetIs s.heap a es ep t) (hf : t.fits es.size = true)
    (h : R (match es[SetTable.below t.place sl]?, t.place[SetTable.below t.place sl]? with | some (_, x), some j => some (x, j + 1) | _, _ => none) s) : wpAny (model prog w) A (setNext a sl i ep) R E s := by
  obtain ⟨o, ho, hex, hd⟩ := id hs
  unfold setNext setsByText
  refine wpAny_bind (wpAny_setState_of ho hd hf ?_)
  dsimp only
  refine wpAny_bind (wpAny_bind (wpAny_askSetting (wpAny_pure ?_)))
  rw [if_neg (show ¬ (⟨(model prog w).prog, (model prog w).w.params⟩ : Setting).params.followText "set-order" = true from by show ¬ w.params.followText "set-order" = true; rw [hb]; exact Bool.false_ne_true)]
  refine wpAny_ite_split (fun hab => absurd (show (!t.plain && decide (es.size > 1)) = true from hab) (by rw [hp]; exact Bool.false_ne_true)) (fun _ => ?_)
  refine wpAny_bind ?_
  show wpAny (model prog w) A (if (!t.led && !es.isEmpty) = true then unsupported "set:maker-not-led" else pure ()) _ _ s
  rw [if_neg (by rw [hl]; simp)]
  exact wpAny_pure (wpAny_pure h)

/-! ### iter(set) -/
theorem wpAny_choose {src : Source} {n : Nat} {Q : Nat → Shared → Prop} (hn : 0 < n) (h : ∀ i d, i < n → Q i { s with drawn := d }) : wpAny (model prog w) A (choose src n) Q E s := fun _ _ _ =>
  ⟨Nat.ne_of_gt hn, h _ _ (Nat.mod_lt _ hn)⟩
theorem drawOrder_perm : ∀ (n : Nat) (l : List Nat) (s : Shared) {Q : List Nat → Shared → Prop}, n = l.length → (∀ r d, List.Perm r l → Q r { s with drawn := d }) → wpAny (model prog w) A (drawOrder n l) Q E s
  | 0, l, s, Q, hn, h => by
    have e : l = [] := List.eq_nil_of_length_eq_zero hn.symm
    subst e
    exact wpAny_pure (h [] s.drawn (List.Perm.refl _))
  | n + 1, [], s, Q, hn, h => by cases hn
  | n + 1, x :: r, s, Q, hn, h => by
    unfold drawOrder
    refine wpAny_bind (wpAny_choose (by simp) fun i d hi => ?_)
    have e : (x :: r)[i]? = some (x :: r)[i] := List.getElem?_eq_getElem hi
    rw [e]
    dsimp only
    refine wpAny_bind (drawOrder_perm n _ _ (by rw [List.length_eraseIdx, if_pos hi]; omega) fun q d' hq => wpAny_pure ?_)
    exact h _ d' ((hq.cons _).trans (perm_erase _ _ hi))
structure SI (prog : Program) (w : World) (s : Shared) (a : Addr) (es : Array (Int × Value)) (ep : Nat) (t : SetTable) : Prop where
  hs : SetIs s.heap a es ep t
  fit : t.fits es.size = true
  inv : TInv t
  led : w.params.followText "set-order" = true ∨ t.led = true
theorem SetIs.typeIs {a : Addr} {es : Array (Int × Value)} {ep : Nat} {t : SetTable} (x : SetIs s.heap a es ep t) : s.TypeIs (.ref a) "set" := let ⟨o, ho, hc, _⟩ := x; ⟨o, ho, hc.1⟩
theorem SetIs.lt {h : Heap} {a : Addr} {es : Array (Int × Value)} {ep : Nat} {t : SetTable} (x : SetIs h a es ep t) : a < h.objs.size := let ⟨o, ho, _⟩ := x; Heap.lt_size ho
theorem SetIs.at {h h' : Heap} {a : Addr} {es : Array (Int × Value)} {ep : Nat} {t : SetTable} (x : SetIs h a es ep t) (e : ∀ o, h.get? a = some o → h'.get? a = some o) : SetIs h' a es ep t := let ⟨o, ho, r⟩ := x; ⟨o, e _ ho, r⟩
theorem SiAt.at {h h' : Heap} {I : Addr} {first : Value} {i : Nat} {a : Addr} {n ep : Nat} (x : SiAt h I first i a n ep) (e : ∀ o, h.get? I = some o → h'.get? I = some o) : SiAt h' I first i a n ep := let ⟨o, ho, r⟩ := x; ⟨o, e _ ho, r⟩
theorem slot_si_iter : Slot "set_iterator" "__iter__" "set_iterator.__iter__" :=
  .of (owner := "set_iterator") (n := "__iter__") (by rw [typeLookup_type, builtinLookup_eq_fast]; kernel_rfl) (by decide +kernel) (by decide +kernel) (by decide +kernel)
    (by first | exact .inl (by decide +kernel) | exact .inr (by decide +kernel)) (by rw [isSubtype_type]; kernel_rfl)
theorem iter_set {a : Addr} {es : Array (Int × Value)} {ep : Nat} {t : SetTable} {Q : Value → Shared → Prop} (S : SI prog w s a es ep t) (hsz : es.size ≤ sizeLine)
    (h1 : (w.params.followText "set-order" = true ∨ (!t.plain && decide (es.size > 1)) = false) → Q (.ref s.heap.objs.size) { s with heap := s.heap.push { cls := .type "set_iterator", data := .fields #[.int 0 0, .int 0 0, .ref a, .int es.size 0, .int ep 0] } })
    (h2 : ∀ (r : List Nat) (d : Drawn), List.Perm r (List.range es.size) → Q (.ref (s.heap.objs.size + 1)) { s with drawn := d, heap := (s.heap.push { cls := .type "tuple", data := .seq ((r.map fun (i : Nat) => rawInt i).toArray) }).push { cls := .type "set_iterator", data := .fields #[.ref s.heap.objs.size, .int 0 0, .ref a, .int es.size 0, .int ep 0] } }) :
    wpAny (model prog w) A (pyIter (.ref a)) Q E s := by
  obtain ⟨o, ho, hex, hd⟩ := id S.hs
  refine wpAny_pyIter_slot S.hs.typeIs PySem.F.slot_set_iter (wpAny_call_entry PySem.F.slot_set_iter S.hs.typeIs entry_set_iter ?_ (PySem.F.args_set_iter_1 _))
  unfold Builtin.«frozenset.__iter__» Builtin.Frozenset.slot0
  refine wpAny_bind (wpAny_bind (wpAny_pure (wpAny_pure ?_)))
  refine wpAny_bind ?_
  unfold Builtin.Frozenset.sizeOf
  refine wpAny_bind (wpAny_setEntries_of ho hd S.fit (wpAny_pure ?_))
  refine wpAny_bind ?_
  unfold setDrawn setsByText
  refine wpAny_bind (wpAny_setState_of ho hd S.fit ?_)
  dsimp only
  refine wpAny_bind (wpAny_bind (wpAny_askSetting (wpAny_pure ?_)))
  refine wpAny_pure ?_
  dsimp only
  by_cases hb : w.params.followText "set-order" = true
  · refine wpAny_ite_split (fun hab => ?_) (fun _ => ?_)
    · have hab : (!w.params.followText "set-order" && _) = true := hab
      rw [hb] at hab
      exact absurd hab (by simp)
    · refine wpAny_bind (wpAny_pure ?_)
      refine wpAny_bind (wpAny_setEpoch_of ho hd S.fit ?_)
      refine wpAny_bind (wpAny_newObj_type ?_)
      exact wpAny_pure ⟨_, rfl, "set_iterator", _, ⟨_, Heap.get?_push_size _ rfl, rfl⟩, slot_si_next.lookup, h1 (.inl hb)⟩
  · have hb' : w.params.followText "set-order" = false := by simpa using hb
    refine wpAny_ite_split (fun hab => ?_) (fun hab => ?_)
    · refine wpAny_bind (drawOrder_perm _ _ _ (by simp) fun r d hr => ?_)
      refine wpAny_bind (wpAny_newObj_type ?_ ?_)
      · refine wpAny_bind (wpAny_setEpoch_of (Heap.get?_push_of_some _ ho) hd S.fit ?_)
        refine wpAny_bind (wpAny_newObj_type ?_)
        have hz := h2 r d hr
        rw [← size_push' s.heap { cls := .type "tuple", data := .seq ((r.map fun (i : Nat) => rawInt i).toArray) }] at hz
        exact wpAny_pure ⟨_, rfl, "set_iterator", _, ⟨_, Heap.get?_push_size _ rfl, rfl⟩, slot_si_next.lookup, hz⟩
      · have hl : r.length = es.size := by rw [hr.length_eq, List.length_range]
        show (List.map _ r).toArray.size ≤ _
        rw [List.size_toArray, List.length_map, hl]
        omega
    · refine wpAny_bind (wpAny_pure ?_)
      refine wpAny_bind (wpAny_setEpoch_of ho hd S.fit ?_)
      refine wpAny_bind (wpAny_newObj_type ?_)
      refine wpAny_pure ⟨_, rfl, "set_iterator", _, ⟨_, Heap.get?_push_size _ rfl, rfl⟩, slot_si_next.lookup, h1 (.inr ?_)⟩
      have hab : ¬ ((!w.params.followText "set-order" && (!t.plain && decide (es.size > 1))) = true) := hab
      rw [hb'] at hab
      simpa using hab
theorem entry_si_iter : entryFor table "set_iterator.__iter__" = some Builtin.«dict_keyiterator.__iter__» :=
  entryFor_alias (id' := "dict_keyiterator.__iter__") (by kernel_rfl) rfl (by decide +kernel) (by kernel_rfl)
theorem args_si_iter (a : Value) : argsOk "set_iterator.__iter__" ⟨[a], []⟩ := by unfold argsOk; kernel_rfl
theorem self_si {I : Addr} {first : Value} {i : Nat} {a : Addr} {n ep : Nat} {Q : Value → Shared → Prop} (hi : SiAt s.heap I first i a n ep) (h : Q (.ref I) s) : wpAny (model prog w) A (pyIter (.ref I)) Q E s := by
  refine wpAny_pyIter_slot hi.typeIs slot_si_iter (wpAny_call_entry slot_si_iter hi.typeIs entry_si_iter ?_ (args_si_iter _))
  show wpAny _ _ (ret (.ref I)) _ _ s
  exact wpAny_pure ⟨_, rfl, "set_iterator", _, hi.typeIs, slot_si_next.lookup, h⟩
theorem walks_int (hh : A.handled = none) {a I : Addr} (hne : a ≠ I) {es : Array (Int × Value)} {ep : Nat} {t : SetTable} (hf : t.fits es.size = true) (order : List Value) (hl : order.length = es.size) (sl : Nat → Nat)
    (hN : ∀ (i : Nat) (v : Value), order[i]? = some v → ∀ (s : Shared) (A : Around) (E : Value → Shared → Prop) (R : Option (Value × Nat) → Shared → Prop), SetIs s.heap a es ep t → R (some (v, sl (i + 1))) s → wpAny (model prog w) A (setNext a (sl i) i ep) R E s)
    (hE : ∀ (s : Shared) (A : Around) (E : Value → Shared → Prop) (R : Option (Value × Nat) → Shared → Prop), SetIs s.heap a es ep t → R none s → wpAny (model prog w) A (setNext a (sl es.size) es.size ep) R E s) :
    Walks prog w A I [I, a] [I] es.size (fun i v => order[i]? = some v) (fun i h => SetIs h a es ep t ∧ SiAt h I (.int (sl i) 0) i a es.size ep) where
  sub := fun b hb => by simp at hb; simp [hb]
  frame := fun _ _ _ st hk => ⟨st.1.at fun o e => hk a (by simp) o e, st.2.at fun o e => hk I (by simp) o e⟩
  item := fun i s Q E hi st hQ => by
    obtain ⟨v, hv⟩ : ∃ v, order[i]? = some v := ⟨order[i]'(by omega), by simp [hl, hi]⟩
    refine next_int st.1 hf st.2 (hN i v hv) fun h' h1 h2 => ?_
    exact hQ v h' s.toks hv ⟨st.1.at fun o e => h2.extBut a o hne e, h1⟩ fun b o hb e => h2.extBut b o (fun z => hb (by simp [z])) e
  done := fun s Q E st hQ => end_int hh st.1 hf st.2 hE fun h' he => hQ h' s.toks fun b o hb e => he b o (fun z => hb (by simp [z])) e
  self := fun _ _ _ _ st hQ => self_si st.2 hQ
theorem walks_drawn (hh : A.handled = none) {a I T : Addr} (hne : a ≠ I) (hnT : T ≠ I) {es : Array (Int × Value)} {ep : Nat} {t : SetTable} (hf : t.fits es.size = true) (r : List Nat) (hr : List.Perm r (List.range es.size)) {oT : Obj} (hTd : oT.data = .seq ((r.map fun (i : Nat) => rawInt i).toArray)) :
    Walks prog w A I [I, a, T] [I] es.size (fun i v => (r.map fun p => ((es[p]?).getD default).2)[i]? = some v) (fun i h => SetIs h a es ep t ∧ SiAt h I (.ref T) i a es.size ep ∧ h.get? T = some oT) where
  sub := fun b hb => by simp at hb; simp [hb]
  frame := fun _ _ _ st hk => ⟨st.1.at fun o e => hk a (by simp) o e, st.2.1.at fun o e => hk I (by simp) o e, hk T (by simp) _ st.2.2⟩
  item := fun i s Q E hi st hQ => by
    have hl : r.length = es.size := by rw [hr.length_eq, List.length_range]
    have hi' : i < r.length := by omega
    have hp : r[i] < es.size := List.mem_range.mp (hr.mem_iff.mp (List.getElem_mem hi'))
    have e1 : r[i]? = some r[i] := List.getElem?_eq_getElem hi'
    have e2 : es[r[i]]? = some (es[r[i]].1, es[r[i]].2) := by simp [hp]
    have hv : (r.map fun p => ((es[p]?).getD default).2)[i]? = some es[r[i]].2 := by
      rw [List.getElem?_map, e1]
      show some ((es[r[i]]?).getD default).2 = _
      rw [e2]
      rfl
    refine next_drawn (p := r[i]) (tk := 0) st.1 hf st.2.1 st.2.2 hTd (by simp [rawInt, e1]) e2 fun h' h1 h2 => ?_
    exact hQ _ h' s.toks hv ⟨st.1.at fun o e => h2.extBut a o hne e, h1, h2.extBut T _ hnT st.2.2⟩ fun b o hb e => h2.extBut b o (fun z => hb (by simp [z])) e
  done := fun s Q E st hQ => by
    have hl : r.length = es.size := by rw [hr.length_eq, List.length_range]
    exact end_drawn hh st.1 hf st.2.1 st.2.2 hTd (by simp [hl]) fun h' he => hQ h' s.toks fun b o hb e => he b o (fun z => hb (by simp [z])) e
  self := fun _ _ _ _ st hQ => self_si st.2.1 hQ
def slAt (t : SetTable) (i : Nat) : Nat := if i = 0 then 0 else t.place.getD (i - 1) 0 + 1
theorem below_sl {t : SetTable} (hr : Rise t.place) {i : Nat} (hi : i ≤ t.place.size) : SetTable.below t.place (slAt t i) = i := by
  unfold slAt
  cases i with
  | zero => exact below_at hr (fun k hk => absurd hk (Nat.not_lt_zero _)) (fun _ => by simp) (Nat.zero_le _)
  | succ i =>
    rw [if_neg (by omega)]
    show SetTable.below t.place (t.place.getD i 0 + 1) = i + 1
    refine below_at hr (fun k hk => ?_) (fun h => hr i (i + 1) (Nat.lt_succ_self _) h) hi
    rcases Nat.lt_or_ge k i with q | q
    · have := hr k i q (by omega)
      omega
    · have e : k = i := by omega
      rw [e]; omega
/-- iter(set): it walks the members in some order -/
theorem iter_walks (hh : A.handled = none) {a : Addr} {es : Array (Int × Value)} {ep : Nat} {t : SetTable} {Q : Value → Shared → Prop} (S : SI prog w s a es ep t) (hsz : es.size ≤ sizeLine)
    (h : ∀ (I : Addr) (fp : List Addr) (order : List Value) (St : Nat → Heap → Prop) (h' : Heap) (d : Drawn), List.Perm order (es.toList.map (·.2)) → (∀ b ∈ fp, b < h'.objs.size) → s.heap.objs.size ≤ I → I ∈ fp → (∀ b ∈ fp, b = a ∨ s.heap.objs.size ≤ b) → Walks prog w A I fp [I] es.size (fun i v => order[i]? = some v) St → St 0 h' →
      (∀ b o, s.heap.get? b = some o → h'.get? b = some o) → Q (.ref I) { s with heap := h', drawn := d }) : wpAny (model prog w) A (pyIter (.ref a)) Q E s := by
  have hlt : @LT.lt Nat _ a s.heap.objs.size := S.hs.lt
  have hpl : t.place.size = es.size := by
    have := S.fit
    simp only [SetTable.fits, Bool.and_eq_true, beq_iff_eq] at this
    exact this.1
  refine iter_set S hsz (fun hm => ?_) (fun r d hr => ?_)
  · have hI : a ≠ s.heap.objs.size := Nat.ne_of_lt hlt
    have fpl : ∀ b ∈ [s.heap.objs.size, a], b < (s.heap.push { cls := .type "set_iterator", data := .fields #[.int 0 0, .int 0 0, .ref a, .int es.size 0, .int ep 0] }).objs.size := fun b hb => by
      rw [size_push']
      simp at hb
      rcases hb with e | e
      · rw [e]; exact Nat.lt_succ_self _
      · rw [e]; exact Nat.lt_succ_of_lt hlt
    have st0 : SetIs (s.heap.push { cls := .type "set_iterator", data := .fields #[.int 0 0, .int 0 0, .ref a, .int es.size 0, .int ep 0] }) a es ep t := S.hs.at fun o e => Heap.get?_push_of_some _ e
    have si0 : SiAt (s.heap.push { cls := .type "set_iterator", data := .fields #[.int 0 0, .int 0 0, .ref a, .int es.size 0, .int ep 0] }) s.heap.objs.size (.int (0 : Nat) 0) 0 a es.size ep := ⟨_, Heap.get?_push_size _ rfl, rfl, rfl⟩
    by_cases hb : w.params.followText "set-order" = true
    · have hp := pick_perm (w.params.setOrder a ep) es
      have hpl' : (pickOrder (w.params.setOrder a ep) es).size = es.size := by rw [← Array.length_toList, hp.length_eq, Array.length_toList]
      refine h s.heap.objs.size _ ((pickOrder (w.params.setOrder a ep) es).toList.map (·.2)) _ _ s.drawn (hp.map _) fpl (Nat.le_refl _) (by simp) (fun b hb => by simp at hb; rcases hb with e | e <;> subst e <;> simp)
        (walks_int hh hI S.fit _ (by rw [List.length_map, Array.length_toList]; exact hpl') (fun _ => 0) (fun i v hv s' A' E' R hs' hR => ?_) (fun s' A' E' R hs' hR => ?_)) ⟨st0, si0⟩ (fun b o e => Heap.get?_push_of_some _ e)
      · refine setNext_text hb hs' S.fit ?_
        rw [List.getElem?_map, Array.getElem?_toList] at hv
        cases q : (pickOrder (w.params.setOrder a ep) es)[i]? with
        | none => rw [q] at hv; cases hv
        | some x => rw [q] at hv; cases hv; exact hR
      · refine setNext_text hb hs' S.fit ?_
        rw [Array.getElem?_eq_none (by omega)]
        exact hR
    · have hb' : w.params.followText "set-order" = false := by simpa using hb
      have hp : (!t.plain && decide (es.size > 1)) = false := hm.resolve_left hb
      have hled : t.led = true := S.led.resolve_left hb
      have hr : Rise t.place := by
        cases q : t.plain with
        | true => exact S.inv.up q
        | false =>
          rw [q] at hp
          intro i k hik hk
          have : ¬ es.size > 1 := by simpa using hp
          omega
      refine h s.heap.objs.size _ (es.toList.map (·.2)) _ _ s.drawn (List.Perm.refl _) fpl (Nat.le_refl _) (by simp) (fun b hb => by simp at hb; rcases hb with e | e <;> subst e <;> simp)
        (walks_int hh hI S.fit _ (by rw [List.length_map, Array.length_toList]) (slAt t) (fun i v hv s' A' E' R hs' hR => ?_) (fun s' A' E' R hs' hR => ?_)) ⟨st0, si0⟩ (fun b o e => Heap.get?_push_of_some _ e)
      · refine setNext_plain hb' hp hled hs' S.fit ?_
        rw [List.getElem?_map, Array.getElem?_toList] at hv
        cases q : es[i]? with
        | none => rw [q] at hv; cases hv
        | some x =>
          rw [q] at hv; cases hv
          have hi : i < es.size := by
            rcases Nat.lt_or_ge i es.size with z | z
            · exact z
            · rw [Array.getElem?_eq_none z] at q; cases q
          have e2 : t.place[i]? = some (t.place.getD i 0) := by simp [Array.getD, hpl, hi]
          rw [below_sl hr (by omega), q, e2]
          exact hR
      · refine setNext_plain hb' hp hled hs' S.fit ?_
        rw [below_sl hr (by omega), Array.getElem?_eq_none (Nat.le_refl _)]
        exact hR
  · have hl : r.length = es.size := by rw [hr.length_eq, List.length_range]
    have k1 : ∀ b o, s.heap.get? b = some o → ((s.heap.push { cls := .type "tuple", data := .seq ((r.map fun (i : Nat) => rawInt i).toArray) }).push { cls := .type "set_iterator", data := .fields #[.ref s.heap.objs.size, .int 0 0, .ref a, .int es.size 0, .int ep 0] }).get? b = some o := fun b o e =>
      Heap.get?_push_of_some _ (Heap.get?_push_of_some _ e)
    have hs2 : (s.heap.push { cls := .type "tuple", data := .seq ((r.map fun (i : Nat) => rawInt i).toArray) }).objs.size = s.heap.objs.size + 1 := size_push' _ _
    have e1 : (r.map fun p => ((es[p]?).getD default).2).Perm (es.toList.map (·.2)) := by
      refine (hr.map _).trans ?_
      have : (List.range es.size).map (fun p => ((es[p]?).getD default).2) = es.toList.map (·.2) := by
        apply List.ext_getElem
        · simp
        · intro i h1 h2
          simp at h1 h2
          simp [h1]
      rw [this]
    refine h (s.heap.objs.size + 1) _ _ _ _ d e1 (fun b hb => ?_) (Nat.le_succ _) ?_ (fun b hb => ?_) (walks_drawn (T := s.heap.objs.size) (oT := { cls := .type "tuple", data := .seq ((r.map fun (i : Nat) => rawInt i).toArray) }) hh (Nat.ne_of_lt (Nat.lt_succ_of_lt hlt)) (Nat.ne_of_lt (Nat.lt_succ_self _)) S.fit r hr rfl)
      ⟨S.hs.at fun o e => k1 a o e, ⟨{ cls := .type "set_iterator", data := .fields #[.ref s.heap.objs.size, .int 0 0, .ref a, .int es.size 0, .int ep 0] }, ?_, rfl, rfl⟩, ?_⟩ k1
    · rw [size_push', hs2]
      simp at hb
      rcases hb with e | e | e
      · rw [e]; exact Nat.lt_succ_self _
      · rw [e]; exact Nat.lt_succ_of_lt (Nat.lt_succ_of_lt hlt)
      · rw [e]; exact Nat.lt_succ_of_lt (Nat.lt_succ_self _)
    · simp
    · simp at hb
      rcases hb with e | e | e
      · exact .inr (by rw [e]; exact Nat.le_succ _)
      · exact .inl e
      · exact .inr (by rw [e]; exact Nat.le_refl _)
    · rw [show s.heap.objs.size.succ = _ from hs2.symm]
      exact Heap.get?_push_size _ rfl
    · exact Heap.get?_push_of_some _ (Heap.get?_push_size _ rfl)
theorem hint_set (hT : s.TypeIs (.ref r) "set") {Q : Bool → Shared → Prop} (h : Q false s) : wpAny (model prog w) A (Builtin.List.listLengthHint (.ref r)) Q E s := by
  unfold Builtin.List.listLengthHint
  refine wpAny_bind (wpAny_specialOf hT PySem.F.slot_set_len.lookup ?_)
  generalize hid : ("set.__len__" : String) = id0
  wp_delta
  rw [show splitId id0 = some ("set", "__len__") from by subst hid; decide +kernel]
  subst hid
  refine wpAny_bind (wpAny_isInstance (T := "set") (b := true) hT (by rw [isSubtype_type]; kernel_rfl) ?_)
  refine wpAny_ite_split (fun hab => absurd hab (by decide)) (fun _ => ?_)
  refine wpAny_ite_split (fun _ => ?_) (fun hab => absurd (by decide +kernel) hab)
  refine wpAny_bind (wpAny_typeOf hT ?_)
  exact wpAny_pure h
end
end SF


set_option Elab.async false
set_option linter.all false
set_option maxRecDepth 100000
set_option maxHeartbeats 4000000
namespace SF
open PySem PySem.Calls PyProof.Rows
section
variable {prog : Program} {w : World} {A : Around} {E : Value → Shared → Prop} {s : Shared}

theorem extend_set (hh : A.handled = none) {a S : Addr} {es : Array (Int × Value)} {ep : Nat} {t : SetTable} {R : Result → Shared → Prop} (hS : SI prog w s a es ep t) (hsz : es.size ≤ sizeLine) (hne : S ≠ a) (res : Value) (c0 : Nat)
    (hL : s.heap.get? S = some { cls := .type "list", data := .seq #[] c0 })
    (hR : ∀ h' d tk (acc : Array Value) (order : List Value) c', (∀ b o, b ≠ S → s.heap.get? b = some o → h'.get? b = some o) → h'.get? S = some { cls := .type "list", dict := none, data := .seq acc c', slots := #[] } →
      List.Perm order (es.toList.map (·.2)) → acc.toList = order → R (.ok (.ret res)) { s with heap := h', toks := tk, drawn := d }) :
    wpAny (model prog w) A.in1 (Builtin.List.listExtendWith (.ref S) (.ref a) res)
      (fun fin s' => match fin with | .done f => R (.ok f) s' | .again c' => c'.quiet = true ∧ codeAny (model prog w) A c' R s') (fun e s' => R (.error e) s') s := by
  unfold Builtin.List.listExtendWith
  refine wpAny_bind (wpAny_typeOf (T := "set") hS.hs.typeIs ?_)
  have h1 : Builtin.List.listSameRef (.ref S) (.ref a) = false := by simp [Builtin.List.listSameRef, hne]
  rw [if_neg (by rw [h1]; decide)]
  refine wpAny_bind (iter_walks (A := A.in1) hh hS hsz fun I fp order St h' d hp hfl hI hIm hfp W st hk => ?_)
  have hltS := Heap.lt_size hL
  have hSf : S ∉ fp := fun hm => by
    rcases hfp S hm with e | e
    · exact hne e
    · exact absurd (Nat.lt_of_lt_of_le hltS e) (Nat.lt_irrefl _)
  have hol : order.length = es.size := by rw [hp.length_eq, List.length_map, Array.length_toList]
  have key : ∀ (h2 : Heap) (c1 tk : Nat), St 0 h2 → (∀ b o, b ≠ S → s.heap.get? b = some o → h2.get? b = some o) → h2.get? S = some { cls := .type "list", data := .seq #[] c1 } →
      codeAny (model prog w) A (.builtin "list.extend.loop" ⟨[.ref S, .ref I, res], []⟩) R { s with heap := h2, toks := tk, drawn := d } := by
    intro h2 c1 tk hst hk2 hS1
    refine codeAny_extend_loopS W.toS hsz S hSf res es.size 0 _ #[] c1 rfl (Nat.zero_le _) hst hS1 (ItemsOf.nil _) fun s' acc' c' hm hS' hacc => ?_
    rw [Moved.eq_with hm]
    refine hR s'.heap d s'.toks acc' order c' (fun b o hb e => hm.heap b o (fun hmem => ?_) (hk2 b o hb e)) hS' hp ?_
    · rcases List.mem_cons.mp hmem with e' | hmem
      · exact hb e'
      · rw [List.mem_singleton.mp hmem] at e
        exact absurd (Heap.lt_size e) (Nat.not_lt.mpr hI)
    · apply List.ext_getElem?
      intro i
      rw [Array.getElem?_toList]
      cases q : acc'[i]? with
      | none =>
        have : acc'.size ≤ i := by
          rcases Nat.lt_or_ge i acc'.size with z | z
          · rw [Array.getElem?_eq_getElem z] at q; cases q
          · exact z
        rw [hacc.1] at this
        rw [List.getElem?_eq_none (by omega)]
      | some v => exact (hacc.2 i v q).symm
  refine wpAny_bind (wpAny_holding (hint_set (s := { s with heap := h', drawn := d }) (SetIs.typeIs (s := { s with heap := h', drawn := d }) (hS.hs.at fun o e => hk a o e)) ?_))
  have hS1 := hk _ _ hL
  refine wpAny_ite_split (fun _ => ?_) (fun _ => wpAny_pure ⟨plainId_quiet PySem.F.plain_extend_loop _, key _ c0 _ st (fun b o _ e => hk b o e) hS1⟩)
  refine wpAny_bind (wpAny_rule ?_)
  refine wpAny_bind ?_
  show wpAny _ _ (updateSeq S (·.push .none) >>= fun _ => updateSeq S (·.pop)) _ _ _
  refine wpAny_bind (wpAny_updateSeq hS1 rfl ?_)
  have hS2 := Heap.get?_update_self (Obj.mapSeq (·.push Value.none)) hS1 rfl
  refine wpAny_updateSeq (hz := by seq_fits) hS2 rfl ?_
  have hS3 := Heap.get?_update_self (Obj.mapSeq (·.pop)) hS2 rfl
  refine wpAny_pure ⟨plainId_quiet PySem.F.plain_extend_loop _, key _ _ _ ?_ (fun b o hb e => ?_) hS3⟩
  · refine W.frame 0 _ _ st fun b hb o e => ?_
    have hbS : b ≠ S := fun h => hSf (h ▸ hb)
    exact (Heap.get?_update_other _ _ (Ne.symm hbS)).trans ((Heap.get?_update_other _ _ (Ne.symm hbS)).trans e)
  · exact (Heap.get?_update_other _ _ (Ne.symm hb)).trans ((Heap.get?_update_other _ _ (Ne.symm hb)).trans (hk b o e))

theorem collect_set (hh : A.handled = none) {a : Addr} {es : Array (Int × Value)} {ep : Nat} {t : SetTable} {R : List Value → Shared → Prop} (hS : SI prog w s a es ep t) (hsz : es.size ≤ sizeLine)
    (h : ∀ h' d tk (order : List Value), s.heap.objs.size < h'.objs.size → (∀ b o, s.heap.get? b = some o → h'.get? b = some o) → List.Perm order (es.toList.map (·.2)) → R order { s with heap := h', toks := tk, drawn := d }) :
    wpAny (model prog w) A (collect (.ref a)) R E s := by
  have hlt : @LT.lt Nat _ a s.heap.objs.size := hS.hs.lt
  unfold collect
  refine wpAny_bind (wpAny_runValue (codeAny_builtin entry_proto_collect' ?_))
  rw [Around.under_plainId PySem.F.plain_proto_collect _]
  show wpAny _ A.in1 (newList [] >>= fun l => again (.builtin "list.__iadd__" ⟨[l, .ref a], []⟩)) _ _ s
  refine wpAny_bind (wpAny_newObj_type ?_)
  refine wpAny_pure ⟨plainId_quiet PySem.F.plain_list_iadd _, codeAny_builtin entry_list_iadd' ?_⟩
  rw [Around.under_plainId PySem.F.plain_list_iadd _]
  have hS1 : (s.heap.push { cls := .type "list", data := .seq ([] : List Value).toArray }).get? s.heap.objs.size = some { cls := .type "list", data := .seq #[] } := Heap.get?_push_size _ rfl
  show wpAny _ A.in1 (Builtin.List.listExtendWith (.ref s.heap.objs.size) (.ref a) (.ref s.heap.objs.size)) _ _ _
  have S' : SI prog w { s with heap := s.heap.push { cls := .type "list", data := .seq ([] : List Value).toArray } } a es ep t := ⟨hS.hs.at fun o e => Heap.get?_push_of_some _ e, hS.fit, hS.inv, hS.led⟩
  have key := extend_set (A := A) (R := fun (q : Result) (s' : Shared) => ∃ (h' : Heap) (d : Drawn) (tk : Nat) (acc : Array Value) (order : List Value) (c' : Nat), q = .ok (.ret (.ref s.heap.objs.size)) ∧ s' = { s with heap := h', toks := tk, drawn := d } ∧
      (∀ b o, s.heap.get? b = some o → h'.get? b = some o) ∧ h'.get? s.heap.objs.size = some { cls := .type "list", dict := none, data := .seq acc c', slots := #[] } ∧ List.Perm order (es.toList.map (·.2)) ∧ acc.toList = order)
    hh S' hsz (Nat.ne_of_gt hlt) (.ref s.heap.objs.size) 0 hS1
    (fun h' d tk acc order c' hk hL hp ha => ⟨h', d, tk, acc, order, c', rfl, rfl, fun b o e => hk b o (Nat.ne_of_lt (Heap.lt_size e)) (Heap.get?_push_of_some _ e), hL, hp, ha⟩)
  refine wpAny_mono key (fun fin s' x => ?_) fun e s' x => ?_
  · cases fin with
    | done f =>
      obtain ⟨h', d, tk, acc, order, c', e, rfl, hk, hL, hp, ha⟩ := x
      cases e
      show wpAny _ A (load s.heap.objs.size >>= _) _ _ _
      refine wpAny_bind (wpAny_load hL ?_)
      refine wpAny_pure ?_
      rw [ha]
      exact h h' d tk order (Heap.lt_size hL) hk hp
    | again c1 =>
      refine ⟨x.1, codeAny_mono x.2 fun q s2 y => ?_⟩
      obtain ⟨h', d, tk, acc, order, c', rfl, rfl, hk, hL, hp, ha⟩ := y
      show wpAny _ A (load s.heap.objs.size >>= _) _ _ _
      refine wpAny_bind (wpAny_load hL ?_)
      refine wpAny_pure ?_
      rw [ha]
      exact h h' d tk order (Heap.lt_size hL) hk hp
  · obtain ⟨_, _, _, _, _, _, e', _⟩ := x
    cases e'
theorem ints_perm : ∀ {us vs : List Value}, List.Perm us vs → ∀ {ns : List Int}, IntsAre vs ns → ∃ ms, IntsAre us ms ∧ List.Perm ms ns := by
  intro us vs hp
  induction hp with
  | nil => intro ns h; cases h; exact ⟨[], .nil, .nil⟩
  | cons x _ ih =>
    intro ns h
    cases h with
    | cons n t r =>
      obtain ⟨ms, h1, h2⟩ := ih r
      exact ⟨n :: ms, .cons n t h1, h2.cons _⟩
  | swap x y l =>
    intro ns h
    cases h with
    | cons n t r =>
      cases r with
      | cons n' t' r' => exact ⟨_, .cons _ _ (.cons _ _ r'), List.Perm.swap _ _ _⟩
  | trans _ _ ih1 ih2 =>
    intro ns h
    obtain ⟨ms, h1, h2⟩ := ih2 h
    obtain ⟨ms', h3, h4⟩ := ih1 h1
    exact ⟨ms', h3, h4.trans h2⟩
theorem sorted_set (hh : A.handled = none) {a : Addr} {es : Array (Int × Value)} {ep : Nat} {t : SetTable} {ns : List Int} {Q : Value → Shared → Prop} (hS : SI prog w s a es ep t) (hI : IntsAre (es.toList.map (·.2)) ns) (h64 : ns.length < 64)
    (h : ∀ (D : Addr) (h' : Heap) (d : Drawn) (tk : Nat) (out : Array Value) (ms : List Int) (c : Nat), s.heap.objs.size ≤ D → (∀ b o, s.heap.get? b = some o → h'.get? b = some o) → h'.get? D = some { cls := .type "list", data := .seq out c } → IntsAre out.toList ms → ms.Perm ns → ms.Pairwise (· ≤ ·) →
      Q (.ref D) { s with heap := h', toks := tk, drawn := d }) :
    wpAny (model prog w) A (call (.builtin "sorted") [.ref a]) Q E s := by
  have hl : es.size = ns.length := by rw [← IntsAre.length hI, List.length_map, Array.length_toList]
  have hsz : es.size ≤ sizeLine := by rw [hl, sizeLine_eq]; omega
  refine call_function_entry kind_sorted plain_sorted entry_sorted (args_sorted1 _) ?_
  unfold Builtin.«sorted»
  refine wpAny_bind (m := checkCount "sorted" 1 1 _) (wpAny_pure ?_)
  refine wpAny_bind (collect_set (A := A.in1) hh hS hsz fun h' d tk order hlt hk hp => ?_)
  obtain ⟨ms, hms, hmp⟩ := ints_perm hp hI
  have hol : order.length = ns.length := by rw [IntsAre.length hms, hmp.length_eq]
  refine wpAny_bind (wpAny_newList ?_ (by rw [hol, ← hl]; exact hsz))
  have hD : (h'.push (seqObj "list" order.toArray 0)).get? h'.objs.size = some (seqObj "list" order.toArray 0) := Heap.get?_push_size _ rfl
  refine wpAny_bind (wpAny_holding (wpAny_call_entry slot_list_sort ⟨_, hD, rfl⟩ entry_list_sort (list_sort_tree hD hms (by omega) fun out ms' a1 a2 a3 => ⟨_, rfl, ?_⟩) (args_list_sort _)))
  obtain ⟨c, hc⟩ := sortedHeap_at (out := out) hD
  refine wpAny_pure ⟨_, rfl, h h'.objs.size _ d tk out ms' c (Nat.le_of_lt hlt) (fun b o e => ?_) hc a1 (a2.trans hmp) a3⟩
  have hb := Heap.lt_size (hk b o e)
  rw [sortedHeap_old (Nat.ne_of_lt hb) (by rw [size_push']; exact Nat.lt_succ_of_lt hb)]
  exact Heap.get?_push_of_some _ (hk b o e)
end
end SF


set_option Elab.async false
set_option linter.all false
set_option maxRecDepth 100000
set_option maxHeartbeats 4000000
namespace SF
open PySem PySem.Calls PyProof.Rows

/-- a set of ints, with what its walk asks -/
def SetL (prog : Program) (w : World) (h : Heap) (a : Addr) (us : List Int) : Prop :=
  ∃ es ep t, SetIs h a es ep t ∧ t.fits es.size = true ∧ TInv t ∧ (w.params.followText "set-order" = true ∨ t.led = true) ∧ ElemsOf (intKind prog w) es.toList ∧ IntsAre (es.toList.map (·.2)) us ∧ us.Nodup
theorem SetL.at {prog : Program} {w : World} {h h' : Heap} {a : Addr} {us : List Int} (x : SetL prog w h a us) (e : ∀ o, h.get? a = some o → h'.get? a = some o) : SetL prog w h' a us := by
  obtain ⟨es, ep, t, hs, r⟩ := x
  exact ⟨es, ep, t, hs.at e, r⟩
theorem ints_mem : ∀ {vs : List Value} {us : List Int} {k : Int}, IntsAre vs us → (k ∈ us ↔ ∃ v ∈ vs, Value.isInt k v = true)
  | _, _, k, .nil => by simp
  | _, _, k, .cons n t r => by
    have ih := ints_mem (k := k) r
    rw [List.mem_cons, ih]
    constructor
    · rintro (e | ⟨v, hv, e⟩)
      · subst e
        exact ⟨_, List.mem_cons_self, by simp [Value.isInt]⟩
      · exact ⟨v, List.mem_cons_of_mem _ hv, e⟩
    · rintro ⟨v, hv, e⟩
      rcases List.mem_cons.mp hv with z | z
      · subst z
        exact .inl (by have q : n = k := by simpa [Value.isInt] using e
                       exact q.symm)
      · exact .inr ⟨v, z, e⟩
theorem ints_snoc : ∀ {vs : List Value} {us : List Int} (k : Int) (t : Tok), IntsAre vs us → IntsAre (vs ++ [.int k t]) (us ++ [k])
  | _, _, k, t, .nil => .cons k t .nil
  | _, _, k, t, .cons n t' r => .cons n t' (ints_snoc k t r)
section
variable {prog : Program} {w : World} {A : Around} {E : Value → Shared → Prop} {s : Shared}

theorem store_L {h : Heap} {a : Addr} {es es' : Array (Int × Value)} {ep : Nat} {t t' : SetTable} {us : List Int} (hs : SetIs h a es ep t) (hf : t'.fits es'.size = true) (hi : TInv t') (hl : w.params.followText "set-order" = true ∨ t'.led = true)
    (hel : ElemsOf (intKind prog w) es'.toList) (hI : IntsAre (es'.toList.map (·.2)) us) (hn : us.Nodup) : SetIs (h.update a (Obj.putSet es' t')) a es' (ep + 1) t' ∧ SetL prog w (h.update a (Obj.putSet es' t')) a us := by
  obtain ⟨o, ho, hex, hd⟩ := hs
  have hg : (h.update a (Obj.putSet es' t')).get? a = some { o with data := .set es' (ep + 1) t' } := by
    have z := Heap.get?_update_self (Obj.putSet es' t') ho (by rw [putSet_of es' t' hd]; rfl)
    rw [putSet_of es' t' hd] at z
    exact z
  have q : SetIs (h.update a (Obj.putSet es' t')) a es' (ep + 1) t' := ⟨_, hg, hex, rfl⟩
  exact ⟨q, es', ep + 1, t', q, hf, hi, hl, hel, hI, hn⟩
theorem perm_push {es es' : Array (Int × Value)} {c : Int} {x : Value} (hp : List.Perm es'.toList (es.push (c, x)).toList) : List.Perm (es'.toList.map (·.2)) (es.toList.map (·.2) ++ [x]) := by
  refine (hp.map _).trans ?_
  rw [Array.toList_push, List.map_append]
  exact List.Perm.refl _
theorem off_inv {t : SetTable} (h : TInv t) : TInv { t with plain := false } := ⟨h.nod, fun z => by cases z⟩
theorem add_int {a : Addr} {us : List Int} {k : Int} {tk : Tok} {Q : Bool → Shared → Prop} (hS : SetL prog w s.heap a us) (hroom : us.length + 1 < scanBound)
    (h : ∀ (b : Bool) (h' : Heap) (us' : List Int), Heap.SameBut a s.heap h' → SetL prog w h' a us' → (∀ j, j ∈ us' ↔ j ∈ us ∨ j = k) → us'.length ≤ us.length + 1 → Q b { s with heap := h' }) :
    wpAny (model prog w) A (setAddHashed a (.int k tk) ((intKind prog w).hash k)) Q E s := by
  obtain ⟨es, ep, t, hs, hf, hi, hl, hel, hI, hn⟩ := id hS
  obtain ⟨o, ho, hex, hd⟩ := id hs
  have hsz : es.size = us.length := by rw [← IntsAre.length hI, List.length_map, Array.length_toList]
  have hmem : k ∈ us ↔ ∃ e ∈ es.toList, (intKind prog w).is k e.2 = true := by
    rw [ints_mem hI]
    constructor
    · rintro ⟨v, hv, e⟩
      obtain ⟨p, hp, rfl⟩ := List.mem_map.mp hv
      exact ⟨p, hp, e⟩
    · rintro ⟨p, hp, e⟩
      exact ⟨p.2, List.mem_map.mpr ⟨p, hp, rfl⟩, e⟩
  unfold setAddHashed setAddHashedIn
  refine wpAny_holding (wpAny_bind (wpAny_setState_of ho hd hf ?_))
  dsimp only
  rw [byScan_of (knd := intKind prog w) (x := .int k tk) rfl (by omega) hel]
  simp only [↓reduceIte]
  unfold setAddByScan
  refine wpAny_bind ?_
  refine wpAny_bind (wpAny_rule ?_)
  refine wpAny_bind (wpAny_setScan_of (knd := intKind prog w) (intKind_is _ _ _ _) ho hd hf hel ?_)
  cases hr : List.findIdx? (fun e => (intKind prog w).is k e.2) es.toList with
  | some j =>
    dsimp only
    obtain ⟨hj, hpj, _⟩ := List.findIdx?_eq_some_iff_getElem.mp hr
    have hk : k ∈ us := hmem.mpr ⟨es.toList[j], List.getElem_mem hj, hpj⟩
    refine wpAny_pure (wpAny_pure ?_)
    exact h false s.heap us (Heap.SameBut.refl a s.heap) hS (fun i => ⟨.inl, fun z => z.elim id fun e => e ▸ hk⟩) (Nat.le_succ _)
  | none =>
    dsimp only
    have hk : k ∉ us := fun z => by
      obtain ⟨e, he, q⟩ := hmem.mp z
      have := List.findIdx?_eq_none_iff.mp hr e he
      rw [q] at this
      cases this
    have hperm := layNew_perm t es ((intKind prog w).hash k) (.int k tk)
    have hfits := layNew_fits t es ((intKind prog w).hash k) (.int k tk)
    have hinv := layNew_inv es ((intKind prog w).hash k) (.int k tk) hi
    generalize hL : layNew t es ((intKind prog w).hash k) (.int k tk) = L at hperm hfits hinv ⊢
    obtain ⟨es1, t1, wd, gave⟩ := L
    dsimp only at hperm hfits hinv ⊢
    have hel1 : ElemsOf (intKind prog w) es1.toList := by
      have z := hperm
      rw [Array.toList_push] at z
      exact (hel.push (intKind_is _ _ _ _) rfl).perm z
    obtain ⟨us1, hI1, hp1⟩ := ints_perm (perm_push hperm) (ints_snoc k tk hI)
    have hn1 : us1.Nodup := hp1.nodup_iff.mpr (by
      rw [List.nodup_append]
      exact ⟨hn, by simp, fun x hx y hy => by rw [List.mem_singleton.mp hy]; rintro rfl; exact hk hx⟩)
    have hl1 : us1.length = us.length + 1 := by rw [hp1.length_eq, List.length_append]; rfl
    have hm1 : ∀ j, j ∈ us1 ↔ j ∈ us ∨ j = k := fun j => by rw [hp1.mem_iff, List.mem_append, List.mem_singleton]
    have hsz1 : es1.size = us1.length := by rw [← IntsAre.length hI1, List.length_map, Array.length_toList]
    have hb1 : es1.size < scanBound := by omega
    have hgw : ∀ (b : Bool) {s₁ : Shared} {Q' : Unit → Shared → Prop}, Q' () s₁ → wpAny (model prog w) A (match b with | true => rule "set.scan.the-table-gave-way" | false => pure ()) Q' E s₁ :=
      fun b s₁ Q' hq => by cases b <;> first | exact wpAny_pure hq | exact wpAny_rule hq
    refine wpAny_bind (hgw _ ?_)
    -- the store, and perhaps a table laid anew
    have tail : ∀ t2 : SetTable, t2.fits es1.size = true → TInv t2 → (w.params.followText "set-order" = true ∨ t2.led = true) → ∀ (g : Bool → Sem Unit) (wd' : Bool) (R : Option Bool → Shared → Prop),
        (∀ (b : Bool) (s₁ : Shared) (Q' : Unit → Shared → Prop), Q' () s₁ → wpAny (model prog w) A (g b) Q' E s₁) → (∀ h' us', Heap.SameBut a s.heap h' → SetL prog w h' a us' → us'.Perm us1 → R (some true) { s with heap := h' }) →
        wpAny (model prog w) A (storeSet a es1 t2 >>= fun _ => if (!wd' && t2.tooFull) = true then (g (relayAll t2 es1 (SetTable.grown es1.size)).2.2 >>= fun _ => storeSet a (relayAll t2 es1 (SetTable.grown es1.size)).1 (relayAll t2 es1 (SetTable.grown es1.size)).2.1 >>= fun _ => pure (some true)) else pure (some true)) R E s := by
      intro t2 f2 i2 l2 g wd' R hg hR
      refine wpAny_bind (wpAny_storeSet_of ho hd ?_ (fits_of_scanBound hb1))
      obtain ⟨q1, q2⟩ := store_L (prog := prog) (w := w) hs f2 i2 l2 hel1 hI1 hn1
      have sb1 := Heap.SameBut.update s.heap a (Obj.putSet es1 t2)
      split
      · have rp := relayAll_perm t2 es1 (SetTable.grown es1.size)
        have rf := relayAll_fits t2 es1 (SetTable.grown es1.size)
        have ri := relayAll_inv (t := t2) es1 (SetTable.grown es1.size)
        generalize relayAll t2 es1 (SetTable.grown es1.size) = Rl at rp rf ri ⊢
        obtain ⟨es2, t3, gave2⟩ := Rl
        dsimp only at rp rf ri ⊢
        obtain ⟨us2, hI2, hp2⟩ := ints_perm (rp.map (·.2)) hI1
        refine wpAny_bind (hg _ _ _ ?_)
        obtain ⟨o1, ho1, hex1, hd1⟩ := id q1
        have e2 : es2.size = es1.size := by rw [← Array.length_toList, rp.length_eq, Array.length_toList]
        refine wpAny_bind (wpAny_storeSet_of ho1 hd1 ?_ (fits_of_scanBound (by rw [e2]; exact hb1)))
        obtain ⟨_, q3⟩ := store_L (prog := prog) (w := w) q1 rf ri.1 (l2.imp id fun z => ri.2.trans z) (hel1.perm rp) hI2 (hp2.nodup_iff.mpr hn1)
        exact wpAny_pure (hR _ us2 (sb1.trans (Heap.SameBut.update _ a _)) q3 hp2)
      · exact wpAny_pure (hR _ us1 sb1 q2 (List.Perm.refl _))
    have fin : ∀ h' us', Heap.SameBut a s.heap h' → SetL prog w h' a us' → us'.Perm us1 → Q true { s with heap := h' } := fun h' us' x1 x2 x3 =>
      h true h' us' x1 x2 (fun j => by rw [x3.mem_iff]; exact hm1 j) (by rw [x3.length_eq, hl1]; exact Nat.le_refl _)
    have led1 : w.params.followText "set-order" = true ∨ t1.led = true := hl.imp id fun z => hinv.2.trans z
    split
    · refine wpAny_bind ?_
      rw [hashByValue_scannable 8 (x := .int k tk) rfl]
      refine wpAny_pure ?_
      refine tail _ ?_ ?_ ?_ _ wd _ ?_ fun h' us' x1 x2 x3 => ?_
      · split
        · exact hfits
        · exact SetTable.fits_plain_off hfits
      · split
        · exact hinv.1
        · exact off_inv hinv.1
      · split
        · exact led1
        · exact led1
      · intro b s₁ Q' hq; cases b <;> first | exact wpAny_pure hq | exact wpAny_rule hq
      · exact wpAny_pure (fin h' us' x1 x2 x3)
    · refine wpAny_bind (wpAny_pure ?_)
      simp only [↓reduceIte]
      refine tail _ hfits hinv.1 led1 _ wd _ ?_ fun h' us' x1 x2 x3 => ?_
      · intro b s₁ Q' hq; cases b <;> first | exact wpAny_pure hq | exact wpAny_rule hq
      · exact wpAny_pure (fin h' us' x1 x2 x3)
/-- set.update over a walk of ints -/
theorem update_loop {R : Result → Shared → Prop} {I : Addr} {fp wr : List Addr} {G : Array GenState → Array GenState → Prop} {n : Nat} {P : Nat → Value → Prop} {St : Nat → Shared → Prop} (W : WalksS prog w A.in1 I fp wr G n P St) (S : Addr) (hSf : S ∉ fp)
    (val : Nat → Int) (hval : ∀ i v, P i v → ∃ t, v = .int (val i) t) (hb : n + 1 < scanBound) :
    ∀ (k i : Nat) (s : Shared) (us : List Int), n - i = k → i ≤ n → St i s → SetL prog w s.heap S us → us.length ≤ i → (∀ j, j ∈ us ↔ ∃ m, m < i ∧ val m = j) →
      (∀ s' us', Moved (S :: wr) G s s' → SetL prog w s'.heap S us' → us'.length ≤ n → (∀ j, j ∈ us' ↔ ∃ m, m < n ∧ val m = j) → R (.ok (.ret .none)) s') →
      codeAny (model prog w) A (.builtin "set.update.loop" ⟨[.ref S, .ref I], []⟩) R s := by
  have hSw : S ∉ wr := fun h => hSf (W.sub _ h)
  have hsub : ∀ b ∈ wr, b ∈ S :: wr := fun b hb => List.mem_cons_of_mem _ hb
  intro k
  induction k with
  | zero =>
    intro i s us hk hi hst hS hlen hmem hR
    have hin : i = n := by omega
    subst hin
    refine codeAny_builtin PyProof.Rows.F.entry_set_update_loop ?_
    rw [Around.under_plainId PyProof.Rows.F.plain_set_update_loop _]
    show wpAny _ A.in1 (pyNext (.ref I) >>= _) _ _ s
    refine wpAny_bind (W.done s _ _ hst fun s' hm => ?_)
    show wpAny _ A.in1 (ret Value.none) _ _ s'
    exact wpAny_pure (hR s' us (hm.mono hsub) (hS.at fun o e => hm.heap S o hSw e) hlen hmem)
  | succ k ih =>
    intro i s us hk hi hst hS hlen hmem hR
    have hlt : i < n := by omega
    refine codeAny_builtin PyProof.Rows.F.entry_set_update_loop ?_
    rw [Around.under_plainId PyProof.Rows.F.plain_set_update_loop _]
    show wpAny _ A.in1 (pyNext (.ref I) >>= _) _ _ s
    refine wpAny_bind (W.item i s _ _ hlt hst fun v s' hP hst' hm => ?_)
    obtain ⟨t, rfl⟩ := hval i v hP
    have hS' : SetL prog w s'.heap S us := hS.at fun o e => hm.heap S o hSw e
    show wpAny _ A.in1 (holding [Value.int (val i) t] (setAdd S (.int (val i) t)) >>= _) _ _ s'
    refine wpAny_bind (wpAny_holding ?_)
    unfold setAdd
    refine wpAny_holding ?_
    refine wpAny_bind ((intKind prog w).pyHash (k := val i) (intKind_is _ _ _ _) ?_)
    refine add_int (s := { s' with toks := s'.toks + 1 }) hS' (by omega) fun b h' us' hsb hS2 hm2 hl2 => ?_
    refine wpAny_pure ⟨plainId_quiet PyProof.Rows.F.plain_set_update_loop _, ih (i + 1) _ us' (by omega) hlt (W.frame _ s' _ _ hst' (Nat.le_succ _) fun b hb o e => ?_) hS2 (by omega) (fun j => ?_) fun s'' us'' hm'' hS'' hl'' hmem'' => ?_⟩
    · rw [hsb.2 b (fun h : b = S => hSf (by rw [← h]; exact hb))]; exact e
    · rw [hm2, hmem]
      constructor
      · rintro (⟨m, h1, h2⟩ | e)
        · exact ⟨m, by omega, h2⟩
        · exact ⟨i, by omega, e.symm⟩
      · rintro ⟨m, h1, h2⟩
        rcases Nat.lt_or_ge m i with q | q
        · exact .inl ⟨m, q, h2⟩
        · have e : m = i := by omega
          subst e
          exact .inr h2.symm
    · refine hR s'' us'' (Moved.trans W.gtrans ((hm.mono hsub).then_heap (Nat.le_succ _) fun b o hb e => ?_) hm'') hS'' hl'' hmem''
      rw [hsb.2 b (fun h : b = S => hb (by rw [h]; exact List.mem_cons_self))]; exact e
theorem new_set (a : Value) {Q₁ : Value → Shared → Prop}
    (h : Q₁ (.ref s.heap.objs.size) { s with heap := s.heap.push { cls := .type "set", dict := none, data := .set #[] 0 (.fresh 0 0 (!w.params.followText "set-order")) } }) :
    codeAny (model prog w) A (.call (.builtin "set.__new__") ⟨[.type "set", a], []⟩) (wants Q₁ E) s := by
  refine codeAny_of_tree ?_
  show wpAny _ A.in1 (do checkBuiltinCall "set.__new__" ⟨[.type "set", a], []⟩; again (.builtin "set.__new__" ⟨[.type "set", a], []⟩)) _ _ s
  refine wpAny_bind (wpAny_of_eq (PySem.F.newCall_set_1 a) (wpAny_pure ⟨plainId_quiet PySem.F.plain_set_new _, codeAny_builtin PySem.F.entry_set_new ?_⟩))
  rw [Around.under_plainId PySem.F.plain_set_new _]
  unfold Builtin.«set.__new__» Builtin.Frozenset.newClass
  have hsub := sub_set_self
  obtain ⟨hp, g, d, tk, os⟩ := s
  dsimp only
  wp_walk
  refine wpAny_askSetting (wpAny_pure ?_)
  dsimp only
  simp only [newObj]
  refine wpAny_bind (wpAny_alloc (wpAny_pure ?_))
  exact wpAny_pure h
set_option maxHeartbeats 8000000 in
theorem call_set {l : Addr} {items : Array Value} {ns : List Int} {Q : Value → Shared → Prop} (hh : A.handled = none) (hl : s.heap.IsList l items) (hi : IntsAre items.toList ns) (hb : items.size + 1 < scanBound)
    (h : ∀ (h' : Heap) (tk : Nat) (us : List Int), SetL prog w h' s.heap.objs.size us → us.length ≤ ns.length → (∀ j, j ∈ us ↔ j ∈ ns) → (∀ b o, b < s.heap.objs.size → s.heap.get? b = some o → h'.get? b = some o) → Q (.ref s.heap.objs.size) { s with heap := h', toks := tk }) :
    wpAny (model prog w) A (call (.type "set") [.ref l]) Q E s := by
  obtain ⟨c, tl, hmro⟩ := PySem.F.called_set.mro
  have hmade := PySem.F.called_set.made
  have hsub := PySem.F.called_set.sub
  refine wpAny_call (codeAny_of_tree ?_)
  show wpAny _ _ (callAny (.type "set") _) _ _ _
  refine wpAny_pure ⟨Code.quiet_builtin _ (by decide +kernel), codeAny_builtin PySem.F.entry_type_call ?_⟩
  rw [Around.under_plain (weight_type_call_type "set" [.ref l] []) rfl]
  have h1 := PySem.F.called_set.notType
  have h2 := PySem.F.called_set.canCreate
  have hct := PySem.F.typeCall_set_1 (.ref l)
  generalize hled : (!w.params.followText "set-order") = led
  repeat (any_goals (first | assumption | wp_step))
  refine codeAny_mono (new_set (prog := prog) (w := w) (.ref l) (E := E) (Q₁ := fun obj s₁ => obj = .ref s.heap.objs.size ∧ s₁ = { s with heap := s.heap.push { cls := .type "set", dict := none, data := .set #[] 0 (.fresh 0 0 led) } }) (by rw [hled]; exact ⟨rfl, rfl⟩)) fun r s₁ hr => ?_
  have hld : w.params.followText "set-order" = true ∨ led = true := by
    cases q : w.params.followText "set-order" with
    | true => exact .inl rfl
    | false => rw [q] at hled; exact .inr hled.symm
  cases r with
  | error e => exact hr
  | ok fl =>
    cases fl with
    | next => exact hr.elim
    | brk => exact hr.elim
    | cont => exact hr.elim
    | ret obj =>
      obtain ⟨rfl, rfl⟩ := hr
      have hS : (s.heap.push { cls := .type "set", dict := none, data := .set #[] 0 (.fresh 0 0 led) }).get? s.heap.objs.size = some { cls := .type "set", dict := none, data := .set #[] 0 (.fresh 0 0 led) } := Heap.get?_push_size _ rfl
      have hT : Shared.TypeIs { s with heap := s.heap.push { cls := .type "set", dict := none, data := .set #[] 0 (.fresh 0 0 led) } } (.ref s.heap.objs.size) "set" := ⟨_, hS, rfl⟩
      have hli := PySem.F.called_set.init.lookup
      have hbi := PySem.F.called_set.init.bind (.ref s.heap.objs.size)
      repeat (any_goals (first | assumption | wp_step))
      refine codeAny_mono (codeAny_call_builtin (R := wants (fun r s₂ => r = .none ∧ ∃ h' tk us, s₂ = { s with heap := h', toks := tk } ∧ SetL prog w h' s.heap.objs.size us ∧ us.length ≤ ns.length ∧ (∀ j, j ∈ us ↔ j ∈ ns) ∧
          (∀ b o, b < s.heap.objs.size → s.heap.get? b = some o → h'.get? b = some o)) E) PySem.F.called_set.init.plain PySem.F.entry_set_init (check_set_init_1 hT ?_)) fun r₂ s₂ hr₂ => ?_
      · obtain ⟨ol, hol, hcl, nl, hdl⟩ := hl
        obtain ⟨ocls, odict, odata, oslots⟩ := ol
        simp only at hcl hdl
        subst hcl; subst hdl
        have hol' : (s.heap.push { cls := .type "set", dict := none, data := .set #[] 0 (.fresh 0 0 led) }).get? l = some { cls := .type "list", dict := odict, data := .seq items nl, slots := oslots } := Heap.get?_push_of_some _ hol
        have hsls := PySem.F.sub_list_set
        have hslf := PySem.F.sub_list_frozenset
        have hne : (Value.type "list" == Value.type "dict") = false := by decide
        have hl1 : (s.heap.push { cls := .type "set", dict := none, data := .set #[] 0 (.fresh 0 0 led) }).IsList l items := ⟨_, hol', rfl, nl, rfl⟩
        unfold Builtin.«set.__init__» noKeywords Builtin.Frozenset.updateFrom
        generalize hPI : pyIter = PI
        wp_walk
        subst hPI
        refine wpAny_pyIter_list hl1 ?_
        refine wpAny_bind (wpAny_runValue ?_)
        have hlS : l < s.heap.objs.size := Heap.lt_size hol
        have hh3 : A.in1.in1.in1.handled = none := by simp [hh]
        have hneI : l ≠ (s.heap.push { cls := .type "set", dict := none, data := .set #[] 0 (.fresh 0 0 led) }).objs.size := by
          rw [Heap.size_push]; exact Nat.ne_of_lt (Nat.lt_succ_of_lt hlS)
        have hSf : s.heap.objs.size ∉ [(s.heap.push { cls := .type "set", dict := none, data := .set #[] 0 (.fresh 0 0 led) }).objs.size, l] := by
          rw [Heap.size_push]; simp only [List.mem_cons, List.mem_singleton, List.not_mem_nil, or_false, not_or]
          exact ⟨Nat.ne_of_lt (Nat.lt_succ_self _), Nat.ne_of_gt hlS⟩
        have hval : ∀ (i : Nat) (v : Value), items[i]? = some v → ∃ t, v = .int ((fun i => ns.getD i 0) i) t := fun i v hv =>
          IntsAre.int_at hi i v (by rw [Array.getElem?_toList]; exact hv)
        have hnl : ns.length = items.size := by rw [← IntsAre.length hi, Array.length_toList]
        refine update_loop ((Walks.list hh3 _ l hneI items).toS) s.heap.objs.size hSf (fun i => ns.getD i 0) hval hb (items.size - 0) 0 _ [] (by omega) (Nat.zero_le _)
          ⟨⟨_, Heap.get?_push_size _ rfl, rfl, rfl⟩, (hl1.push _)⟩ ?hS0 (Nat.zero_le _) (fun j => by simp) ?hR
        case hS0 =>
          have hget : ((s.heap.push { cls := .type "set", dict := none, data := .set #[] 0 (.fresh 0 0 led) }).push { cls := .type "list_iterator", data := .fields #[.ref l, .int 0 0] }).get? s.heap.objs.size
              = some { cls := .type "set", dict := none, data := .set #[] 0 (.fresh 0 0 led) } := Heap.get?_push_of_some _ hS
          exact ⟨#[], 0, .fresh 0 0 led, ⟨_, hget, ⟨rfl, rfl, rfl⟩, rfl⟩, by rfl, ⟨rfl, fun _ i k _ hk => by simp [SetTable.fresh] at hk⟩, hld, fun e he => by simp at he, .nil, List.nodup_nil⟩
        case hR =>
          intro s' us hm hS' hlen hmem
          obtain ⟨h', g', d', tk', os'⟩ := s'
          have eg : g' = s.gens := hm.gens
          have ed : d' = s.drawn := hm.drawn
          have eo : os' = s.os := hm.os
          subst eg; subst ed; subst eo
          show wpAny _ _ _ _ _ _
          refine wpAny_pure ?_
          show wpAny _ _ (ret Value.none) _ _ _
          refine wpAny_pure ⟨rfl, h', tk', us, rfl, hS', by omega, fun j => ?_, fun b o hb e => ?_⟩
          · rw [hmem]
            constructor
            · rintro ⟨m, h1, h2⟩
              have hm' : m < ns.length := by omega
              rw [← h2]
              show ns.getD m 0 ∈ ns
              rw [List.getD_eq_getElem?_getD, List.getElem?_eq_getElem hm']
              exact List.getElem_mem hm'
            · intro hj
              obtain ⟨m, hm', e⟩ := List.getElem_of_mem hj
              refine ⟨m, by omega, ?_⟩
              show ns.getD m 0 = j
              rw [List.getD_eq_getElem?_getD, List.getElem?_eq_getElem hm']
              exact e
          have hb1 : b ≠ s.heap.objs.size := Nat.ne_of_lt hb
          have hb2 : b ≠ (s.heap.push { cls := .type "set", dict := none, data := .set #[] 0 (.fresh 0 0 led) }).objs.size := by
            rw [Heap.size_push]; exact Nat.ne_of_lt (Nat.lt_succ_of_lt hb)
          exact hm.heap b o (by simp only [List.mem_cons, List.mem_singleton, List.not_mem_nil, or_false, not_or]; exact ⟨hb1, hb2⟩) (Heap.get?_push_of_some _ (Heap.get?_push_of_some _ e))
      · cases r₂ with
        | error e => exact hr₂
        | ok fl₂ =>
          cases fl₂ with
          | ret r =>
            obtain ⟨rfl, h', tk, us, rfl, hS', h1', h2', hk'⟩ := hr₂
            repeat (any_goals (first | assumption | wp_step))
            exact h _ _ us hS' h1' h2' hk'
          | _ => exact hr₂.elim
end
end SF


set_option Elab.async false
set_option linter.all false
set_option maxRecDepth 100000
set_option maxHeartbeats 4000000
namespace L2
open PySem PySem.Spec PyProof.Rows

/-! ### sets of ints: made of a list, sorted -/
def setO (P : Program) (w : World) (l : Addr) (us : List Int) : HO := .ext fun h => SF.SetL P w h l us
theorem SetL_there {P : Program} {w : World} {h : Heap} {l : Addr} {us : List Int} (x : SF.SetL P w h l us) : ∃ o, h.get? l = some o := by
  obtain ⟨_, _, _, ⟨o, ho, _⟩, _⟩ := x
  exact ⟨o, ho⟩
section
variable {X : Cx}
theorem call_set_of (hc : X.calm = true) : CallR X (.type "set") (fun xs H Q => ∃ (p : Addr) (ns : List Int), xs = [.ref p] ∧ SqL X.K H p (ns.map V.int) ∧ ns.length < 4000 ∧ ∀ (l : Addr) (us : List Int), H l = none → us.length ≤ ns.length → us.Nodup → (∀ j, j ∈ us ↔ j ∈ ns) → Q (.ref l) (upd H l (setO X.prog X.w l us))) := by
  intro pins s σ H xs us0 Q I r h
  obtain ⟨p, ns, rfl, hp, hz, q⟩ := h
  obtain ⟨u, rfl, ru⟩ := vals1 r
  cases ru
  obtain ⟨its, hv, pl, _⟩ := I.list hp
  have hi := intsAre_of hv
  have hl : its.length = ns.length := IntsAre.length hi
  refine SF.call_set (I.ok.hd hc) (items := its.toArray) (ns := ns) pl.isList (by simpa using hi) (by rw [List.size_toArray, hl]; unfold scanBound; omega) fun h' tk us hS h1 h2 hk => ?_
  have hn : us.Nodup := by obtain ⟨_, _, _, _, _, _, _, _, _, hn⟩ := hS; exact hn
  refine ⟨.ref s.heap.objs.size, upd H s.heap.objs.size (setO X.prog X.w s.heap.objs.size us), I.laid (fun b o e => hk b o (Heap.lt_size e) e) (Nat.le_refl _) ?_, rfl, q _ us I.fresh h1 hn h2⟩
  exact ⟨hS, SetL_there hS, fun h1 h2 x e => SF.SetL.at x e⟩
theorem call_sorted_of (hc : X.calm = true) : CallR X (.builtin "sorted") (fun xs H Q => ∃ (p : Addr) (us : List Int), xs = [.ref p] ∧ H p = some (setO X.prog X.w p us) ∧ us.length < 64 ∧ ∀ (l : Addr) (ms : List Int), H l = none → ms.Perm us → ms.Pairwise (· ≤ ·) → Q (.ref l) (upd H l (.lst (ms.map V.int)))) := by
  intro pins s σ H xs us0 Q I r h
  obtain ⟨p, us, rfl, hp, hz, q⟩ := h
  obtain ⟨u, rfl, ru⟩ := vals1 r
  cases ru
  obtain ⟨hS, _, _⟩ := (show ObjOk X.prog X.w H s.heap p (setO X.prog X.w p us) from I.hok p _ hp)
  obtain ⟨es, ep, t, a1, a2, a3, a4, a5, a6, a7⟩ := hS
  refine SF.sorted_set (I.ok.hd hc) (ns := us) ⟨a1, a2, a3, a4⟩ a6 hz fun D h' d tk out ms c hD hk hg hI hperm hpw => ?_
  have hl : ms.length < 64 := by rw [hperm.length_eq]; exact hz
  have nD : H D = none := I.hok.fresh hD
  have new : ObjOk X.prog X.w (upd H D (.lst (ms.map V.int))) h' D (.lst (ms.map V.int)) := ⟨by rw [List.length_map, sizeLine_eq]; omega, out.toList, c, vals_ints hI, by rw [hg]⟩
  refine ⟨.ref D, upd H D (.lst (ms.map V.int)), I.call (g' := s.gens) (d' := d) (t' := tk) (ch := []) (Un.laid hk hD nD) (I.hok.laid hk hD new) I.bare (fun b z => absurd z (by simp)), rfl, q D ms nD hperm hpw⟩
/-! ### isinstance against a built-in type -/
theorem call_isinst : CallR X (.builtin "isinstance") (fun xs H Q => ∃ (x : V) (n : String) (t : Value) (b : Bool), xs = [x, .ty n] ∧ TyOf X.K H x t ∧ PySem.W.kitOne X.K t (.type n) = some b ∧ Q (.bl b) H) := by
  intro pins s σ H xs us Q I r h
  obtain ⟨x, n, t, b, rfl, ht, hk, q⟩ := h
  obtain ⟨u, v, rfl, ru, rv⟩ := vals2 r
  cases rv
  exact isinst_ok I ru ht hk fun tk => ⟨.bl b, H, I.tok tk, rfl, q⟩
/-! ### lists that differ -/
def cmpV (a b : V) : Prop := (∃ p, a = .ref p ∧ b = .ref p) ∨ (∃ i j, a = .int i ∧ b = .int j) ∨ ∃ i j, a = .str i ∧ b = .str j
def rNeL (K : PySem.W.Frag) : R2 := fun x y H Q => ∃ (p q : Addr) (xs ys : List V), x = .ref p ∧ y = .ref q ∧ SqL K H p xs ∧ SqL K H q ys ∧ (∀ (i : Nat) a b, xs[i]? = some a → ys[i]? = some b → cmpV a b) ∧ Q (.bl (!decide (xs = ys))) H
theorem cmpV_at {A : Around} {s : Shared} {a b : V} {u v : Value} (h : cmpV a b) (ra : RelV a u) (rb : RelV b v) : SeqAt.EqAt A s u v (decide (a = b)) := by
  rcases h with ⟨p, rfl, rfl⟩ | ⟨i, j, rfl, rfl⟩ | ⟨i, j, rfl, rfl⟩
  · cases ra
    cases rb
    rw [decide_eq_true rfl]
    exact SeqAt.EqAt.same _
  · obtain ⟨t, rfl⟩ := ra
    obtain ⟨t', rfl⟩ := rb
    rw [dec_int]
    exact SeqAt.EqAt.int_int _ _ _ _
  · obtain ⟨t, rfl⟩ := ra
    obtain ⟨t', rfl⟩ := rb
    rw [dec_str]
    exact SeqAt.EqAt.str_str _ _ _ _
theorem all_eq {xs ys : List V} (h : xs.length = ys.length) : ((List.range xs.length).all fun i => decide (xs[i]? = ys[i]?)) = decide (xs = ys) := by
  rw [Bool.eq_iff_iff, List.all_eq_true, decide_eq_true_iff]
  constructor
  · intro q
    apply List.ext_getElem?
    intro i
    rcases Nat.lt_or_ge i xs.length with z | z
    · exact of_decide_eq_true (q i (List.mem_range.mpr z))
    · rw [List.getElem?_eq_none z, List.getElem?_eq_none (by omega)]
  · rintro rfl i _
    simp
theorem op_neL (hu : X.A.units < cLine) : OpR X (compareOp .NotEq) (rNeL X.K) := by
  intro pins s σ H x y v u Q I rx ry h
  obtain ⟨p, q, xs, ys, rfl, rfl, hp, hq, hc, k⟩ := h
  cases rx
  cases ry
  obtain ⟨its, hv, pl, _⟩ := I.list hp
  obtain ⟨its2, hv2, pl2, _⟩ := I.list hq
  have e1 := hv.length
  have e2 := hv2.length
  by_cases hl : xs.length = ys.length
  · have key : SeqAt.RcNeAt X.A s (.ref p) (.ref q) (!(List.range its.toArray.size).all fun i => decide (xs[i]? = ys[i]?)) := by
      refine SeqAt.RcNeAt.lists pl.isList pl2.isList (by simp; omega) hu fun j h1 h2 => ?_
      have j1 : j < xs.length := by simp at h1; omega
      have j2 : j < ys.length := by simp at h2; omega
      have z1 : xs[j]? = some xs[j] := List.getElem?_eq_getElem j1
      have z2 : ys[j]? = some ys[j] := List.getElem?_eq_getElem j2
      obtain ⟨u1, w1, r1⟩ := hv.get z1
      obtain ⟨u2, w2, r2⟩ := hv2.get z2
      have i1 : its.toArray[j] = u1 := by
        have : its[j]? = some its[j] := List.getElem?_eq_getElem (by omega)
        rw [this] at w1
        simpa using w1
      have i2 : its2.toArray[j] = u2 := by
        have : its2[j]? = some its2[j] := List.getElem?_eq_getElem (by omega)
        rw [this] at w2
        simpa using w2
      rw [i1, i2, z1, z2]
      have e : decide (some xs[j] = some ys[j]) = decide (xs[j] = ys[j]) := by simp
      rw [e]
      exact cmpV_at (hc j _ _ z1 z2) r1 r2
    rw [List.size_toArray, ← e1, all_eq hl] at key
    exact key _ _ _ _ ⟨.bl (!decide (xs = ys)), H, I, rfl, k⟩
  · have key : SeqAt.RcNeAt X.A s (.ref p) (.ref q) true := SeqAt.RcNeAt.lists_lengths pl.isList pl2.isList (by simp; omega) hu
    rw [decide_eq_false (fun z => hl (by rw [z]))] at k
    exact key _ _ _ _ ⟨.bl true, H, I, rfl, k⟩
end
end L2


set_option Elab.async false
set_option linter.all false
set_option maxRecDepth 100000
set_option maxHeartbeats 4000000
namespace L2
open PySem PySem.Spec PyProof.Rows
section
variable {X : Cx}
end
end L2


set_option Elab.async false
set_option linter.all false
set_option maxRecDepth 100000
set_option maxHeartbeats 4000000
namespace L2
open PySem PySem.W PySem.Spec PySem.Calls PyProof.Rows
/-! ### a dict keyed by None and ints, its values all True -/
section
variable {X : Cx} {pos pos' : Pos} {o i value : Expr} {td ty tv : TE}
/-! ### lists that are alike -/
end
end L2


set_option Elab.async false
set_option linter.all false
set_option maxRecDepth 100000
set_option maxHeartbeats 4000000
namespace L2
open PySem PySem.Spec PyProof.Rows
section
variable {X : Cx} {pins : List (Addr × Obj)} {σ : St} {H : Hp} {s : Shared} {h' : Heap}
/-- records of ours have turned, and a new object came -/
theorem Inv.turnedNew {t' : Nat} {its : List Addr} {a : Addr} {o : HO} (I : Inv X pins σ H s) (k : ∀ b u, b ∉ its → s.heap.get? b = some u → h'.get? b = some u) (hf : ∀ b ∈ its, FpOk X pins H b)
    (hp : s.heap.objs.size ≤ a) (new : ObjOk X.prog X.w (upd H a o) h' a o) : Inv X pins σ (upd H a o) { s with heap := h', toks := t' } := by
  have hn : H a = none := I.hok.fresh hp
  have nit : ∀ b u, H b = some u → b ∉ its := fun b u e z => by rw [(hf b z).1] at e; cases e
  have nea : ∀ b u, s.heap.get? b = some u → b ≠ a := fun b u e => Nat.ne_of_lt (Nat.lt_of_lt_of_le (Heap.lt_size e) hp)
  refine I.step (g' := s.gens) (d' := s.drawn) (ch := its) (fun b hb => ?_) (fun b o _ _ hc e _ => k b o hc e) (fun b o _ _ hc e _ => ⟨o.slots, k b o hc e⟩) (fun b u _ e n => ?_)
    (fun b o hc e => ⟨o, k b o hc e⟩) (fun b xs e => ?_) (fun b u v e => ?_) (fun b ps e => ⟨#[], ?_⟩) (fun m hm => ?_) (fun b u e => ?_) I.bare
  · obtain ⟨_, f1, f2, f3, f4, f5⟩ := hf b hb
    exact ⟨f3, f1, f4, f5⟩
  · rw [upd_ne (nea b u e)]; exact n
  · rw [upd_ne (ne_of_none e hn)]; exact e
  · rw [upd_ne (ne_of_none e hn)]; exact e
  · rw [upd_ne (ne_of_none e hn), e]; simp
  · obtain ⟨o, es, ep, ho, r⟩ := hm
    exact ⟨o, es, ep, k _ o (fun z => (hf _ z).2.1 rfl) ho, r⟩
  · by_cases hb : b = a
    · subst hb
      rw [upd_same] at e
      cases e
      exact new
    · rw [upd_ne hb] at e
      refine (I.hok b u e).stay (fun c v hc q => k c v ?_ q) (fun c q => by rw [upd_ne (ne_of_none q hn)]; exact q) fun c xs q => by rw [upd_ne (ne_of_none q hn)]; exact q
      rcases hc with z | z
      · rw [z]; exact nit b u e
      · exact nit c _ z
end
/-- i and the list's item there, as a new pair -/
def Ite (K : PySem.W.Frag) (a : Addr) : It :=
  ⟨fun i H => ∃ xs x, SqL K H a xs ∧ xs[i]? = some x,
   fun i H x H' => ∃ t y, H t = none ∧ x = .ref t ∧ H' = upd H t (.tup [.int i, y]) ∧ ∀ xs, SqL K H a xs → xs[i]? = some y,
   fun i H => ∃ xs, SqL K H a xs ∧ xs.length ≤ i⟩
theorem turn_enum {P : Program} {w : World} {K : PySem.W.Frag} {elts : List Expr} {x1} {pos : Pos} (a e it : Addr) (hne : e ≠ it) :
    Turn P w K (.Tuple elts x1 pos) (Ite K a) [e, it] e (fun i h => (∃ old, IsEnum h e it i old) ∧ h.IsListIter it a i) where
  mem := by simp
  obj := fun i h st b hb => by
    obtain ⟨⟨old, he⟩, o, eo, c, d⟩ := st
    rcases List.mem_cons.mp hb with rfl | hb
    · exact ⟨_, he, fun v z => by
        have z' : Data.fields _ = Data.cell v := z
        cases z'⟩
    · rw [List.mem_singleton.mp hb]
      exact ⟨o, eo, fun v z => by rw [d] at z; cases z⟩
  keep := fun i h h' st k => ⟨st.1.elim fun old he => ⟨old, k e (by simp) _ he⟩, st.2.at fun o eo => k it (by simp) o eo⟩
  item := by
    intro X hP hw hK hc i pins s σ H E I hf st hg
    subst hP hw hK
    obtain ⟨xs, x, hq, hx⟩ := hg
    obtain ⟨⟨old, he⟩, hit⟩ := st
    obtain ⟨its, rv, p, hz⟩ := I.list hq
    obtain ⟨u, hu, ru⟩ := rv.get hx
    refine wpAny_pyNext_enum_item he hit p.isList (x := u) (by simpa using hu) hne fun h1 he1 hit1 ht1 hz1 k1 => ?_
    refine ⟨_, rfl, wpAny_letOwnedTupleGo_enum he1 fun h2 he2 hs2 => ?_⟩
    have hne2 : s.heap.objs.size ≠ e := Nat.ne_of_gt (Heap.lt_size he)
    have ht2 := (hs2.2 s.heap.objs.size hne2).trans ht1
    have hk : ∀ b o, b ∉ [e, it] → s.heap.get? b = some o → h2.get? b = some o := fun b o hb e' => by
      have hb' : b ≠ e ∧ b ≠ it := by simpa using hb
      exact (hs2.2 b hb'.1).trans (k1 b o hb'.1 hb'.2 e')
    have hfr : H s.heap.objs.size = none := I.hok.fresh (Nat.le_refl _)
    refine ⟨.ref s.heap.objs.size, upd H s.heap.objs.size (.tup [.int i, x]), I.turnedNew (t' := s.toks + 1) hk hf (Nat.le_refl _) ?_, rfl, ⟨_, x, hfr, rfl, rfl, fun ys hy => by rw [I.list_inj hy hq]; exact hx⟩, ⟨⟨u, ?_⟩, ?_⟩, fun b hb => ?_⟩
    · exact ⟨by show 2 ≤ sizeLine; decide, [.int i s.toks, u], .cons ⟨_, rfl⟩ (.cons ru .nil), ⟨_, ht2, rfl, _, rfl⟩⟩
    · exact he2
    · obtain ⟨o, e1, e2⟩ := hit1
      exact ⟨o, (hs2.2 it (Ne.symm hne)).trans e1, e2⟩
    · have : b ≠ s.heap.objs.size := by
        rcases List.mem_cons.mp hb with rfl | hb
        · exact Ne.symm hne2
        · rw [List.mem_singleton.mp hb]
          obtain ⟨o, e1, _⟩ := hit
          exact Nat.ne_of_lt (Heap.lt_size e1)
      rw [upd_ne this]
      exact (hf b hb).1
  done := by
    intro X hP hw hK hc i pins s σ H E I hf st hg
    subst hP hw hK
    obtain ⟨xs, hq, hx⟩ := hg
    obtain ⟨⟨old, he⟩, hit⟩ := st
    obtain ⟨its, rv, p, hz⟩ := I.list hq
    obtain ⟨f0, f1, f2, f3, f4, f5⟩ := hf it (by simp)
    have hl := rv.length
    exact wpAny_pyNext_enum_end (I.ok.hd hc) he hit p.isList (by simp; omega) fun h' eb => ⟨rfl, I.turned (t' := s.toks) (fun b o hb e => eb b o hb e) f0 f1 f3 f4 f5⟩
  self := fun _ _ _ _ _ st h => st.1.elim fun _ he => wpAny_pyIter_enum he h
section
variable {X : Cx}
def iEnum (K : PySem.W.Frag) (ta : TA) : TI := fun σ H R => ta σ H fun vs H1 => ∃ a, vs = [.ref a] ∧ (∃ xs, SqL K H1 a xs) ∧ R (Ite K a) H1
theorem bt_enum : bootBuiltins "enumerate" = some (.type "enumerate") := by decide +kernel
theorem pi_enum {a : Expr} {ta : TA} {p pos : Pos} {elts : List Expr} {x1} {tpos : Pos} (hg : Gl X "enumerate") (hm : X.mg "enumerate" = none) (ha : PA X [a] ta) (hs : starEach [a] X.env = [(false, eval a X.env)] := by rfl) :
    PI X (.Tuple elts x1 tpos) (.Call (.Name "enumerate" p) [a] [] pos) (iEnum X.K ta) := by
  intro pins s σ H R I h
  refine Call_ (ld_blt I hg hm bt_enum (PyProof.Rows.callWith_type1 (thn (ha pos pins s σ H _ I h) fun us s1 ⟨vs, H1, I1, r1, q1⟩ => ?_) hs rfl))
  obtain ⟨a, e, ⟨xs, hq⟩, q⟩ := q1
  subst e
  obtain ⟨u, rfl, ru⟩ := vals1 r1
  cases ru
  obtain ⟨its, rv, p, hz⟩ := I1.list hq
  refine call_enumerate_list p.isList fun h' he hit hsz hk => ?_
  refine wpAny_pyIter_enum he ?_
  refine ⟨s1.heap.objs.size + 1, [s1.heap.objs.size + 1, s1.heap.objs.size], _, _, H1, rfl, I1.kept (t' := s1.toks) hk, turn_enum a _ _ (Nat.succ_ne_self _), ⟨⟨_, he⟩, hit⟩, fun b hb => ?_, q⟩
  have hb' : s1.heap.objs.size ≤ b := by
    rcases List.mem_cons.mp hb with rfl | hb
    · exact Nat.le_succ _
    · rw [List.mem_singleton.mp hb]; exact Nat.le_refl _
  exact I1.fpOk hb' (I1.hok.fresh hb')
/-- over enumerate of a list that the body leaves as it is -/
theorem for_enum {K : PySem.W.Frag} {a : Addr} {xs : List V} {g : TG} {tb : TS} {D : Ends} {σ : St} {H : Hp} (Pv : Nat → St → Hp → Prop) (h0 : Pv 0 σ H) (hl : ∀ i σ H, i ≤ xs.length → Pv i σ H → SqL K H a xs)
    (hs : ∀ i x σ H t, xs[i]? = some x → H t = none → Pv i σ H → g (.ref t) σ (upd H t (.tup [.int i, x])) fun σ2 H2 => tb { D with nx := Pv (i + 1), ct := Pv (i + 1), bk := D.nx } σ2 H2) (hd : ∀ σ H, Pv xs.length σ H → D.nx σ H) :
    ∃ W : Nat → Nat → St → Hp → Prop, (∃ m, W 0 m σ H) ∧ ∀ i m σ H, W i m σ H →
      ((Ite K a).stop i H ∧ D.nx σ H) ∨ ((Ite K a).go i H ∧ ∃ N : St → Hp → Prop, (∀ σ' H', N σ' H' → ∃ m', m' < m ∧ W (i + 1) m' σ' H') ∧ ∀ x H', (Ite K a).yld i H x H' → g x σ H' fun σ2 H2 => tb { D with nx := N, ct := N, bk := D.nx } σ2 H2) := by
  refine ⟨fun i m σ H => m = xs.length - i ∧ i ≤ xs.length ∧ Pv i σ H, ⟨xs.length, by simp, Nat.zero_le _, h0⟩, ?_⟩
  rintro i m σ H ⟨rfl, hi, p⟩
  have q := hl i σ H hi p
  by_cases hlt : i < xs.length
  · refine .inr ⟨⟨xs, xs[i], q, by simp [hlt]⟩, Pv (i + 1), fun σ' H' p' => ⟨xs.length - (i + 1), by omega, rfl, hlt, p'⟩, fun x H' y => ?_⟩
    obtain ⟨t, y, hn, e1, e2, hy⟩ := y
    subst e1 e2
    exact hs i y σ _ t (hy xs q) hn p
  · have e : i = xs.length := by omega
    subst e
    exact .inl ⟨⟨xs, q, Nat.le_refl _⟩, hd σ H p⟩
end
end L2


set_option Elab.async false
set_option linter.all false
set_option maxRecDepth 100000
set_option maxHeartbeats 4000000
namespace L2
open PySem PySem.W PySem.Spec PySem.Calls PyProof.Rows
/-! ### a dict that is walked: frozen while it is so -/
section
variable {X : Cx} {pins : List (Addr × Obj)} {σ : St} {H : Hp} {s : Shared} {a : Addr} {kvs : List (Key × V)}
end
section
variable {X : Cx}
/-! ### loops and comprehensions over them -/
end
end L2


set_option Elab.async false
set_option linter.all false
set_option maxRecDepth 100000
set_option maxHeartbeats 4000000
namespace L2
open PySem PySem.W PySem.Spec PySem.Calls PyProof.Rows
/-! ### == of a list of ints, None, lists, tuples and dicts: what is alike -/
section
variable {X : Cx} {pins : List (Addr × Obj)} {σ : St} {H : Hp} {s : Shared} {A : Around}
end
end L2


set_option Elab.async false
set_option linter.all false
set_option maxRecDepth 100000
set_option maxHeartbeats 4000000
namespace L2
open PySem PySem.W PySem.Spec PySem.Calls PyProof.Rows
section
variable {prog : Program} {w : World} {K : Type} [DecidableEq K] {knd : KeyKind prog w K} {A : Around} {R : Result → Shared → Prop}
end
end L2


set_option Elab.async false
set_option linter.all false
set_option maxRecDepth 100000
set_option maxHeartbeats 4000000
namespace L2
open PySem PySem.W PySem.Spec PySem.Calls PyProof.Rows
/-! ### d.update(e): other keys -/
/-! ### x in range(n) -/
end L2


set_option Elab.async false
set_option linter.all false
set_option maxRecDepth 100000
set_option maxHeartbeats 4000000
namespace L2
open PySem PySem.Spec PyProof.Rows
/-! ### the call of what an expression tells -/
section
variable {X : Cx} {k : Nat} {e a : Expr} {es : List Expr} {pos : Pos} {te : TE} {t : TA}
end
end L2


set_option Elab.async false
set_option linter.all false
set_option maxRecDepth 100000
set_option maxHeartbeats 4000000
namespace L2
open PySem PySem.Spec PyProof.Rows
/-- a dict of the top, keyed by texts: what it holds at x -/
def KHas (K : PySem.W.Frag) (P : Params) (a : Addr) (x : Str) (r : Option V) : Prop :=
  ∃ (es : Array DictEntry) (n : Nat), K.lookup a = some ⟨.type "dict", none, .dict es n, #[]⟩ ∧ PySem.W.KeysLit P es.toList ∧ (a == sysModules) = false ∧ ∃ q, PySem.W.nsIn K a x = some q ∧ RelO r q
def tKGet (K : PySem.W.Frag) (P : Params) (td ty : TE) : TE := fun σ H Q => td σ H fun x H1 => ty σ H1 fun y H2 => ∃ a k v, x = .ref a ∧ y = .str k ∧ KHas K P a k (some v) ∧ Q v H2
section
variable {X : Cx} {o i : Expr} {pos : Pos} {td ty : TE}
theorem pe_kget (ho : PE X o td) (hi : PE X i ty) (hs : NoSl i) : PE X (.Subscript o i pos) (tKGet X.K X.w.params td ty) := by
  intro pins s σ H Q I h
  refine subD_of PySem.F.slot_dict_getitem.lookup hs (thn (ho pins s σ H _ I h) fun u s1 ⟨x, H1, I1, rx, q1⟩ => thn (hi pins s1 σ H1 _ I1 q1) fun iv s2 ⟨y, H2, I2, ry, a, k, v, ex, ey, g, q2⟩ => ?_)
  subst ex ey
  obtain rfl : u = Value.ref a := rx
  obtain ⟨t, rfl⟩ := ry
  obtain ⟨es, n, hl, hk, hm, q, hq, rq⟩ := g
  obtain ⟨w', hw, rw'⟩ := RelO.some_of (v := v) (o := q) rq
  subst hw
  have mo := PySem.W.mapOf_K (prog := X.prog) (w := X.w) I2.kIn hl hk
  exact ⟨mo.typeIs, wpAny_getItem_of (strKind_is X.prog X.w k t) mo (PySem.W.find_K hl hq) ⟨v, H2, I2.tok _, rw', q2⟩⟩
end
end L2


set_option Elab.async false
set_option linter.all false
set_option maxRecDepth 100000
set_option maxHeartbeats 4000000
namespace L2
open PySem PySem.Spec PyProof.Rows
/-! ### d.get(k, x) of a dict of the top -/
section
variable {X : Cx} {o e f : Expr} {apos cpos : Pos} {td ty tx : TE}
end
end L2


set_option Elab.async false
set_option linter.all false
set_option maxRecDepth 100000
set_option maxHeartbeats 4000000
namespace L2
open PySem PySem.Spec PyProof.Rows
/-! ### t * n -/
end L2


set_option Elab.async false
set_option linter.all false
set_option maxRecDepth 100000
set_option maxHeartbeats 4000000
namespace L2
open PySem PySem.Spec PyProof.Rows
end L2


set_option Elab.async false
set_option linter.all false
set_option maxRecDepth 100000
set_option maxHeartbeats 4000000
namespace L2
open PySem PySem.Spec PyProof.Rows
theorem rng_all {f : Nat → Bool} : ∀ (bs : List Bool), (∀ i b, bs[i]? = some b → f i = b) → (List.range bs.length).all f = bs.all id := by
  intro bs h
  rw [Bool.eq_iff_iff, List.all_eq_true, List.all_eq_true]
  constructor
  · intro k b hb
    obtain ⟨i, hi, e⟩ := List.getElem_of_mem hb
    have := k i (List.mem_range.mpr hi)
    rw [h i b (by rw [List.getElem?_eq_getElem hi, e])] at this
    exact this
  · intro k i hi
    have hi := List.mem_range.mp hi
    rw [h i bs[i] (List.getElem?_eq_getElem hi)]
    exact k _ (List.getElem_mem hi)
section
variable {X : Cx}
theorem bl_at {bs : List Bool} {its : List Value} (rv : Vals (bs.map V.bl) its) {i : Nat} {v : Value} (h : its.toArray[i]? = some v) : ∃ b, bs[i]? = some b ∧ v = .bool b := by
  have h : its[i]? = some v := by simpa using h
  have hl := rv.length
  rw [List.length_map] at hl
  have hi : i < bs.length := by
    rw [hl]
    exact (List.getElem?_eq_some_iff.mp h).1
  obtain ⟨u, hu, ru⟩ := rv.get (i := i) (x := V.bl bs[i]) (by rw [List.getElem?_map, List.getElem?_eq_getElem hi]; rfl)
  rw [h] at hu
  cases hu
  exact ⟨bs[i], List.getElem?_eq_getElem hi, ru⟩
theorem call_allB (hc : X.calm = true) : CallR X (.builtin "all") (fun xs H Q => ∃ (a : Addr) (bs : List Bool), xs = [.ref a] ∧ SqL X.K H a (bs.map V.bl) ∧ Q (.bl (bs.all id)) H) := by
  intro pins s σ H xs us Q I r h
  obtain ⟨a, bs, rfl, hq, q⟩ := h
  obtain ⟨u, rfl, ru⟩ := vals1 r
  cases ru
  obtain ⟨its, rv, p, hz⟩ := I.list hq
  have hl := p.isList
  have hlt : a < s.heap.objs.size := by obtain ⟨_, e, _⟩ := hl; exact Heap.lt_size e
  have hlen := rv.length
  rw [List.length_map] at hlen
  refine call_all_walk (wpAny_pyIter_list hl ?_)
  refine ⟨s.heap.objs.size, [s.heap.objs.size, a], [s.heap.objs.size], its.toArray.size, _, _, fun i => (bs[i]?).getD true, rfl, Walks.list (A := X.A.in1) (I.ok.hd hc) _ a (Nat.ne_of_lt hlt) its.toArray,
    ⟨⟨_, Heap.get?_push_size _ rfl, rfl, rfl⟩, hl.push _⟩, fun i v s' Q' E' hP hQ => ?_, fun h' tk hk => ?_⟩
  · obtain ⟨b, e, rfl⟩ := bl_at rv hP
    simp only [e, Option.getD_some] at hQ
    exact wpAny_truthy_bool hQ
  · rw [List.size_toArray, ← hlen, rng_all bs (fun i b e => by rw [e]; rfl)]
    exact ⟨.bl _, H, I.kept (t' := tk) (fun b x e => hk b x (fun hm => by rw [List.mem_singleton.mp hm] at e; exact Nat.lt_irrefl _ (Heap.lt_size e)) (Heap.get?_push_of_some _ e)), rfl, q⟩
end
end L2


set_option Elab.async false
set_option linter.all false
set_option maxRecDepth 100000
set_option maxHeartbeats 4000000
namespace L2
open PySem PySem.Spec PyProof.Rows
section
variable {prog : Program} {w : World} {A : Around} {E : Value → Shared → Prop} {s : Shared}
end
end L2


set_option Elab.async false
set_option linter.all false
set_option maxRecDepth 100000
set_option maxHeartbeats 4000000
namespace L2
open PySem PySem.Spec PyProof.Rows
section
variable {prog : Program} {w : World} {A : Around} {E : Value → Shared → Prop} {s : Shared}
end
section
variable {X : Cx}
end
end L2


set_option Elab.async false
set_option linter.all false
set_option maxRecDepth 100000
set_option maxHeartbeats 4000000
namespace L2
open PySem PySem.Spec PyProof.Rows
theorem comp_tup {K : PySem.W.Frag} {a : Addr} {xs : List V} {g : TG} {tt : TT} {te : TE} {R : Hp → Prop} {D : Addr} {σ0 : St} {H0 : Hp} (Pv : Nat → St → List V → Hp → Prop) (h0 : Pv 0 σ0 [] H0) (hl : ∀ i σ ys H, i ≤ xs.length → Pv i σ ys H → SqT K H a xs)
    (hs : ∀ i x σ ys H, xs[i]? = some x → Pv i σ ys H → g x σ H fun σ2 H2 => tt σ2 H2 fun b H3 =>
      if b = true then te σ2 H3 fun v H4 => H4 D = some (.lst ys) ∧ ys.length < sizeLine ∧ Pv (i + 1) σ2 (ys ++ [v]) (upd H4 D (.lst (ys ++ [v]))) else Pv (i + 1) σ2 ys H3)
    (hd : ∀ σ ys H, Pv xs.length σ ys H → R H) :
    ∃ W : Nat → Nat → St → List V → Hp → Prop, (∃ m, W 0 m σ0 [] H0) ∧ ∀ i m σ ys H, W i m σ ys H →
      ((Itt K a).stop i H ∧ R H) ∨ ((Itt K a).go i H ∧ ∃ N : St → List V → Hp → Prop, (∀ σ' ys' H', N σ' ys' H' → ∃ m', m' < m ∧ W (i + 1) m' σ' ys' H') ∧ ∀ x H', (Itt K a).yld i H x H' → g x σ H' fun σ2 H2 => tt σ2 H2 fun b H3 =>
        if b = true then te σ2 H3 fun v H4 => H4 D = some (.lst ys) ∧ ys.length < sizeLine ∧ N σ2 (ys ++ [v]) (upd H4 D (.lst (ys ++ [v]))) else N σ2 ys H3) := by
  refine ⟨fun i m σ ys H => m = xs.length - i ∧ i ≤ xs.length ∧ Pv i σ ys H, ⟨xs.length, by simp, Nat.zero_le _, h0⟩, ?_⟩
  rintro i m σ ys H ⟨rfl, hi, p⟩
  have q := hl i σ ys H hi p
  by_cases hlt : i < xs.length
  · refine .inr ⟨⟨xs, xs[i], q, by simp [hlt]⟩, Pv (i + 1), fun σ' ys' H' p' => ⟨xs.length - (i + 1), by omega, rfl, hlt, p'⟩, fun x H' y => ?_⟩
    obtain ⟨e, y⟩ := y
    subst e
    exact hs i x σ ys _ (y xs q) p
  · have e : i = xs.length := by omega
    subst e
    exact .inl ⟨⟨xs, q, Nat.le_refl _⟩, hd σ ys H p⟩
end L2


set_option Elab.async false
set_option linter.all false
set_option maxRecDepth 100000
set_option maxHeartbeats 4000000
namespace L2
open PySem PySem.W PySem.Spec PySem.Calls PyProof.Rows
/-! ### a heap with some of its objects taken away -/
def lessObj (S : List Addr) (i : Nat) (o : Obj) : Obj := if i ∈ S then { o with data := .freed } else o
def less (h : Heap) (S : List Addr) : Heap := { h with objs := h.objs.mapIdx (lessObj S) }
theorem less_in {h : Heap} {S : List Addr} {b : Addr} (hb : b ∈ S) : (less h S).get? b = none := by
  unfold Heap.get? less
  simp only [Array.getElem?_mapIdx]
  cases e : h.objs[b]? with
  | none => rfl
  | some o =>
    simp only [Option.map_some, lessObj, if_pos hb]
theorem less_out {h : Heap} {S : List Addr} {b : Addr} (hb : b ∉ S) : (less h S).get? b = h.get? b := by
  unfold Heap.get? less
  simp only [Array.getElem?_mapIdx]
  cases e : h.objs[b]? with
  | none => rfl
  | some o =>
    simp only [Option.map_some, lessObj, if_neg hb]
theorem less_stays {h : Heap} {S : List Addr} : (less h S).StaysIn h := fun b o e => by
  by_cases hb : b ∈ S
  · rw [less_in hb] at e; cases e
  · rwa [less_out hb] at e
theorem less_funs {h base : Heap} {S : List Addr} : ∀ {l : List Env}, h.FunFrames base l → (∀ b ∈ frs l, b ∈ S) → h.FunFrames (less h S) l
  | [], _, _ => trivial
  | env :: r, ⟨hk, ⟨L, o, hf, hn, ho, hd⟩, hr⟩, hs => by
    have e : frs (env :: r) = L :: frs r := by unfold frs; rw [List.filterMap_cons, hf]
    rw [e] at hs
    exact ⟨hk, ⟨L, o, hf, less_in (hs L (by simp)), ho, hd⟩, less_funs hr fun b hb => hs b (by simp [hb])⟩
/-! ### how an exception lies behind a call -/
theorem ObjOk.some_ {P : Program} {w : World} {H : Hp} {h : Heap} {a : Addr} {o : HO} (x : ObjOk P w H h a o) : ∃ u, h.get? a = some u := by
  cases o with
  | lst xs => obtain ⟨_, _, _, _, e⟩ := x; exact ⟨_, e⟩
  | tup xs => obtain ⟨_, _, _, ob, e, _⟩ := x; exact ⟨_, e⟩
  | dK kvs => obtain ⟨_, _, _, _, o, _, _, e, _⟩ := x; exact ⟨_, e⟩
  | dT kvs => obtain ⟨_, _, _, _, o, _, _, e, _⟩ := x; exact ⟨_, e⟩
  | set S n => obtain ⟨o, _, _, _, e, _⟩ := x; exact ⟨_, e⟩
  | ins C dx fs => obtain ⟨_, _, _, e, _⟩ := x; exact ⟨_, e⟩
  | own y => exact x
  | xd fs => obtain ⟨_, ⟨_, _, _, e, _⟩, _⟩ := x; exact ⟨_, e⟩
  | rng lo hi => obtain ⟨_, _, _, e⟩ := x; exact ⟨_, e⟩
  | frz ob u => obtain ⟨e, _⟩ := x; exact ⟨_, e⟩
  | tbl ps => exact ⟨_, (show h.get? a = some _ from x)⟩
  | met f y => exact ⟨_, (show h.get? a = some _ from x)⟩
  | ext φ => exact x.2.1
/-- an own class of exceptions without an __init__ of its own, as the top has written it -/
structure XCls (K : PySem.W.Frag) (C : Addr) (bmB : List Value) (newId : String) : Prop where
  isIn : excIn K C bmB newId = true
theorem XCls.obj {K : PySem.W.Frag} {C : Addr} {bmB : List Value} {newId : String} {h₀ : Heap} (c : XCls K C bmB newId) (X : K.In h₀) : ∃ bm N nm q bs hdct sn sub ab col dd k0 k1 k2 k3 k5 mN,
      h₀.get? C = some (excClassObj nm q C N bs bm hdct sn sub ab col dd k0 k1 k2 k3 k5 newId) ∧ h₀.Ns N mN ∧ mN (Str.ofString "__init__") = none ∧ OwnTail h₀ bmB bm := by
  have q := c.isIn
  unfold excIn at q
  split at q
  · rename_i dd cd sl ho
    split at q
    · rename_i C' bm k0 k1 k2 k3 n k5 hm hs
      simp only [Bool.and_eq_true, beq_iff_eq, Bool.not_eq_true'] at q
      obtain ⟨⟨⟨⟨⟨rfl, rfl⟩, hdel⟩, ht⟩, hok⟩, hni⟩ := q
      obtain ⟨nm, bs, mro, ns, qn, hd, sn, sub, ab, col, del⟩ := cd
      dsimp only at hm hdel hok hni
      subst hm hdel
      have hsl : sl = #[k0, k1, k2, k3, some (.builtin n), k5] := by
        obtain ⟨l⟩ := sl
        simp only at hs
        rw [hs]
      subst hsl
      exact ⟨bm, ns, nm, qn, bs, hd, sn, sub, ab, col, dd, k0, k1, k2, k3, k5, _, X _ _ ho, .of_isNs (isNs_of_in X hok), nsMap_none_of_in X hok hni, tail_of_in X ht⟩
    · cases q
  · cases q
section
variable {P : Program} {w : World} {K : PySem.W.Frag} {mg : Str → Option Value} {base : Heap} {N : List Str} {qual : Str} {scope : Scope} {f : Addr} {cd : Value} {A : Around} {outer : List Env} {s₀ : Shared} {H₀ : Hp} {E : XK}
end
end L2


set_option Elab.async false
set_option linter.all false
set_option maxRecDepth 100000
set_option maxHeartbeats 4000000
namespace L2
open PySem PySem.W PySem.Spec PySem.Calls PyProof.Rows
/-- a def by its body, exceptions and all -/
theorem Fun.okX {P : Program} {w : World} {K : PySem.W.Frag} {mg : Str → Option Value} {base : Heap} {CX : CXT} {x qual : Str} {st : Stmt} {f : Addr} {fd : FuncData} {N ps : List Str} {k : Nat} {sp : Sp} (F : Fun K x qual st f fd) (S : FnScope N ps (defScope st)) (len : ∀ vs H Q E, sp vs H Q E → vs.length = ps.length)
    (hbody : ∀ (cdv : Value) (A : Around) (outer : List Env) (s : Shared) (H : Hp) (vs : List V) (Q : VK) (E : XK), Room k (A.deeper (envOfC qual (defScope st) s.heap.objs.size f cdv)) → sp vs H Q E →
      ∃ t, PSs (cxOf CX P w K mg base N qual (defScope st) f cdv A outer s H E) (defBody st) t ∧ t { nx := fun _ H' => Q .non H', rt := Q } (start N vs) H) : FnOk P w K mg base CX (k + 1) f fd ps sp := by
  obtain ⟨oc, od, kV, doc, pm, an, cdv, ct, osl, rfl, lk, hcd⟩ := F.ex
  exact fn_of lk hcd S len fun A outer s H vs Q E hr hsp => hbody cdv A outer s H vs Q E hr hsp
section
variable {X : Cx} {pins : List (Addr × Obj)} {σ : St}
/-- what flies stands apart from B: over another heap -/
theorem fly_less {B h : Heap} {l : List Env} {ea : Addr} {cls a0 : Value} (fly : B.FlyingW l ea cls a0 h) : ∃ T, B.get? ea = none ∧ B.get? T = none ∧ (less h (frs l ++ [ea, T])).FlyingW l ea cls a0 h := by
  obtain ⟨f1, f2, f3, oe, vs, T, oT, ts, g1, g2, g3, g4, g5, g6, g7, g8, g9⟩ := fly
  exact ⟨T, f2, g5, less_stays, less_in (by simp), less_funs f3 (fun b hb => by simp [hb]), oe, vs, T, oT, ts, g1, g2, g3, g4, less_in (by simp), g6, g7, g8, g9⟩
end
end L2


set_option Elab.async false
set_option linter.all false
set_option maxRecDepth 100000
set_option maxHeartbeats 4000000
namespace L2
open PySem PySem.W PySem.Spec PySem.Calls PyProof.Rows
section
variable {X : Cx} {pins : List (Addr × Obj)} {σ : St} {H : Hp} {s : Shared}
/-- a name is taken away again (behind an except suite) -/
theorem forget_ok {M : Model} {A : Around} {E : Value → Shared → Prop} {i : Nat} {x : Str} {pos : Pos} {Q : Unit → Shared → Prop} (I : Inv X pins σ H s) (hN : X.N.Nodup) (hi : X.N[i]? = some x) (hk : X.env.kindOf x = some .local)
    (h : ∀ s', Inv X pins (σ.set i none) H s' → Q () s') : wpAny M A (do bindName X.env x .none; unbindBehindTheSuite X.env x pos) Q E s := by
  obtain ⟨m, hn, hl⟩ := id I.loc
  have hcls : (X.env.scope.kind == .class || (X.env.scope.kind == .module && X.env.locals != X.env.globals)) = false := by rw [I.ok.kind]; rfl
  have hiσ : i < σ.length := by rw [I.len]; exact (List.getElem?_eq_some_iff.mp hi).1
  have cne := I.cne
  have tracked : ∀ {a : Addr} {h' : Heap}, (∃ o, s.heap.get? a = some o ∧ H a = none) → Heap.SameBut a s.heap h' → HOk X.prog X.w H h' := fun {a h'} ha hs b ob e => by
    obtain ⟨_, _, hfree⟩ := ha
    refine (I.hok b ob e).stay (fun c w' hc q => (hs.2 c ?_).trans q) (fun _ q => q) fun _ _ q => q
    rintro rfl
    rcases hc with rfl | hc
    · rw [hfree] at e; cases e
    · rw [hfree] at hc; cases hc
  refine wpAny_nameGoes_keeps hk hn hcls fun h' v hn' hs => ?_
  obtain ⟨oL, _, _, hoL, _⟩ := id hn
  refine h _ ⟨I.ok, I.os, I.bare, ⟨fun b o e n hb hx => ?_, fun b o e n hb hx => ?_, I.base.free, fun b o e hx => ?_, I.base.tups, I.base.frzs, I.base.tbls⟩, ⟨_, hn', fun j y v' e1 e2 e3 => ?_⟩, fun y c e => ?_, I.free, I.freeC, fun p hp => ?_, tracked ⟨oL, hoL, I.free⟩ hs, by simpa using I.len⟩
  · exact (hs.2 b (Nat.ne_of_lt (Nat.lt_of_lt_of_le (Heap.lt_size e) I.ok.above))).trans (I.base.keep b o e n hb hx)
  · obtain ⟨sl, e1⟩ := I.base.slot b o e n hb hx
    exact ⟨sl, (hs.2 b (Nat.ne_of_lt (Nat.lt_of_lt_of_le (Heap.lt_size e) I.ok.above))).trans e1⟩
  · obtain ⟨o', e1⟩ := I.base.there b o e hx
    exact ⟨o', (hs.2 b (Nat.ne_of_lt (Nat.lt_of_lt_of_le (Heap.lt_size e) I.ok.above))).trans e1⟩
  · by_cases hj : j = i
    · subst hj
      rw [List.getElem?_set_self hiσ] at e2
      cases e2
    · rw [List.getElem?_set_ne (Ne.symm hj)] at e2
      obtain ⟨u', r', q⟩ := hl j y v' e1 e2 e3
      refine ⟨u', r', ?_⟩
      rcases q with ⟨k, e⟩ | ⟨k, c, e, z⟩
      · refine .inl ⟨k, ?_⟩
        have : y ≠ x := fun e => hj (nodup_ix hN e1 (e ▸ hi))
        simp [this, e]
      · exact .inr ⟨k, c, e, z.sameBut hs (cne y c e)⟩
  · obtain ⟨w', z⟩ := I.cell y c e
    exact ⟨w', z.sameBut hs (cne y c e)⟩
  · obtain ⟨e, n, ne, nf, d⟩ := I.pin p hp
    exact ⟨(hs.2 p.1 ne).trans e, n, ne, nf, d⟩
/-- within an except suite, the exception at ea -/
abbrev Cx.inSuite (X : Cx) (ea : Addr) : Cx := { X with A := X.A.mark (some (.ref ea)), calm := false, xe := fun _ _ => False }
theorem Inv.suite (I : Inv X pins σ H s) (ea : Addr) : Inv (X.inSuite ea) pins σ H s :=
  ⟨⟨I.ok.mod, I.ok.kind, I.ok.glob, I.ok.blt, I.ok.above, I.ok.inj, I.ok.has, I.ok.cab, (fun z => by cases z), I.ok.frames, I.ok.stk, I.ok.exf, I.ok.bs, I.ok.bsz, I.ok.noex, I.ok.exfs, I.ok.funs, I.ok.frf⟩, I.os, I.bare, I.base, I.loc, I.cell, I.free, I.freeC, I.pin, I.hok, I.len⟩
theorem Inv.unsuite {ea : Addr} (ok : X.Ok) (I : Inv (X.inSuite ea) pins σ H s) : Inv X pins σ H s := ⟨ok, I.os, I.bare, I.base, I.loc, I.cell, I.free, I.freeC, I.pin, I.hok, I.len⟩
end
end L2


set_option Elab.async false
set_option linter.all false
set_option maxRecDepth 100000
set_option maxHeartbeats 4000000
namespace L2
open PySem PySem.W PySem.Spec PySem.Calls PyProof.Rows
/-- the ends of an except suite: the name at i goes -/
def Ends.less (D : Ends) (i : Nat) : Ends := { nx := fun σ H => D.nx (σ.set i none) H, rt := D.rt, bk := fun σ H => D.bk (σ.set i none) H, ct := fun σ H => D.ct (σ.set i none) H }
section
variable {X : Cx} {k : Nat} {f C cR : Addr} {fd : FuncData} {ps : List Str} {sp : Sp} {dvs : List V} {ds : List Value} {x m n : Str} {np pos apos p2 p3 p4 : Pos} {o : Expr} {ta : TE} {ts : TS} {i : Nat} {b₀ : Stmt} {suite : List Stmt} {L : Addr}
end
end L2


set_option Elab.async false
set_option linter.all false
set_option maxRecDepth 100000
set_option maxHeartbeats 4000000
namespace L2
open PySem PySem.W PySem.Spec PySem.Calls PyProof.Rows PySem.Builtin PySem.Builtin.ObjectAttr PySem.Builtin.Getset_descriptor
section
variable {prog : Program} {w : World} {A : Around} {E : Value → Shared → Prop} {s : Shared} {K : PySem.W.Frag} {x C : Addr}
theorem class_getL {R : Result → Shared → Prop} {tp : Value} (X : K.In s.heap) (L0 : Looks (model prog w) s.heap (typeOf (.ref x)) (.ref C)) (hm : mroIn K C (.type "object") = some true)
    (h : R (.ok (.ret (.ref C))) s) : codeAny (model prog w) A (.call (.builtin "getset_descriptor.__get__") ⟨[.builtin "object.__class__", .ref x, tp], []⟩) R s := by
  obtain ⟨hh, g, dr, t, os⟩ := s
  have L1 := looks_mroIn (M := model prog w) X hm
  refine codeAny_call_builtin KF.slot_gs.plain KF.entry_gs (KF.slot_gs.check _ _ _ _ _ _ _ _ KF.type_class (KF.args_gs _ _ _) ?_)
  unfold Builtin.«getset_descriptor.__get__» descrGet
  rw [dga_obj]
  refine wpAny_bind (wpAny_pure ?_)
  unfold descrGetter descrCheckInstance descrNameAndClass isInstance
  simp only [KF.owner_class]
  repeat lk
  refine ⟨Code.quiet_builtin _ (by decide +kernel), codeAny_builtin KF.entry_class ?_⟩
  unfold Builtin.«object.__class__» shownTypeOf
  repeat lk
  exact h
/-- what the top tells of a class of exceptions, for reading __class__ -/
structure XRead (K : PySem.W.Frag) (C : Addr) : Prop where
  ga : findIn K (.ref C) "__getattribute__" = some (some (.builtin "BaseException.__getattribute__"))
  gh : findIn K (.ref C) "__getattr__" = some none
  cl : findIn K (.ref C) "__class__" = some (some (.builtin "object.__class__"))
  gt : specialIn K (.builtin "object.__class__") "__get__" = some (some (.builtin "getset_descriptor.__get__"))
  tk : takesIn K (.builtin "object.__class__") = some true
  ob : mroIn K C (.type "object") = some true
  bx : mroIn K C (.type "BaseException") = some true
  ci : (clsIn K C).isSome = true
theorem looks_findD {M : Model} {h : Heap} (X : K.In h) {self : Value} {name : Str} {a g : Value} (ha : findIn K (.ref C) name = some (some a)) (hg : specialIn K a "__get__" = some (some g)) (ht : takesIn K a = some true) : Looks M h (find self (.ref C) name) (.bind g a) := by
  have L1 := looks_findIn (M := M) X ha
  have L2 : Looks M h (getOf (some a)) (some g) := looks_specialIn X hg
  have L3 := looks_takesIn (M := M) X ht
  exact L1.andThen (L2.andThen ((show Looks M h (dataDescriptor? (some a) (some g)) (some (g, a)) from L3.andThen .now).andThen (Looks.tag .now)))
theorem check_exc {M : Model} {nameV : Value} {Q : Unit → Shared → Prop} (L0 : Looks M s.heap (typeOf (.ref x)) (.ref C)) (L3 : Looks M s.heap (isSubtype (.ref C) (.type "BaseException")) true) (hq : Q () s) : wpAny M A (checkBuiltinCall "BaseException.__getattribute__" ⟨[.ref x, nameV], []⟩) Q E s := by
  have hk : builtinKind "BaseException.__getattribute__" = some .slot := by decide +kernel
  have hsplit : splitId "BaseException.__getattribute__" = some ("BaseException", "__getattribute__") := by decide +kernel
  have ha := F.args_bexc_ga (.ref x) nameV
  obtain ⟨hh, g, d, t, os⟩ := s
  simp only [checkBuiltinCall, hk, hsplit]
  refine wpAny_bind ?_
  · unfold isInstance
    repeat (first | lk | wp_step)
    exact hq
theorem entry_exc {Q : Fin → Shared → Prop} {tk : Tok} (X : K.In s.heap) (R : XRead K C) (L0 : Looks (model prog w) s.heap (typeOf (.ref x)) (.ref C)) (hq : Q (.done (.ret (.ref C))) s) : wpAny (model prog w) A (Builtin.«object.__getattribute__» ⟨[.ref x, .str "__class__" tk], []⟩) Q E s := by
  have L4 := looks_findD (M := model prog w) X (self := .ref x) R.cl R.gt R.tk
  have hc := fun (R' : Result → Shared → Prop) (h : R' (.ok (.ret (.ref C))) s) => class_getL (prog := prog) (w := w) (A := A) (tp := .ref C) X L0 R.ob h
  unfold Builtin.«object.__getattribute__»
  refine wpAny_bind (wpAny_pure (wpAny_bind (wpAny_pure (wpAny_bind (L0.here (wpAny_bind (L4.here ?_)))))))
  show wpAny _ _ (bindTo _ _ _ _) _ _ _
  unfold bindTo
  dsimp only
  first
    | exact wpAny_bind (wpAny_holding (wpAny_call (hc _ (wpAny_pure hq))))
    | exact wpAny_bind (wpAny_call (hc _ (wpAny_pure hq)))
    | exact wpAny_bind (wpAny_bind (wpAny_holding (wpAny_call (hc _ (wpAny_pure hq)))))
/-- e.__class__ as isinstance reads it -/
theorem exc_class {Q : Option Value → Shared → Prop} {Bn : String} (FB : ExcAttrFacts Bn) (X : K.In s.heap) (R : XRead K C) (L0 : Looks (model prog w) s.heap (typeOf (.ref x)) (.ref C)) (h : Q (some (.ref C)) { s with toks := s.toks + 1 }) : wpAny (model prog w) A (getAttr? (.ref x) "__class__") Q E s := by
  obtain ⟨hh, g, d, t, os⟩ := s
  have L1 := looks_findIn (M := model prog w) X R.ga
  have L2 := looks_findIn (M := model prog w) X R.gh
  have L3 := looks_mroIn (M := model prog w) X R.bx
  have L4 := looks_findD (M := model prog w) X (self := .ref x) R.cl R.gt R.tk
  have hk : builtinKind "BaseException.__getattribute__" = some .slot := by decide +kernel
  have hsplit : splitId "BaseException.__getattribute__" = some ("BaseException", "__getattribute__") := by decide +kernel
  unfold getAttr? getAttrBy? getAttrBy
  refine wpAny_bind (wpAny_mkText (wpAny_bind (wpAny_attempt (wpAny_holding (wpAny_bind (L0.at (wpAny_bind (L1.at ?_))))))))
  show wpAny _ _ (getAttrByItsOwn _ _ _ _ _ _) _ _ _
  unfold getAttrByItsOwn hookBefore
  rw [if_pos (show onTheHeap (Value.ref C) = true from rfl)]
  refine wpAny_bind (L2.at (wpAny_bind (wpAny_attempt (wpAny_holding ?_))))
  unfold callGetattribute
  rw [if_neg (show ¬ (false && onTheHeap (Value.builtin "BaseException.__getattribute__")) = true from by decide)]
  unfold boundAndCalled
  rw [FB.ga.bind (.ref x)]
  refine wpAny_bind (wpAny_pure (wpAny_call ?_))
  refine codeAny_call_builtin FB.ga.plain F.entry_bexc_ga ?_
  refine check_exc L0 L3 (entry_exc X R L0 ?_)
  exact wpAny_pure (wpAny_pure h)
end
end L2


set_option Elab.async false
set_option linter.all false
set_option maxRecDepth 100000
set_option maxHeartbeats 4000000
namespace L2
open PySem PySem.W PySem.Spec PySem.Calls PyProof.Rows
theorem kitx_exc {K : PySem.W.Frag} {C ea : Addr} {Bn : String} (R : XRead K C) (FB : ExcAttrFacts Bn) : KitX K (.ref ea) (.ref C) (fun h => ∃ o, h.get? ea = some o ∧ o.cls = .ref C) where
  ty := fun M h _ ⟨o, h1, h2⟩ => h2 ▸ (Looks.ld h1).andThen .now
  it := fun _ _ X _ => by
    obtain ⟨cdD, hcD⟩ := Option.isSome_iff_exists.mp R.ci
    unfold clsIn at hcD
    split at hcD
    · rename_i c' d' cd' sl' ho
      intro A' Q' E' s' k q
      unfold isType loadHead
      exact wpAny_bind (wpAny_loadPart (k _ _ (X _ _ ho)) (wpAny_pure q))
    · cases hcD
  ne := fun h tp dd its n sl X htp => by
    obtain ⟨cdD, hcD⟩ := Option.isSome_iff_exists.mp R.ci
    refine Bool.eq_false_iff.mpr fun q => ?_
    have e : C = tp := Value.ref.inj (beq_iff_eq.mp q)
    subst e
    unfold clsIn at hcD
    split at hcD
    · rename_i c' d' cd' sl' ho
      have z := (X _ _ ho).symm.trans htp
      cases z
    · cases hcD
  ca := fun X p k => by
    obtain ⟨o, h1, h2⟩ := p
    exact exc_class FB X R (h2 ▸ (Looks.ld h1).andThen .now) k
section
variable {X : Cx} {C : Addr} {Bn : String}
end
end L2


set_option Elab.async false
set_option linter.all false
set_option maxRecDepth 100000
set_option maxHeartbeats 4000000
namespace L2
open PySem PySem.W PySem.Spec PySem.Calls PyProof.Rows
/-! ### exceptions with attributes of their own: their dict stays while they fly -/
def Dct (h : Heap) (e : Addr) (od : Option Addr) : Prop := ∃ o, h.get? e = some o ∧ o.dict = od
theorem dict_mapFields (o : Obj) (f : Array Value → Array Value) : (Obj.mapFields f o).dict = o.dict := by
  unfold Obj.mapFields
  split <;> rfl
section
variable {M : Model} {A : Around} {XE : Value → Shared → Prop} {s : Shared} {B : Heap} {env : Env} {outer l : List Env} {L e : Addr} {cls a0 fl : Value} {od : Option Addr} {Q : Unit → Shared → Prop}
theorem noRec {h : Heap} {e b : Addr} {oe o : Obj} {vs : Array Value} (he : h.get? e = some oe) (hd : oe.data = .fields vs) (hb : h.get? b = some o) (n : ∀ vs, o.data ≠ .fields vs) : b ≠ e := fun z => by
  subst z
  cases he.symm.trans hb
  exact n vs hd
theorem entryD {oe : Obj} {vs : Array Value} {head : Value} {hn : Bool} (fr : A.frames = some (env :: outer)) (fu : s.heap.FunFrames B (env :: outer)) (hf : env.frame = some L) (he : s.heap.get? e = some oe) (st : B.StaysIn s.heap) (ne : B.get? e = none)
    (hd : oe.data = .fields vs) (sz : 1 < vs.size) (h0 : vs[0]? = some a0) (k : ∀ h', Heap.NotedW B (env :: outer) e oe.cls a0 (rawInt L) s.heap h' → Dct h' e oe.dict → Q () { s with heap := h' }) :
    wpAny M A (do
      let a ← frameOf env
      let pl ← entryPlaceOf L hn
      let b ← EntryCells.newEntry head a .none (rawInt L) .none pl
      setField (.ref e) 1 b) Q XE s := by
  have nf : e ∉ frs (env :: outer) := fun z => by
    obtain ⟨_, o, ho, n⟩ := fu.mem z
    cases he.symm.trans ho
    exact n vs hd
  refine wpAny_bind (wpAny_frameOf_fun fr fu hf fun g kg => ?_)
  have e1 : g.get? e = some oe := (kg.2.1 e nf).trans he
  have key : ∀ (tb : Obj) (ts : Array Value), tb.data = .fields ts → ts[3]? = some (rawInt L) → wpAny M A (setField (.ref e) 1 (.ref g.objs.size)) Q XE { s with heap := g.push tb } := fun tb ts td t3 => by
    have e2 := Heap.get?_push_of_some tb e1
    have nT : g.objs.size ≠ e := Nat.ne_of_gt (Heap.lt_size e1)
    have d3 := Obj.data_mapFields hd (·.setIfInBounds 1 (Value.ref g.objs.size))
    have e3 := Heap.get?_update_self (Obj.mapFields (·.setIfInBounds 1 (Value.ref g.objs.size))) e2 (Obj.isFreed_of_fields d3)
    have hT : (g.push tb).get? g.objs.size = some tb := Heap.get?_push_size g (Obj.isFreed_of_fields td)
    have hT3 := (Heap.get?_update_other (g.push tb) (Obj.mapFields (·.setIfInBounds 1 (Value.ref g.objs.size))) nT.symm).trans hT
    have keep : ∀ b o, b ≠ e → g.get? b = some o → ((g.push tb).update e (Obj.mapFields (·.setIfInBounds 1 (Value.ref g.objs.size)))).get? b = some o := fun b o n hb => (Heap.get?_update_other _ _ n.symm).trans (Heap.get?_push_of_some _ hb)
    have stg : B.StaysIn g := fun b o hb => (kg.2.1 b fun z => by
      have := (fu.mem z).1
      rw [hb] at this
      cases this).trans (st b o hb)
    refine wpAny_setField e2 hd sz (k _ ⟨fun b o hb => keep b o (fun z => by rw [z, ne] at hb; cases hb) (stg b o hb), fu.of_keeps fun b o hb n => ?_, ?_, fun b o hb n => ?_⟩ ⟨_, e3, dict_mapFields _ _⟩)
    · obtain ⟨sl, hs⟩ := kg.2.2 b o hb
      exact ⟨_, keep b _ (noRec he hd hb n) hs, rfl⟩
    · exact ⟨_, _, g.objs.size, _, _, e3, ⟨Obj.cls_mapFields _ _, by rw [Array.getElem?_setIfInBounds_ne (by decide)]; exact h0⟩, d3, by simp [sz], stg.fresh, nT, hT3, td, t3⟩
    · obtain ⟨sl, hs⟩ := kg.2.2 b o hb
      exact ⟨sl, keep b _ (noRec he hd hb n) hs⟩
  refine wpAny_bind (wpAny_entryPlaceOf fun pl hp => ?_)
  unfold EntryCells.newEntry newFields
  refine wpAny_bind (wpAny_newObj_type ?_ (hp.sizeOk5 _ _ _ _ _))
  exact key _ _ rfl (by first | (simp; done) | (rcases hp with rfl | ⟨_, _, _, _, _, _, _, rfl⟩ <;> simp))
theorem noteFirstD {oe : Obj} {vs : Array Value} (fr : A.frames = some (env :: outer)) (fu : s.heap.FunFrames B (env :: outer)) (hf : env.frame = some L) (he : s.heap.get? e = some oe) (st : B.StaysIn s.heap) (ne : B.get? e = none)
    (hd : oe.data = .fields vs) (h1 : vs[1]? = some .none) (h0 : vs[0]? = some a0) (k : ∀ h', Heap.NotedW B (env :: outer) e oe.cls a0 (rawInt L) s.heap h' → Dct h' e oe.dict → Q () { s with heap := h' }) :
    wpAny M A (noteFrame (.ref e) env) Q XE s := by
  unfold noteFrame
  simp only [hf]
  refine wpAny_bind (wpAny_field he hd h1 ?_)
  rw [if_neg (by decide)]
  exact entryD fr fu hf he st ne hd (Array.getElem?_eq_some_iff.mp h1).1 h0 k
theorem noteNextD (fr : A.frames = some (env :: outer)) (hf : env.frame = some L) (fly : B.FlyingW (env :: outer) e cls a0 s.heap) (dc : Dct s.heap e od)
    (k : ∀ h', Heap.NotedW B (env :: outer) e cls a0 (rawInt L) s.heap h' → Dct h' e od → Q () { s with heap := h' }) : wpAny M A (noteFrame (.ref e) env) Q XE s := by
  obtain ⟨st, ne, fu, oe, vs, T, oT, ts, he, ⟨hc, h0⟩, hd, h1, nT, Te, hT, dT, h3⟩ := fly
  subst hc
  obtain ⟨oe', he', hod⟩ := dc
  cases he.symm.trans he'
  subst hod
  unfold noteFrame
  simp only [hf]
  refine wpAny_bind (wpAny_field he hd h1 ?_)
  rw [if_pos (by simp)]
  refine wpAny_bind (wpAny_field hT dT h3 ?_)
  rw [if_neg (by simp [rawInt])]
  refine wpAny_bind (wpAny_setField hT dT (Array.getElem?_eq_some_iff.mp h3).1 ?_)
  have oth : ∀ b, b ≠ T → (s.heap.update T (Obj.mapFields (·.setIfInBounds 3 Value.none))).get? b = s.heap.get? b := fun b n => Heap.get?_update_other _ _ n.symm
  refine entryD fr (fu.of_keeps fun b o hb n => ⟨o, (oth b (noRec hT dT hb n)).trans hb, rfl⟩) hf ((oth e Te.symm).trans he) (fun b o hb => (oth b fun z => by
    rw [z, nT] at hb
    cases hb).trans (st b o hb)) ne hd (Array.getElem?_eq_some_iff.mp h1).1 h0 fun h' q q2 => k h' ⟨q.1, q.2.1, q.2.2.1, fun b o hb n => q.2.2.2 b o ((oth b (noRec hT dT hb n)).trans hb) n⟩ q2
theorem flightD (st : B.StaysIn s.heap) (fu : s.heap.FunFrames B l) (tr : s.heap.TracedAtW B e cls a0 fl) (dc : Dct s.heap e od)
    (k : ∀ h', B.StaysIn h' → h'.FunFrames B l → h'.TracedW B e cls a0 → (∀ b o, s.heap.get? b = some o → (∀ vs, o.data ≠ .fields vs) → h'.get? b = some o) → Dct h' e od → Q () { s with heap := h' }) : wpAny M A (setFlight (.ref e) none) Q XE s := by
  obtain ⟨oe, vs, T, oT, ts, he, hc, hd, h1, nT, Te, hT, dT, h3⟩ := tr
  obtain ⟨oe', he', hod⟩ := dc
  cases he.symm.trans he'
  have sz : 3 < ts.size := (Array.getElem?_eq_some_iff.mp h3).1
  have oth : ∀ b, b ≠ T → (s.heap.update T (Obj.mapFields (·.setIfInBounds 3 ((none : Option Addr).elim Value.none fun f => rawInt f)))).get? b = s.heap.get? b := fun b n => Heap.get?_update_other _ _ n.symm
  unfold setFlight
  refine wpAny_bind (wpAny_field he hd h1 ?_)
  rw [if_pos (by simp)]
  refine wpAny_setField hT dT sz (k _ (fun b o hb => (oth b fun z => by
    rw [z, nT] at hb
    cases hb).trans (st b o hb)) (fu.of_keeps fun b o hb n => ⟨o, (oth b (noRec hT dT hb n)).trans hb, rfl⟩) ?_ (fun b o hb n => (oth b (noRec hT dT hb n)).trans hb) ⟨oe, (oth e Te.symm).trans he, hod⟩)
  exact ⟨oe, vs, T, _, _, (oth e Te.symm).trans he, hc, hd, h1, nT, Te, Heap.get?_update_self _ hT (Obj.isFreed_of_fields (Obj.data_mapFields dT _)), Obj.data_mapFields dT _, by simp [sz]⟩
/-- it leaves the frame in which it was made -/
theorem leavesD {oe : Obj} {vs : Array Value} (fr : A.frames = some (env :: outer)) (fu : s.heap.FunFrames B (env :: outer)) (hf : env.frame = some L) (he : s.heap.get? e = some oe) (st : B.StaysIn s.heap) (ne : B.get? e = none)
    (hd : oe.data = .fields vs) (h1 : vs[1]? = some .none) (h0 : vs[0]? = some a0) (k : ∀ h', B.FlyingW outer e oe.cls a0 h' → s.heap.UpToSlots h' → Dct h' e oe.dict → Q () { s with heap := h' }) : wpAny M A (leaving env (.ref e)) Q XE s := by
  unfold leaving
  refine wpAny_bind (noteFirstD fr fu hf he st ne hd h1 h0 fun h1 q dc => ?_)
  exact flightD (s := { s with heap := h1 }) q.1 q.2.1 q.2.2.1 dc fun h2 a b c d dc2 => k h2 ⟨a, ne, b.2.2, c⟩ (Heap.UpToSlots.trans q.2.2.2 fun b o hb n => ⟨o.slots, d b o hb n⟩) dc2
/-- it goes on through a frame -/
theorem leavesOnD (fr : A.frames = some (env :: outer)) (hf : env.frame = some L) (fly : B.FlyingW (env :: outer) e cls a0 s.heap) (dc : Dct s.heap e od)
    (k : ∀ h', B.FlyingW outer e cls a0 h' → s.heap.UpToSlots h' → Dct h' e od → Q () { s with heap := h' }) : wpAny M A (leaving env (.ref e)) Q XE s := by
  unfold leaving
  refine wpAny_bind (noteNextD fr hf fly dc fun h1 q dc => ?_)
  exact flightD (s := { s with heap := h1 }) q.1 q.2.1 q.2.2.1 dc fun h2 a b c d dc2 => k h2 ⟨a, fly.2.1, b.2.2, c⟩ (Heap.UpToSlots.trans q.2.2.2 fun b o hb n => ⟨o.slots, d b o hb n⟩) dc2
/-- it comes to a try, and lands -/
theorem looksD (fr : A.frames = some (env :: outer)) (hf : env.frame = some L) (fly : B.FlyingW (env :: outer) e cls a0 s.heap) (dc : Dct s.heap e od)
    (k : ∀ h', B.HeldW (env :: outer) e cls a0 L h' → s.heap.UpToSlots h' → Dct h' e od → Q () { s with heap := h' }) : wpAny M A (noteFrame (.ref e) env) Q XE s :=
  noteNextD fr hf fly dc fun h1 q dc => k h1 ⟨q.1, fly.2.1, q.2.1, q.2.2.1⟩ q.2.2.2 dc
theorem landsD (h : B.HeldW l e cls a0 L s.heap) (dc : Dct s.heap e od) (k : ∀ h', B.FlyingW l e cls a0 h' → s.heap.UpToSlots h' → Dct h' e od → Q () { s with heap := h' }) : wpAny M A (setFlight (.ref e) none) Q XE s :=
  flightD h.1 h.2.2.1 h.2.2.2 dc fun h2 a b c d dc2 => k h2 ⟨a, h.2.1, b, c⟩ (fun b o hb n => ⟨o.slots, d b o hb n⟩) dc2
theorem againD (h : B.FlyingW l e cls a0 s.heap) (dc : Dct s.heap e od) (k : ∀ h', B.FlyingW l e cls a0 h' → s.heap.UpToSlots h' → Dct h' e od → Q () { s with heap := h' }) : wpAny M A (setFlight (.ref e) none) Q XE s :=
  flightD h.1 h.2.2.1 h.2.2.2.at dc fun h2 a b c d dc2 => k h2 ⟨a, h.2.1, b, c⟩ (fun b o hb n => ⟨o.slots, d b o hb n⟩) dc2
end
end L2


set_option Elab.async false
set_option linter.all false
set_option maxRecDepth 100000
set_option maxHeartbeats 4000000
namespace L2
open PySem PySem.W PySem.Spec PySem.Calls PyProof.Rows
/-! ### own exceptions with an __init__ of their own: made, told of, written to, read -/
abbrev vmVE : List Value := [.type "ValueError", .type "Exception", .type "BaseException", .type "object"]
/-- an exception's object, its arguments at t -/
abbrev eO (C t : Addr) (od : Option Addr) : Obj := { cls := .ref C, dict := od, data := .fields #[.ref t, .none, .none, .none, .bool false, .none] }
/-- the class C, an own one right under the own class R, that under ValueError; its __init__ is its own, R has none -/
structure XIni (K : PySem.W.Frag) (C R fI : Addr) : Prop where
  lk : ∃ dd nm bs ns qn sn sub ab col k0 k1 k2 k3 k5, K.lookup C = some ⟨.type "type", dd, .cls ⟨nm, bs, .ref C :: .ref R :: vmVE, ns, qn, true, sn, sub, ab, col, false⟩, #[k0, k1, k2, k3, some (.builtin "ValueError.__new__"), k5]⟩
  ini : findIn K (.ref C) "__init__" = some (some (.ref fI))
  fn : typeIn K (.ref fI) = some (.type "function")
  row : XCls K R vmVE "ValueError.__new__"
  rtl : mroIn K R (.type "object") = some true
  sa : findIn K (.ref C) "__setattr__" = some (some (.builtin "object.__setattr__"))
  na : takerIn K C "at" = some none
  nat : findIn K (.ref C) "at" = some none
  hd : hasDictIn K C = true
  rd : XRead K C
  sg : specialIn K (.ref R) "__getattribute__" = some (some (.builtin "type.__getattribute__"))
  rr : readsIn K R (.type "type") = true
  fi : findCls K (.ref R) (.type "type") "__init__" = some (.val (.builtin "ValueError.__init__"))
section
variable {K : PySem.W.Frag} {C R fI : Addr} {h : Heap}
theorem XIni.obj (c : XIni K C R fI) (X : K.In h) : ∃ N nm q bs sn sub ab col dd k0 k1 k2 k3 k5, h.get? C = some (excClassObj nm q C N bs (.ref R :: vmVE) true sn sub ab col dd k0 k1 k2 k3 k5 "ValueError.__new__") := by
  obtain ⟨dd, nm, bs, ns, qn, sn, sub, ab, col, k0, k1, k2, k3, k5, e⟩ := c.lk
  exact ⟨ns, nm, qn, bs, sn, sub, ab, col, dd, k0, k1, k2, k3, k5, X _ _ e⟩
theorem XIni.tail (c : XIni K C R fI) (X : K.In h) : OwnTail h vmVE (.ref R :: vmVE) := by
  obtain ⟨bm, N, nm, q, bs, hdct, sn, sub, ab, col, dd, k0, k1, k2, k3, k5, mN, hR, hN, hni, _⟩ := c.row.obj X
  exact .own hR hN hni .base
variable {prog : Program} {w : World} {A : Around} {XE : Value → Shared → Prop} {s : Shared}
theorem type_call_ini (c : XIni K C R fI) (X : K.In s.heap) {rest : List Value} {Q : Fin → Shared → Prop} (hz : rest.length ≤ sizeLine)
    (k : wpAny (model prog w) A (call (.ref fI) (.ref (s.heap.objs.size + 1) :: rest)) (fun r s' => r = .none ∧ Q (.done (.ret (.ref (s.heap.objs.size + 1)))) s') XE { s with heap := (s.heap.push { cls := .type "tuple", data := .seq rest.toArray }).push (eO C s.heap.objs.size none) }) :
    wpAny (model prog w) A (Builtin.«type.__call__» ⟨.ref C :: rest, []⟩) Q XE s := by
  obtain ⟨N, nm, q, bs, sn, sub, ab, col, dd, k0, k1, k2, k3, k5, hC⟩ := c.obj X
  have T := c.tail X
  have F := PySem.F.excBase_ValueError
  obtain ⟨h, g, d, t, os⟩ := s
  dsimp only at hC T X k ⊢
  repeat (first | with_reducible refine wpAny_loadPart_at hC ?_ | with_reducible refine wpAny_madeBy_exc hC ?_ | wp_step)
  refine codeAny_call_builtin_code (Code.quiet_builtin _ F.quiet) (wpAny_check_new_subT F T hC ?_)
  refine codeAny_exc_new_subT F T hC ?_ hz
  show wpAny _ _ _ _ _ _
  have kp : ∀ b o, h.get? b = some o → ((h.push { cls := .type "tuple", data := .seq rest.toArray }).push (eO C h.objs.size none)).get? b = some o := fun b o e => Heap.get?_push_of_some _ (Heap.get?_push_of_some _ e)
  have X1 := X.keeps kp
  have hC1 := kp _ _ hC
  have he : ((h.push { cls := .type "tuple", data := .seq rest.toArray }).push (eO C h.objs.size none)).get? (h.objs.size + 1) = some (eO C h.objs.size none) := by heap_get
  have hcC : (Value.ref C :: .ref R :: vmVE).contains (.ref C) = true := by simp
  unfold isInstance
  repeat (first | with_reducible refine wpAny_loadPart_at he ?_ | (with_reducible refine wpAny_isSubtype_exc hC1 ?_; rw [hcC]) | wp_step)
  show wpAny _ _ (typeLookup (.ref C) _) _ _ _
  refine (looks_findIn X1 c.ini).here ?_
  refine wpAny_holding (wpAny_bind ?_)
  unfold bindSpecial
  refine wpAny_bind ((looks_typeIn X1 c.fn).here ?_)
  rw [if_pos (by decide)]
  refine wpAny_pure (wpAny_bind (wpAny_mono k (fun r s' hr => ?_) fun _ _ x => x))
  obtain ⟨rfl, hQ⟩ := hr
  wp_walk
  exact hQ
theorem call_ini (c : XIni K C R fI) (X : K.In s.heap) {rest : List Value} {Q : Value → Shared → Prop} (hz : rest.length ≤ sizeLine)
    (k : wpAny (model prog w) (A.under (.builtin "type.__call__" ⟨.ref C :: rest, []⟩)) (call (.ref fI) (.ref (s.heap.objs.size + 1) :: rest)) (fun r s' => r = .none ∧ Q (.ref (s.heap.objs.size + 1)) s') XE { s with heap := (s.heap.push { cls := .type "tuple", data := .seq rest.toArray }).push (eO C s.heap.objs.size none) }) :
    wpAny (model prog w) A (call (.ref C) rest) Q XE s := by
  obtain ⟨N, nm, q, bs, sn, sub, ab, col, dd, k0, k1, k2, k3, k5, hC⟩ := c.obj X
  have f1 := tc_lookup
  have f2 := tc_bind (.ref C)
  have hT : s.TypeIs (.ref C) "type" := ⟨_, hC, rfl⟩
  refine wpAny_call (codeAny_of_tree ?_)
  show wpAny _ _ (callAny (.ref C) _) _ _ _
  have k2 := fun Q' k' => type_call_ini (prog := prog) (w := w) (A := A.under (.builtin "type.__call__" ⟨.ref C :: rest, []⟩)) (XE := XE) c X (rest := rest) (Q := Q') hz k'
  obtain ⟨h, g, d, t, os⟩ := s
  dsimp only at hC hT X k k2 ⊢
  repeat (any_goals (first | assumption | with_reducible refine wpAny_loadPart_at hC ?_ | wp_step))
  refine ⟨rfl, ?_⟩
  exact codeAny_call_builtin_at (Code.quiet_builtin _ (by decide +kernel)) entry_typeCall (wpAny_check_type_call_sub hC (k2 _ k))
theorem base_ini (c : XIni K C R fI) (X : K.In s.heap) {e t : Addr} {m : Value} {Q : Value → Shared → Prop} (he : s.heap.get? e = some (eO C t none))
    (k : ∀ h', (∀ b o, b ≠ e → s.heap.get? b = some o → h'.get? b = some o) → h'.get? e = some (eO C s.heap.objs.size none) → Q .none { s with heap := h' }) :
    wpAny (model prog w) A (call (.builtin "ValueError.__init__") [.ref e, m]) Q XE s := by
  obtain ⟨N, nm, q, bs, sn, sub, ab, col, dd, k0, k1, k2, k3, k5, hC⟩ := c.obj X
  have T := c.tail X
  have F := PySem.F.excBase_ValueError
  obtain ⟨h, g, d, tk, os⟩ := s
  dsimp only at hC T X k he ⊢
  refine wpAny_call (codeAny_call_builtin F.init.plain F.initEntry (wpAny_check_init_subT F T hC he rfl ?_))
  have he2 := Heap.get?_push_of_some { cls := .type "tuple", data := .seq #[m] } he
  repeat (first | with_reducible refine wpAny_setField he2 rfl (by decide) ?_ | wp_step)
  refine k _ (fun b o n hb => ?_) ?_
  · rw [Heap.get?_update_other _ _ (Ne.symm n)]
    exact Heap.get?_push_of_some _ hb
  · rw [Heap.get?_update_self _ he2 rfl]
    rfl
/-- x.at = v, the first attribute of an own exception -/
theorem set_at (c : XIni K C R fI) (X : K.In s.heap) {e t : Addr} {v : Value} {Q : Unit → Shared → Prop} (he : s.heap.get? e = some (eO C t none))
    (k : ∀ h' tk', (∀ b o, b ≠ e → s.heap.get? b = some o → h'.get? b = some o) → h'.get? e = some (eO C t (some s.heap.objs.size)) → h'.Ns1 s.heap.objs.size (fun y => if y = "at" then some v else none) → Q () { s with heap := h', toks := tk' }) :
    wpAny (model prog w) A (setAttr (.ref e) "at" v) Q XE s := by
  obtain ⟨N, nm, q, bs, sn, sub, ab, col, dd, k0, k1, k2, k3, k5, hC⟩ := c.obj X
  have SF := PySem.F.store_ValueError
  have J : InstAt s.heap e (eO C t none) C none := ⟨he, rfl, rfl, True.intro⟩
  refine set_plain X J c.sa ?_
  have hm : Looks (model prog w) s.heap (mroOf (.ref C)) (.ref C :: .ref R :: vmVE) := (Looks.ld hC).andThen .now
  have sub' : Looks (model prog w) s.heap (isInstance (.ref e) (.type "object")) true := J.type.andThen (looks_mroIn X c.rd.ob)
  refine codeAny_call_builtin SF.slot.plain SF.entry (@check_slot (model prog w) _ _ { s with toks := s.toks + 1 } "object.__setattr__" "object" "__setattr__" (.ref e) [.str "at" s.toks, v] [] _ SF.kind SF.split sub' (SF.args (.ref e) (.str "at" s.toks) v) ?_)
  rw [osa_eq, refuse_eq]
  refine wpAny_bind (wpAny_bind (Looks.here (s := { s with toks := s.toks + 1 }) J.type (wpAny_bind (Looks.here (s := { s with toks := s.toks + 1 }) hm ?_))))
  rw [refuseLoop_ref, refuseLoop_ref, SF.passes]
  refine wpAny_pure (wpAny_bind (Looks.here (s := { s with toks := s.toks + 1 }) J.type (wpAny_bind (Looks.here (s := { s with toks := s.toks + 1 }) (looks_findIn X c.nat) ?_))))
  refine wpAny_bind (wpAny_pure ?_)
  have hc : clsIn K C = some ⟨nm, bs, .ref C :: .ref R :: vmVE, N, q, true, sn, sub, ab, col, false⟩ := by
    obtain ⟨dd', nm', bs', ns', qn', sn', sub', ab', col', k0', k1', k2', k3', k5', e'⟩ := c.lk
    have := X _ _ e'
    rw [hC] at this
    cases this
    unfold clsIn
    rw [e']
  refine wpAny_bind (wpAny_pure (wpAny_bind (wpAny_bind (wpAny_loadPart he (wpAny_bind (Looks.here (s := { s with toks := s.toks + 1 }) (looks_clsIn X hc) ?_))))))
  rw [if_neg (by simp)]
  show wpAny _ _ (if (!true || !typeHasDict (Value.ref C)) = true then pure none else _) _ _ _
  rw [if_neg (by simp [typeHasDict])]
  have hs0 : e ≠ s.heap.objs.size := Nat.ne_of_lt (Heap.lt_size he)
  have he1 := Heap.get?_push_of_some { cls := .type "dict", data := .dict #[] } he
  refine wpAny_bind (wpAny_alloc' ?_)
  refine wpAny_bind (wpAny_update' he1 ?_)
  refine wpAny_pure ?_
  have he2 : ((s.heap.push { cls := .type "dict", data := .dict #[] }).update e fun o => { cls := o.cls, dict := some s.heap.objs.size, data := o.data, slots := o.slots }).get? e = some (eO C t (some s.heap.objs.size)) := Heap.get?_update_self _ he1 rfl
  have hd2 : ((s.heap.push { cls := .type "dict", data := .dict #[] }).update e fun o => { cls := o.cls, dict := some s.heap.objs.size, data := o.data, slots := o.slots }).get? s.heap.objs.size = some { cls := .type "dict", data := .dict #[] } :=
    (Heap.get?_update_ne _ _ _ _ hs0.symm).trans (Heap.get?_push_at rfl rfl)
  have kp : ∀ b o, b ≠ e → s.heap.get? b = some o → ((s.heap.push { cls := .type "dict", data := .dict #[] }).update e fun o => { cls := o.cls, dict := some s.heap.objs.size, data := o.data, slots := o.slots }).get? b = some o := fun b o n hb =>
    (Heap.get?_update_ne _ _ _ _ n).trans (Heap.get?_push_of_some _ hb)
  generalize ((s.heap.push { cls := .type "dict", data := .dict #[] }).update e fun o => { cls := o.cls, dict := some s.heap.objs.size, data := o.data, slots := o.slots }) = h2 at he2 hd2 kp ⊢
  have nd : h2.Ns s.heap.objs.size (fun _ => none) := ⟨_, #[], _, hd2, rfl, fun e he => absurd he (by simp), fun _ => rfl⟩
  show wpAny _ _ (Builtin.ObjectAttr.storeInDict s.heap.objs.size (.str "at" s.toks) "at" v) _ _ _
  unfold Builtin.ObjectAttr.storeInDict Builtin.ObjectAttr.newKeyGuard
  refine wpAny_bind (wpAny_pure (wpAny_bind (wpAny_nsSet1 (Heap.Ns1.of_empty nd) fun h3 hn3 hs3 => ?_)))
  obtain ⟨oD, esD, epD, hoD, hdD, hcD⟩ := hn3.count (Within.cons "at" v Within.nil)
  refine wpAny_bind (wpAny_lookBehind hoD (by rw [hdD]; exact pastItsLine_dict (Nat.le_trans hcD (by rw [List.length_cons, List.length_nil, sizeLine_eq]; omega))) ?_)
  refine wpAny_pure ?_
  exact k h3 _ (fun b o n hb => (hs3.2 b (Nat.ne_of_lt (Heap.lt_size hb))).trans (kp b o n hb)) ((hs3.2 e hs0).trans he2) hn3
/-- x.at of an own exception, caught or not -/
theorem get_at (c : XIni K C R fI) (X : K.In s.heap) {e d : Addr} {o : Obj} {mA : Str → Option Value} {v : Value} {expr : Bool} {Q : Value → Shared → Prop} (he : s.heap.get? e = some o) (hcl : o.cls = .ref C) (hnc : notCls o = true) (hd : o.dict = some d) (hn : s.heap.Ns1 d mA) (hv : mA "at" = some v) (hh : handedIn v = true)
    (k : Q v { s with toks := s.toks + 1 }) : wpAny (model prog w) A (getAttr (.ref e) "at" expr) Q XE s := by
  obtain ⟨od, hod, hl⟩ := lookIn_ns hn
  have J : InstAt s.heap e o C (some od) := ⟨he, hcl, hnc, by rw [hd]; exact hod⟩
  have hf : findObj K C (some od) "at" = some (.value v) := findObj_own c.hd c.nat rfl (by rw [hl, hv])
  have L0 := J.type (M := model prog w)
  have L1 := looks_findIn (M := model prog w) X c.rd.ga
  have L2 := looks_findIn (M := model prog w) X c.rd.gh
  have L3 := looks_mroIn (M := model prog w) X c.rd.bx
  have L4 := looks_find (M := model prog w) X J hf
  have FB := PySem.F.attr_ValueError
  obtain ⟨h, g, dr, tk, os⟩ := s
  dsimp only at X L0 L1 L2 L3 L4 k ⊢
  unfold getAttr getAttrBy
  refine wpAny_bind (wpAny_mkText (wpAny_holding (wpAny_bind (L0.at (wpAny_bind (L1.at ?_))))))
  show wpAny _ _ (getAttrByItsOwn _ _ _ _ _ _) _ _ _
  unfold getAttrByItsOwn hookBefore
  rw [if_pos (show onTheHeap (Value.ref C) = true from rfl)]
  refine wpAny_bind (L2.at (wpAny_bind (wpAny_attempt (wpAny_holding ?_))))
  unfold callGetattribute
  rw [show (expr && onTheHeap (Value.builtin "BaseException.__getattribute__")) = false from Bool.and_false _, if_neg (by decide)]
  unfold boundAndCalled
  rw [FB.ga.bind (.ref e)]
  refine wpAny_bind (wpAny_pure (wpAny_call ?_))
  refine codeAny_call_builtin FB.ga.plain PySem.F.entry_bexc_ga ?_
  refine check_exc L0 L3 ?_
  unfold Builtin.«object.__getattribute__»
  refine wpAny_bind (wpAny_pure (wpAny_bind (wpAny_pure (wpAny_bind (L0.here (wpAny_bind (L4.here ?_)))))))
  refine wpAny_pure ?_
  show wpAny _ _ (handedOut v) _ _ _
  rw [handedOut_of hh]
  exact wpAny_pure k
end
end L2


set_option Elab.async false
set_option linter.all false
set_option maxRecDepth 100000
set_option maxHeartbeats 4000000
namespace L2
open PySem PySem.W PySem.Spec PySem.Calls PyProof.Rows
/-- an own exception being made: as yet without attributes, or with the dict d -/
def excM (e C : Addr) : HO := .ext fun h => ∃ t, h.get? e = some (eO C t none)
def excN (e C d : Addr) : HO := .ext fun h => ∃ t, h.get? e = some (eO C t (some d))
theorem excM_ok {P : Program} {w : World} {H : Hp} {h : Heap} {e C t : Addr} (x : h.get? e = some (eO C t none)) : ObjOk P w H h e (excM e C) :=
  ⟨⟨t, x⟩, ⟨_, x⟩, fun h1 h2 ⟨t', a⟩ k => ⟨t', k _ a⟩⟩
theorem excN_ok {P : Program} {w : World} {H : Hp} {h : Heap} {e C t d : Addr} (x : h.get? e = some (eO C t (some d))) : ObjOk P w H h e (excN e C d) :=
  ⟨⟨t, x⟩, ⟨_, x⟩, fun h1 h2 ⟨t', a⟩ k => ⟨t', k _ a⟩⟩
section
variable {X : Cx} {C R fI : Addr} {x : Str} {e v2 : Expr} {es : List Expr} {t : TA} {te : TE} {np apos pos p1 p2 p3 : Pos} {cc : Str} {j : Nat}
/-- f'..{e}', e a number -/
def tFstr (te : TE) : TE := fun σ H Q => te σ H fun v H1 => ∃ i : Int, v = .int i ∧ i.natAbs < 10 ^ 12 ∧ ∀ u : Str, Q (.str u) H1
theorem pe_fstr (he : PE X e te) (hc : cc.length ≤ 1000) : PE X (.JoinedStr [.Constant (.str cc) j p1, .FormattedValue e (-1) none p2] p3) (tFstr te) := by
  intro pins s σ H Q I h
  refine JoinedStr_many (joinParts_cons (Constant_str ⟨?_, joinParts_cons (FormattedValue_plain (thn (he pins _ σ H _ (I.tok _) h) fun u s1 ⟨v, H1, I1, r1, i, ev, hi, q⟩ => ?_))⟩))
  · rw [strLen_append]
    have : (Str.empty).length = 0 := rfl
    rw [sizeLine_eq]
    omega
  · subst ev
    obtain ⟨tk, rfl⟩ := (show ∃ tk, u = Value.int i tk from r1)
    have hl : i.natAbs.log2 < 1920 := by
      by_cases z : i.natAbs = 0
      · rw [z]; decide
      · refine (Nat.log2_lt z).mpr (Nat.lt_of_lt_of_le hi ?_)
        exact Nat.le_trans (show 10 ^ 12 ≤ 2 ^ 40 by decide) (Nat.pow_le_pow_right (by decide) (by decide))
    refine formatField_int_small hl ⟨?_, joinParts_nil ⟨.str _, H1, I1.tok _, ⟨_, rfl⟩, q _⟩ ?_⟩
    all_goals
      have h10 := int_text_length_le10 (a := i) (k := 12) (by decide) hi
      have h11 : (Str.ofString (toString i)).length = (toString i).length := PySem.ofString_length _
      have h12 : (Str.empty).length = 0 := rfl
      rw [strLen_append, strLen_append, sizeLine_eq, h11]
      omega
/-- RowError.__init__(self, ..) -/
def tXini (C : Addr) (t : TA) : TE := fun σ H Q => t σ H fun vs H1 => ∃ e y, vs = [.ref e, y] ∧ H1 e = some (excM e C) ∧ Q .non (upd H1 e (excM e C))
theorem pe_xini {pl : Sem Bool} (c : XIni X.K C R fI) (hg : Gl X x) (hm : X.mg x = some (.ref R)) (ha : PA X (e :: es) t)
    (ht : eval (.Call (.Attribute (.Name x np) "__init__" apos) (e :: es) [] pos) X.env = (do
      let ov ← eval (.Name x np) X.env
      standAt apos.atName
      let (f, first) ← holding [ov] (getMethod ov "__init__" pl)
      callWith pos f first (backTo pos (starEach (e :: es) X.env)) (backToKw pos (keywordEach [] X.env))) := by rfl)
    (he : starEach (e :: es) X.env = (false, eval e X.env) :: starEach es X.env := by rfl) (hpl : (backTo pos (starEach es X.env)).any (·.1) = false := by rfl) (hdb : (x == ("__debug__" : Str)) = false := by decide) :
    PE X (.Call (.Attribute (.Name x np) "__init__" apos) (e :: es) [] pos) (tXini C t) := by
  intro pins s σ H Q I h
  refine methodCall_KW (pl := pl) (ld_glob I hg hm ?_ hdb) ht
  refine method_cls I.kIn c.sg (cls_value I.kIn c.rr c.fi rfl ?_)
  refine callWith_builtin1 (thn (ha pos pins _ σ H _ (I.tok _) h) fun us s1 ⟨vs, H1, I1, r1, e0, y, ev, hx, q⟩ => ?_) he hpl
  subst ev
  cases r1 with
  | cons r1 r2 =>
    cases r2 with
    | cons r2 r3 =>
      cases r3
      obtain rfl : _ = Value.ref e0 := r1
      obtain ⟨t0, ht0⟩ := (I1.hok e0 _ hx).1
      exact base_ini c I1.kIn ht0 fun h' kp e2 => ⟨.non, _, I1.write (x := e0) (e := e0) (t' := s1.toks) (by rw [hx]; exact True.intro) (.inl rfl) kp ⟨_, e2⟩ (excM_ok e2), rfl, q⟩
/-- self.at = e -/
def sXat (C : Addr) (ta tv : TE) : TS := fun D σ H => tv σ H fun y H1 => ta σ H1 fun z H2 => ∃ e0, z = .ref e0 ∧ H2 e0 = some (excM e0 C) ∧ ∀ d, H2 d = none → d ≠ e0 → D.nx σ (upd (upd H2 d (.xd [("at", y)])) e0 (excN e0 C d))
theorem RelO_at {y : V} {u : Value} (r : RelV y u) (f : Str) : RelO (([("at", y)] : List (Str × V)).lookup f) (if f = "at" then some u else none) := by
  by_cases h : f = "at"
  · subst h
    rw [if_pos rfl, List.lookup_cons_self]
    exact r
  · rw [if_neg h, List.lookup_cons, show (f == ("at" : Str)) = false from beq_eq_false_iff_ne.mpr h]
    exact True.intro
theorem ps_xat {o value : Expr} {ta tv : TE} {pos' : Pos} (c : XIni X.K C R fI) (ha : PE X o ta) (hv : PE X value tv) (hs : swapsWith value (some (.Attribute o "at" pos')) pos.line X.env = pure false) : PS X (.Assign [.Attribute o "at" pos'] value pos) (sXat C ta tv) := by
  intro pins s σ H D I h
  refine plainObj_wpAny_Assign_Attribute (thn (hv pins s σ H _ I h) fun u s1 ⟨y, H1, I1, ry, q⟩ => thn (ha pins s1 σ H1 _ I1 q) fun ov s2 ⟨z, H2, I2, rz, e0, ez, hx, q2⟩ => ?_) hs
  subst ez
  obtain rfl : ov = Value.ref e0 := rz
  obtain ⟨t0, ht0⟩ := (I2.hok e0 _ hx).1
  refine set_at c I2.kIn ht0 fun h' tk kp e2 ns => ?_
  have n0 : s2.heap.objs.size ≠ e0 := Nat.ne_of_gt (Heap.lt_size ht0)
  obtain ⟨oD, esD, epD, hoD, rD⟩ := id ns
  have fr : oD.isFreed = false := (Heap.get?_some_iff.mp hoD).2
  have g1 : (s2.heap.push oD).get? s2.heap.objs.size = some oD := Heap.get?_push_size s2.heap fr
  have I3 := I2.laid (a := s2.heap.objs.size) (o := .xd [("at", y)]) (h' := s2.heap.push oD) (t' := tk) (fun b u e => Heap.get?_push_of_some _ e) (Nat.le_refl _) ⟨_, ⟨oD, esD, epD, g1, rD⟩, RelO_at ry⟩
  have I4 := I3.write (x := e0) (e := e0) (o := excN e0 C s2.heap.objs.size) (h' := h') (t' := tk) (by rw [upd_ne n0.symm, hx]; exact True.intro) (.inl rfl) (fun b u n e => ?_) ⟨_, e2⟩ (excN_ok e2)
  · exact ⟨σ, _, I4, q2 _ I2.fresh n0⟩
  · by_cases hb : b = s2.heap.objs.size
    · subst hb
      rw [g1] at e
      cases e
      exact hoD
    · refine kp b u n ?_
      rw [← e]
      exact (Heap.get?_push_ne _ _ _ hb).symm
end
end L2


set_option Elab.async false
set_option linter.all false
set_option maxRecDepth 100000
set_option maxHeartbeats 4000000
namespace L2
open PySem PySem.W PySem.Spec PySem.Calls PyProof.Rows
/-- what the __init__ of such a class does -/
def spXI (C : Addr) : Sp := fun vs H Q _ => ∃ (e : Addr) (i : Int), vs = [.ref e, .int i] ∧ H e = some (excM e C) ∧ i.natAbs < 10 ^ 12 ∧ ∀ d, H d = none → d ≠ e → Q .non (upd (upd H d (.xd [("at", .int i)])) e (excN e C d))
theorem upd3 {H : Hp} {e d : Addr} {a b c : HO} (n : d ≠ e) : upd (upd (upd H e a) d b) e c = upd (upd H d b) e c := by
  funext x
  unfold upd
  by_cases h : x = e
  · simp [h]
  · by_cases h2 : x = d
    · simp [h, h2]
    · simp [h, h2]
/-- a heap without e -/
def rm (H : Hp) (e : Addr) : Hp := fun c => if c = e then none else H c
theorem rm_ne {H : Hp} {e c : Addr} (h : c ≠ e) : rm H e c = H c := by
  unfold rm
  rw [if_neg h]
theorem rm_same {H : Hp} {e : Addr} : rm H e e = none := by
  unfold rm
  rw [if_pos rfl]
theorem rm_upd2 {H : Hp} {e d : Addr} {a b : HO} (n : d ≠ e) (he : H e = none) : rm (upd (upd H d a) e b) e = upd H d a := by
  funext x
  by_cases h : x = e
  · subst h
    rw [rm_same, upd_ne n.symm, he]
  · rw [rm_ne h, upd_ne h]
/-- it flies over B; B has all that stood at the call (but the callers' frames) and all that is tracked; od its dict -/
def CX2 (P : Program) (w : World) : CXT := fun outer H s E e s' => ∃ (ea : Addr) (cls a0 : Value) (od : Option Addr) (H' : Hp) (B : Heap), e = .ref ea ∧ B.FlyingW outer ea cls a0 s'.heap ∧ Dct s'.heap ea od ∧
  (∀ b o, s.heap.get? b = some o → b ∉ frs outer → ∃ o', B.get? b = some o') ∧ (∀ b o, H' b = some o → ∃ o', B.get? b = some o') ∧
  s'.os = s.os ∧ AllBare s'.gens ∧ Un (frs outer) [] H H' s.heap s'.heap ∧ HOk P w H' s'.heap ∧ E cls od H'
section
variable {X : Cx} {C R f : Addr} {fd : FuncData} {k : Nat}
/-- C(i), its __init__ run -/
theorem run_mkx {pins : List (Addr × Obj)} {σ : St} {H : Hp} {s : Shared} {i : Int} {us : List Value} {Q : VK} {XE : Value → Shared → Prop} (c : XIni X.K C R f) (F : FnOk X.prog X.w X.K X.mg X.base CX0 k f fd ["self", "at"] (spXI C)) (hr : Room (k + 1) X.A) (hb : Binds X.K fd ["self", "at"] []) (I : Inv X pins σ H s) (r : Vals [.int i] us) (hi : i.natAbs < 10 ^ 12)
    (h : ∀ e d, s.heap.objs.size ≤ e → H e = none → H d = none → d ≠ e → Q (.ref e) (upd (upd H d (.xd [("at", .int i)])) e (excN e C d))) : wpAny (model X.prog X.w) X.A (call (.ref C) us) (EP X pins σ Q) XE s := by
  have hz : us.length ≤ sizeLine := by
    rw [← r.length, sizeLine_eq]
    show 1 ≤ 16777216
    decide
  have I1 := I.kept (t' := s.toks) (h' := s.heap.push { cls := .type "tuple", data := .seq us.toArray }) (fun b u e => Heap.get?_push_of_some _ e)
  have he : ((s.heap.push { cls := .type "tuple", data := .seq us.toArray }).push (eO C s.heap.objs.size none)).get? (s.heap.objs.size + 1) = some (eO C s.heap.objs.size none) := by heap_get
  have I2 := I1.laid (a := s.heap.objs.size + 1) (o := excM (s.heap.objs.size + 1) C) (t' := s.toks) (h' := (s.heap.push { cls := .type "tuple", data := .seq us.toArray }).push (eO C s.heap.objs.size none)) (fun b u e => Heap.get?_push_of_some _ e) (Nat.le_of_eq (Heap.size_push _ _)) (excM_ok he)
  have hn : H (s.heap.objs.size + 1) = none := I.hok.fresh (Nat.le_succ _)
  have r2 : Vals (V.ref (s.heap.objs.size + 1) :: [V.int i]) (Value.ref (s.heap.objs.size + 1) :: us) := .cons rfl r
  have hl : (Value.ref (s.heap.objs.size + 1) :: us ++ []).length = ["self", "at"].length := by
    have e := r2.length
    rw [List.append_nil]
    exact e.symm
  have hq : spXI C [V.ref (s.heap.objs.size + 1), V.int i] (upd H (s.heap.objs.size + 1) (excM (s.heap.objs.size + 1) C)) (fun v H2 => v = .non ∧ Q (.ref (s.heap.objs.size + 1)) H2) E0 := by
    refine ⟨_, i, rfl, upd_same, hi, fun d hd ne => ⟨rfl, ?_⟩⟩
    rw [upd3 ne]
    rw [upd_ne ne] at hd
    exact h _ d (Nat.le_succ _) hn hd ne
  refine call_ini c I.kIn hz (wpAny_call (codeAny_mono (F.run _ X.stack _ _ ⟨Value.ref (s.heap.objs.size + 1) :: us, []⟩ (Value.ref (s.heap.objs.size + 1) :: us) _ _ E0 (hr.make C us []) (I2.env0.make C us []) (by have := hb _ (Value.ref (s.heap.objs.size + 1) :: us) I2.kIn hl; rw [List.append_nil] at this; exact this) r2 hq) fun r s' hq' => ?_))
  cases r with
  | error e => exact False.elim hq'
  | ok fl =>
    cases fl with
    | ret u =>
      obtain ⟨v, H', I3, rv, ev, q3⟩ := I2.after hq'
      subst ev
      exact ⟨rv, ⟨V.ref (s.heap.objs.size + 1), H', I3, rfl, q3⟩⟩
    | next => exact False.elim hq'
    | brk => exact False.elim hq'
    | cont => exact False.elim hq'
theorem raise_made {M : Model} {A : Around} {XE : Value → Shared → Prop} {K : PySem.W.Frag} {s : Shared} {env : Env} {z : Sem Value} {Q : Flow → Shared → Prop} (c : XIni K C R f) (hh : A.handled = none)
    (h : wpAny M A z (fun v s1 => ∃ e t od, v = .ref e ∧ K.In s1.heap ∧ s1.heap.get? e = some (eO C t od) ∧ XE (.ref e) s1) XE s) : wpAny M A (raiseStmt env (some z) none) Q XE s := by
  have hcB : (Value.ref C :: .ref R :: vmVE).contains (.type "BaseException") = true := by simp
  unfold raiseStmt
  refine wpAny_bind (wpAny_mono h (fun v s1 h1 => ?_) fun _ _ x => x)
  obtain ⟨e, t, od, rfl, X, he, hE⟩ := h1
  obtain ⟨N, nm, q, bs, sn, sub, ab, col, dd, k0, k1, k2, k3, k5, hC⟩ := c.obj X
  obtain ⟨hp, g, d, tk, os⟩ := s1
  dsimp only at hC he X
  repeat (first | with_reducible refine wpAny_loadPart_at he ?_ | with_reducible refine wpAny_loadPart_at hC ?_ | (with_reducible refine wpAny_isSubtype_exc hC ?_; rw [hcB]) | wp_step)
  exact wpAny_raiseNew_none hh hE
end
end L2


set_option Elab.async false
set_option linter.all false
set_option maxRecDepth 100000
set_option maxHeartbeats 4000000
namespace L2
open PySem PySem.W PySem.Spec PySem.Calls PyProof.Rows
/-- raise C(i) -/
def sRaiseC (C : Addr) (t : TA) (E : XK) : TS := fun _ σ H => t σ H fun vs H1 => ∃ i : Int, vs = [.int i] ∧ i.natAbs < 10 ^ 12 ∧ ∀ d, H1 d = none → E (.ref C) (some d) (upd H1 d (.xd [("at", .int i)]))
section
variable {P : Program} {w : World} {K : PySem.W.Frag} {mg : Str → Option Value} {base : Heap} {N : List Str} {qual : Str} {scope : Scope} {f : Addr} {cd : Value} {A : Around} {outer : List Env} {s₀ : Shared} {H₀ : Hp} {E : XK}
theorem ps_raiseC {C R fI : Addr} {fd : FuncData} {k : Nat} {x : Str} {np cpos pos : Pos} {a : Expr} {as : List Expr} {t : TA} (c : XIni K C R fI) (kp : keepIn K (.ref C) = true) (F : FnOk P w K mg base CX0 k fI fd ["self", "at"] (spXI C)) (hb : Binds K fd ["self", "at"] []) (hr : Room (k + 1) (A.deeper (envOfC qual scope s₀.heap.objs.size f cd))) (hm : mg x = some (.ref C))
    (hg : Gl (cxOf (CX2 P w) P w K mg base N qual scope f cd A outer s₀ H₀ E) x) (ha : PA (cxOf (CX2 P w) P w K mg base N qual scope f cd A outer s₀ H₀ E) (a :: as) t) (hd : (x == ("__debug__" : Str)) = false := by decide)
    (he : starEach (a :: as) (cxOf (CX2 P w) P w K mg base N qual scope f cd A outer s₀ H₀ E).env = (false, eval a (cxOf (CX2 P w) P w K mg base N qual scope f cd A outer s₀ H₀ E).env) :: starEach as (cxOf (CX2 P w) P w K mg base N qual scope f cd A outer s₀ H₀ E).env := by rfl)
    (hpl : (backTo cpos (starEach as (cxOf (CX2 P w) P w K mg base N qual scope f cd A outer s₀ H₀ E).env)).any (·.1) = false := by rfl) :
    PS (cxOf (CX2 P w) P w K mg base N qual scope f cd A outer s₀ H₀ E) (.Raise (some (.Call (.Name x np) (a :: as) [] cpos)) none pos) (sRaiseC C t E) := by
  intro pins s σ H D I h
  have hr' : Room (k + 1) (cxOf (CX2 P w) P w K mg base N qual scope f cd A outer s₀ H₀ E).A := hr
  rw [arm_exec_Raise]
  refine wpAny_bind (wpAny_standAt (raise_made c (I.ok.hd rfl) (wpAny_bind (wpAny_mono (wpAny_Call_Name_kw (ld_glob I hg hm (callWith_K (h₀ := base) I.ok.mod.kin kp (thn (ha cpos pins s σ H _ I h) fun us s1 ⟨vs, H1, I1, r, i, ev, hi, q⟩ => ⟨I1.kIn, ?_⟩) he hpl) hd)) (fun v s3 h3 => wpAny_bind (wpAny_standAt (wpAny_pure h3))) fun _ _ z => z))))
  subst ev
  refine thn (run_mkx (Q := fun v H2 => ∃ e d, v = .ref e ∧ s1.heap.objs.size ≤ e ∧ H1 e = none ∧ H1 d = none ∧ d ≠ e ∧ H2 = upd (upd H1 d (.xd [("at", .int i)])) e (excN e C d)) c F hr' hb I1 r hi fun e d h0 h1 h2 h3 => ⟨e, d, rfl, h0, h1, h2, h3, rfl⟩) fun v s4 hv => ?_
  obtain ⟨vv, H4, I4, rv, e, d, rfl, ge, ne, nd, de, hH4⟩ := hv
  obtain rfl : v = Value.ref e := rv
  have H4e : H4 e = some (excN e C d) := by rw [hH4, upd_same]
  have hrm : rm H4 e = upd H1 d (.xd [("at", .int i)]) := by rw [hH4]; exact rm_upd2 de ne
  obtain ⟨t0, ht0⟩ := (I4.hok e _ H4e).1
  refine ⟨e, t0, some d, rfl, I4.kIn, ht0, ?_⟩
  have bk := I4.bk
  have stk : ∀ {b o}, s₀.heap.get? b = some o → b ∉ frs outer → b ∉ frs ((envOfC qual scope s₀.heap.objs.size f cd) :: outer) := fun {b o} hb nf hx => by
    rcases List.mem_cons.mp (I4.stkSub b hx) with e | e
    · have h1 := Heap.lt_size hb
      have h2 : s₀.heap.objs.size ≤ (envOfC qual scope s₀.heap.objs.size f cd).locals := I4.ok.above
      have e : b = (envOfC qual scope s₀.heap.objs.size f cd).locals := e
      rw [e] at h1
      exact absurd h1 (Nat.not_lt.mpr h2)
    · exact nf e
  have ub : Un (frs outer) [] H₀ H4 s₀.heap s4.heap := I4.base
  have old : ∀ {b o}, s₀.heap.get? b = some o → b ≠ e := fun {b o} hb z => by
    have h1 := Heap.lt_size hb
    have h2 : s₀.heap.objs.size ≤ s1.heap.objs.size := I1.sz
    exact absurd h1 (Nat.not_lt.mpr (Nat.le_trans h2 (z ▸ ge)))
  have hk : ∀ {b o}, H4 b = some o → b ∉ frs ((envOfC qual scope s₀.heap.objs.size f cd) :: outer) := fun {b o} hb hx => by
    have := I4.stkFree b hx
    rw [hb] at this
    cases this
  have nin : ∀ {b}, b ∉ frs ((envOfC qual scope s₀.heap.objs.size f cd) :: outer) → b ≠ e → b ∉ frs ((envOfC qual scope s₀.heap.objs.size f cd) :: outer) ++ [e] := fun {b} h1 h2 h3 => by
    rcases List.mem_append.mp h3 with h | h
    · exact h1 h
    · exact h2 (by simpa using h)
  refine leavesD (B := less s4.heap (frs ((envOfC qual scope s₀.heap.objs.size f cd) :: outer) ++ [e])) (L := (envOfC qual scope s₀.heap.objs.size f cd).locals) I4.ok.frames (less_funs I4.stack fun b h => List.mem_append_left _ h) rfl ht0 less_stays (less_in (by simp)) rfl rfl rfl fun h'' fly up dc => ?_
  have stay : ∀ {b u}, b ∉ frs ((envOfC qual scope s₀.heap.objs.size f cd) :: outer) → b ≠ e → s4.heap.get? b = some u → h''.get? b = some u := fun {b u} hb hn hu => fly.1 b u (by rw [less_out (nin hb hn)]; exact hu)
  have notE : ∀ {b o}, rm H4 e b = some o → b ≠ e ∧ H4 b = some o := fun {b o} hb => by
    by_cases z : b = e
    · rw [z, rm_same] at hb; cases hb
    · exact ⟨z, by rw [rm_ne z] at hb; exact hb⟩
  have keepH : ∀ {b o}, H4 b = some o → (∀ φ, o ≠ .ext φ) → rm H4 e b = some o := fun {b o} hb n => by
    have z : b ≠ e := fun z => by
      rw [z, H4e] at hb
      cases hb
      exact n _ rfl
    rw [rm_ne z]
    exact hb
  have slots : ∀ b o, s₀.heap.get? b = some o → H₀ b = none → b ∈ frs outer → ∃ sl, h''.get? b = some { o with slots := sl } := fun b o e n hb => by
    obtain ⟨sl, e1⟩ := ub.slot b o e n hb (by simp)
    obtain ⟨_, o2, e2, nf⟩ := I4.funs.mem hb
    rw [e1] at e2
    cases e2
    obtain ⟨sl', e3⟩ := up b _ e1 nf
    exact ⟨sl', e3⟩
  refine ⟨e, .ref C, .ref t0, some d, rm H4 e, _, rfl, fly, dc, fun b o hb nf => ?_, fun b o hb => ?_, I4.os, I4.bare, ⟨fun b o e n nf nx => stay (stk e nf) (old e) (ub.keep b o e n nf nx), fun b o e n hb _ => slots b o e n hb, fun b o e n hx => ?_, fun b o e nx => ?_, fun b xs e => keepH (ub.tups b xs e) (by intro _ z; cases z), fun b o u e => keepH (ub.frzs b o u e) (by intro _ z; cases z), fun b ps e => ?_⟩, fun a o ha => ?_, by rw [hrm]; exact q d nd⟩
  · obtain ⟨o', e'⟩ := ub.there b o hb (by simp)
    exact ⟨o', by rw [less_out (nin (stk hb nf) (old hb))]; exact e'⟩
  · obtain ⟨z, hb⟩ := notE hb
    obtain ⟨o', e'⟩ := (I4.hok b o hb).some_
    exact ⟨o', by rw [less_out (nin (hk hb) z)]; exact e'⟩
  · rw [rm_ne (old e)]
    exact ub.free b o e n hx
  · by_cases hb : b ∈ frs outer
    · obtain ⟨_, o2, e2, nf⟩ := I4.funs.mem hb
      obtain ⟨sl', e3⟩ := up b _ e2 nf
      exact ⟨_, e3⟩
    · obtain ⟨o', e'⟩ := ub.there b o e nx
      exact ⟨o', stay (stk e hb) (old e) e'⟩
  · obtain ⟨more, z⟩ := ub.tbls b ps e
    exact ⟨more, keepH z (by intro _ z; cases z)⟩
  · obtain ⟨z, ha⟩ := notE ha
    refine (I4.hok a o ha).stay (fun b u hc q => ?_) (fun c q => keepH q (by intro _ z; cases z)) (fun c xs q => keepH q (by intro _ z; cases z))
    rcases hc with rfl | hc
    · exact stay (hk ha) z q
    · refine stay (hk hc) (fun z => ?_) q
      rw [z, H4e] at hc
      cases hc
end
end L2


set_option Elab.async false
set_option linter.all false
set_option maxRecDepth 100000
set_option maxHeartbeats 4000000
namespace L2
open PySem PySem.W PySem.Spec PySem.Calls PyProof.Rows
/-- a caught exception's object, of the class cls, its dict od -/
def excD (ea : Addr) (cls : Value) (od : Option Addr) : HO := .ext fun h => ∃ o, h.get? ea = some o ∧ o.cls = cls ∧ notCls o = true ∧ o.dict = od
section
variable {X : Cx} {pins : List (Addr × Obj)} {σ : St} {H : Hp} {s : Shared}
theorem Inv.trackD {ea : Addr} {cls : Value} {od : Option Addr} (I : Inv X pins σ H s) (hn : H ea = none) (hs₀ : X.s₀.heap.get? ea = none) (hne : ea ≠ X.env.locals) (hc : ∀ x c, X.env.cells.lookup x = some c → c ≠ ea) (hp : ∀ p ∈ X.pn ++ pins, p.1 ≠ ea) (ho : ∃ o, s.heap.get? ea = some o ∧ o.cls = cls ∧ notCls o = true ∧ o.dict = od) :
    Inv X pins σ (upd H ea (excD ea cls od)) s := by
  have ne : ∀ {b}, b ≠ ea → upd H ea (excD ea cls od) b = H b := fun h => upd_ne h
  have old : ∀ {b o}, X.s₀.heap.get? b = some o → b ≠ ea := fun {b o} h z => by rw [z, hs₀] at h; cases h
  refine ⟨I.ok, I.os, I.bare, ⟨I.base.keep, I.base.slot, fun b o e n hx => ?_, I.base.there, fun b xs e => ?_, fun b o u e => ?_, fun b ps e => ?_⟩, I.loc, I.cell, ?_, fun x c e => ?_, fun p hp' => ?_, fun b o e => ?_, I.len⟩
  · rw [ne (old e)]; exact I.base.free b o e n hx
  · have := I.base.tups b xs e
    rw [ne (ne_of_none this hn)]; exact this
  · have := I.base.frzs b o u e
    rw [ne (ne_of_none this hn)]; exact this
  · obtain ⟨more, this⟩ := I.base.tbls b ps e
    exact ⟨more, by rw [ne (ne_of_none this hn)]; exact this⟩
  · rw [ne hne.symm]; exact I.free
  · rw [ne (hc x c e)]; exact I.freeC x c e
  · obtain ⟨a1, a2, a3⟩ := I.pin p hp'
    exact ⟨a1, by rw [ne (hp p hp')]; exact a2, a3⟩
  · by_cases hb : b = ea
    · subst hb
      rw [upd_same] at e
      cases e
      obtain ⟨o, h1, h2⟩ := ho
      exact ⟨⟨o, h1, h2⟩, ⟨o, h1⟩, fun h1 h2 ⟨o, a, b⟩ k => ⟨o, k o a, b⟩⟩
    · rw [ne hb] at e
      exact (I.hok b o e).stay (fun c u _ q => q) (fun c q => by rw [ne (ne_of_none q hn)]; exact q) (fun c xs q => by rw [ne (ne_of_none q hn)]; exact q)
end
section
variable {X : Cx} {pins : List (Addr × Obj)} {σ : St}
/-- an exception of a callee has come to the body's try: it lands -/
theorem caughtD {H : Hp} {s s' : Shared} {e : Value} {E : XK} {L : Addr} {hs : List ExceptHandler} {Q : Flow → Shared → Prop} {XE : Value → Shared → Prop} (I : Inv X pins σ H s) (hst : X.stack = X.env :: X.outer) (hL : X.env.frame = some L) (cx : CX2 X.prog X.w X.stack H s E e s')
    (k : ∀ (ea : Addr) (cls a0 : Value) (od : Option Addr) (H' : Hp) (B : Heap) (s2 : Shared), e = .ref ea → E cls od H' → Dct s2.heap ea od → Inv X pins σ H' s2 → B.FlyingW X.stack ea cls a0 s2.heap → (∀ b o, H' b = some o → ∃ o', B.get? b = some o') → (∀ b o, s.heap.get? b = some o → b ∉ frs X.stack → ∃ o', B.get? b = some o') →
      (∀ h6, B.FlyingW X.stack ea cls a0 h6 → s2.heap.UpToSlots h6 → Inv X pins σ H' { s2 with heap := h6 }) → wpAny (model X.prog X.w) X.A (handleBy e X.env hs) Q XE s2) :
    wpAny (model X.prog X.w) X.A (noteFrame e X.env) (fun _ s2 => wpAny (model X.prog X.w) X.A (setFlight e none) (fun _ s3 => wpAny (model X.prog X.w) X.A (handleBy e X.env hs) Q XE s3) XE s2) XE s' := by
  obtain ⟨ea, cls, a0, od, H', B, rfl, fly, dc, hB, hH, os, bare, un, hok, hE⟩ := cx
  obtain ⟨T, be, bT, fly2⟩ := fly_less fly
  have fly2' := fly2
  rw [hst] at fly2'
  have apart : ∀ {b o}, B.get? b = some o → b ∉ frs X.stack → b ∉ frs X.stack ++ [ea, T] := fun {b o} hb nf hx => by
    rcases List.mem_append.mp hx with h | h
    · exact nf h
    · rcases (show b = ea ∨ b = T by simpa using h) with rfl | rfl
      · rw [be] at hb; cases hb
      · rw [bT] at hb; cases hb
  have fr' : ∀ b ∈ frs X.stack, H' b = none := fun b hb => by
    obtain ⟨_, o, ho, _⟩ := I.stack.mem hb
    exact un.free b o ho (I.stkFree b hb) (by simp)
  refine looksD (B := less s'.heap (frs (X.env :: X.outer) ++ [ea, T])) (by rw [I.ok.frames, hst]) hL (by rw [← hst] at fly2' ⊢; exact fly2') dc fun h4 held4 up4 dc4 => ?_
  refine landsD (s := { s' with heap := h4 }) held4 dc4 fun h5 fly5 up5 dc5 => ?_
  have up := up4.trans up5
  rw [← hst] at fly5
  have kH : ∀ {b o}, H' b = some o → b ∉ frs X.stack ++ [ea, T] := fun {b o} hb => by
    obtain ⟨o', h1⟩ := hH b o hb
    exact apart h1 fun z => by rw [fr' b z] at hb; cases hb
  have inv : ∀ h5, (less s'.heap (frs X.stack ++ [ea, T])).FlyingW X.stack ea cls a0 h5 → s'.heap.UpToSlots h5 → Inv X pins σ H' { s' with heap := h5 } := fun h5 fly5 up => by
    have stay : ∀ {b u}, b ∉ frs X.stack ++ [ea, T] → s'.heap.get? b = some u → h5.get? b = some u := fun {b u} hb hu => fly5.1 b u (by rw [less_out hb]; exact hu)
    have up1 : ∀ b o, s'.heap.get? b = some o → b ∈ frs X.stack → ∃ sl, h5.get? b = some { o with slots := sl } := fun b o ho hb => by
      obtain ⟨_, o2, e2, nf⟩ := fly.2.2.1.mem hb
      rw [ho] at e2
      cases e2
      exact up b o ho nf
    have un5 : Un (frs X.stack) [] H H' s.heap h5 := by
      refine ⟨fun b o e n nf nx => ?_, fun b o e n hb nx => ?_, un.free, fun b o e nx => ?_, un.tups, un.frzs, un.tbls⟩
      · obtain ⟨o', hb⟩ := hB b o e nf
        exact stay (apart hb nf) (un.keep b o e n nf nx)
      · obtain ⟨sl, e1⟩ := un.slot b o e n hb nx
        obtain ⟨sl', e2⟩ := up1 b _ e1 hb
        exact ⟨sl', e2⟩
      · obtain ⟨o', e1⟩ := un.there b o e nx
        by_cases hb : b ∈ frs X.stack
        · obtain ⟨sl', e2⟩ := up1 b _ e1 hb
          exact ⟨_, e2⟩
        · obtain ⟨o2, h2⟩ := hB b o e hb
          exact ⟨o', stay (apart h2 hb) e1⟩
    have hok5 : HOk X.prog X.w H' h5 := fun a o e => (hok a o e).stay (fun b u hc q => by
      rcases hc with rfl | hc
      · exact stay (kH e) q
      · exact stay (kH hc) q) (fun _ q => q) fun _ _ q => q
    exact I.call' (s' := { s' with heap := h5 }) (ch := []) os un5 hok5 bare (fun b z => absurd z (by simp))
  refine k ea cls a0 od H' (less s'.heap (frs X.stack ++ [ea, T])) _ rfl hE dc5 (inv h5 fly5 up) fly5 (fun b o hb => ?_) (fun b o hb nf => ?_) (fun h6 f6 u6 => inv h6 f6 (up.trans u6))
  · obtain ⟨u, hu⟩ := (hok b o hb).some_
    exact ⟨u, by rw [less_out (kH hb)]; exact hu⟩
  · obtain ⟨o2, h2⟩ := hB b o hb nf
    obtain ⟨o', e1⟩ := un.there b o hb (by simp)
    exact ⟨o', by rw [less_out (apart h2 nf)]; exact e1⟩
end
section
variable {X : Cx} {k : Nat} {f cR : Addr} {fd : FuncData} {ps : List Str} {sp : Sp} {dvs : List V} {ds : List Value} {x g n : Str} {np gp pos p2 p3 p4 : Pos} {a : Expr} {as : List Expr} {t : TA} {ts : TS} {i : Nat} {b₀ : Stmt} {suite : List Stmt} {L : Addr}
theorem run_fnD {pins : List (Addr × Obj)} {σ : St} {H : Hp} {s : Shared} {Q : VK} {E : XK} {us : List Value} {vs : List V} {XE : Value → Shared → Prop} (F : FnOk X.prog X.w X.K X.mg X.base (CX2 X.prog X.w) k f fd ps sp) (hr : Room k X.A) (hb : Binds X.K fd ps ds) (hd : Vals dvs ds)
    (I : Inv X pins σ H s) (r : Vals vs us) (h : sp (vs ++ dvs) H Q E) (hx : ∀ e s', CX2 X.prog X.w X.stack H s E e s' → XE e s') : wpAny (model X.prog X.w) X.A (call (.ref f) us) (EP X pins σ Q) XE s := by
  have r2 : Vals (vs ++ dvs) (us ++ ds) := r.append hd
  have hl : (us ++ ds).length = ps.length := by rw [← r2.length]; exact F.len _ _ _ _ h
  refine wpAny_call (codeAny_mono (F.run X.A X.stack s H ⟨us, []⟩ (us ++ ds) (vs ++ dvs) Q E hr I.env0 (hb s us I.kIn hl) r2 h) fun r s' hq => ?_)
  cases r with
  | error e => exact hx e s' hq
  | ok fl =>
    cases fl with
    | ret u => exact I.after hq
    | next => exact False.elim hq
    | brk => exact False.elim hq
    | cont => exact False.elim hq
end
end L2


set_option Elab.async false
set_option linter.all false
set_option maxRecDepth 100000
set_option maxHeartbeats 4000000
namespace L2
open PySem PySem.W PySem.Spec PySem.Calls PyProof.Rows
section
variable {X : Cx} {C R fI : Addr} {Bn : String}
/-- isinstance(e, c), e a caught exception of the own class C -/
def rIsD (K : PySem.W.Frag) (C : Addr) : List V → Hp → VK → Prop := fun xs H Q => ∃ (ea : Addr) (od : Option Addr) (c : V) (b : Bool), xs = [.ref ea, c] ∧ H ea = some (excD ea (.ref C) od) ∧ (∀ cv, RelV c cv → kitOne K (.ref C) cv = some b) ∧ Q (.bl b) H
theorem call_isd (R : XRead X.K C) (FB : ExcAttrFacts Bn) : CallR X (.builtin "isinstance") (rIsD X.K C) := by
  intro pins s σ H xs us Q I r h
  obtain ⟨ea, od, c, b, rfl, he, hk, q⟩ := h
  cases r with
  | cons r1 r =>
    cases r with
    | cons r2 r =>
      cases r
      cases r1
      obtain ⟨o, h1, h2, _⟩ := (I.hok ea _ he).1
      exact kia_one (kitx_exc (ea := ea) R FB) I.kIn ⟨o, h1, h2⟩ (hk _ r2) (by intro z; cases z) fun tk => ⟨.bl b, H, I.tok tk, rfl, q⟩
/-- isinstance(e, (c1, c2, ..)) -/
def rIsDT (K : PySem.W.Frag) (C : Addr) : List V → Hp → VK → Prop := fun xs H Q => ∃ (ea tp : Addr) (od : Option Addr) (cs : List V) (b : Bool), xs = [.ref ea, .ref tp] ∧ H ea = some (excD ea (.ref C) od) ∧ H tp = some (.tup cs) ∧ (∀ cvs, Vals cs cvs → kitAny K (.ref C) cvs = some b) ∧ Q (.bl b) H
theorem call_isdT (R : XRead X.K C) (FB : ExcAttrFacts Bn) : CallR X (.builtin "isinstance") (rIsDT X.K C) := by
  intro pins s σ H xs us Q I r h
  obtain ⟨ea, tp, od, cs, b, rfl, he, ht, hk, q⟩ := h
  cases r with
  | cons r1 r =>
    cases r with
    | cons r2 r =>
      cases r
      cases r1
      cases r2
      obtain ⟨o, h1, h2, _⟩ := (I.hok ea _ he).1
      obtain ⟨z, its, rv, ob, ho, hc, n, hd⟩ := (show ObjOk X.prog X.w H s.heap tp (.tup cs) from I.hok tp _ ht)
      obtain ⟨oc, od, odt, osl⟩ := ob
      dsimp only at hc hd
      subst hc hd
      exact kia_tup (kitx_exc (ea := ea) R FB) I.kIn ⟨o, h1, h2⟩ ho (hk _ rv) (by intro z; cases z) fun tk => ⟨.bl b, H, I.tok tk, rfl, q⟩
/-- e.at of a caught one -/
def tXat (C : Addr) (ta : TE) : TE := fun σ H Q => ta σ H fun x H1 => ∃ (ea d : Addr) (i : Int), x = .ref ea ∧ H1 ea = some (excD ea (.ref C) (some d)) ∧ H1 d = some (.xd [("at", .int i)]) ∧ Q (.int i) H1
theorem pe_xat {o : Expr} {ta : TE} {pos : Pos} (c : XIni X.K C R fI) (ha : PE X o ta) (hb : attributeBase o "at" X.env (eval o X.env) = eval o X.env := by rfl) : PE X (.Attribute o "at" pos) (tXat C ta) := by
  intro pins s σ H Q I h
  refine attr_of hb (thn (ha pins s σ H _ I h) fun u s1 ⟨x, H1, I1, r1, ea, d, i, ex, he, hd, q⟩ => ?_)
  subst ex
  obtain rfl : u = Value.ref ea := r1
  obtain ⟨ob, h1, h2, h3, h4⟩ := (I1.hok ea _ he).1
  obtain ⟨mA, ns, rl⟩ := (show ObjOk X.prog X.w H1 s1.heap d (.xd [("at", .int i)]) from I1.hok d _ hd)
  have ra := rl "at"
  rw [List.lookup_cons_self] at ra
  cases hv : mA "at" with
  | none => rw [hv] at ra; exact False.elim ra
  | some v =>
    rw [hv] at ra
    obtain ⟨tk, rfl⟩ := (show ∃ tk, v = Value.int i tk from ra)
    exact get_at c I1.kIn h1 h2 h3 h4 ns hv rfl ⟨.int i, H1, I1.tok _, ⟨_, rfl⟩, q⟩
end
end L2


set_option Elab.async false
set_option linter.all false
namespace L2
open PySem PySem.Spec PyProof.Rows
/-! ### a block cut at a place: what is true there -/
end L2


set_option Elab.async false
set_option linter.all false
namespace L2
open PySem PySem.Spec PyProof.Rows
/-! ### texts put together: told by one function of the names -/
section
variable {X : Cx}
end
end L2
namespace L2
open PySem PySem.Spec PyProof.Rows
/-! ### what they come to -/
section
variable {σ : St}
end
end L2
namespace L2
open PySem PySem.Spec PyProof.Rows
/-! ### statements with such lists: shut off (else Lean runs through the display at each look) -/
structure PSx (X : Cx) (st : Stmt) (t : TS) : Prop where
  ps : PS X st t
structure PSsx (X : Cx) (b : List Stmt) (t : TS) : Prop where
  ps : PSs X b t
section
variable {X : Cx}
theorem psx_of {st : Stmt} {t : TS} (h : PS X st t) : PSx X st t := ⟨h⟩
theorem psx_if {c : Expr} {a b : List Stmt} {tc : TT} {t u : TS} {pos : Pos} (hc : PT X c tc) (ha : PSsx X a t) (hb : PSsx X b u) : PSx X (.If c a b pos) (tIfS tc t u) := ⟨ps_if hc ha.ps hb.ps⟩
theorem pssx_nil {t : TS} (h : PSs X [] t) : PSsx X [] t := ⟨h⟩
theorem pssx_cons {st : Stmt} {b : List Stmt} {t u : TS} (h : PSx X st t) (k : PSsx X b u) : PSsx X (st :: b) (tSeq t u) := ⟨pss_cons h.ps k.ps⟩
theorem pssx_one {st : Stmt} {t : TS} (h : PSx X st t) : PSsx X [st] t := ⟨pss_one h.ps⟩
theorem wrapX {b : List Stmt} {t : TS} {R : TS → Prop} (h : PSsx X b t) (hr : R t) : ∃ t, PSs X b t ∧ R t := ⟨t, h.ps, hr⟩
end
end L2
namespace L2
open PySem PySem.Spec PyProof.Rows
/-! ### whole numbers put together, and their texts -/
section
variable {X : Cx}
end
end L2


set_option Elab.async false
set_option linter.all false
set_option maxRecDepth 100000
set_option maxHeartbeats 4000000
namespace L2
open PySem PySem.Spec PyProof.Rows
section
variable {X : Cx}
end
end L2


set_option Elab.async false
set_option linter.all false
set_option maxRecDepth 100000
set_option maxHeartbeats 4000000
namespace L2
open PySem PySem.Spec PyProof.Rows
section
variable {X : Cx}
end
end L2


set_option Elab.async false
set_option linter.all false
set_option maxRecDepth 100000
set_option maxHeartbeats 4000000
namespace L2
open PySem PySem.Spec PyProof.Rows
/-! ### things as data, of any depth; == and != of two of them -/
inductive Da where
  | non | bl (b : Bool) | int (i : Int) | str (s : Str) | tup (l : List Da) | lst (l : List Da)
mutual
def Da.beq : Da → Da → Bool
  | .non, .non => true
  | .bl a, .bl b => a == b
  | .int a, .int b => decide (a = b)
  | .str a, .str b => decide (a = b)
  | .tup a, .tup b => Da.beqs a b
  | .lst a, .lst b => Da.beqs a b
  | _, _ => false
def Da.beqs : List Da → List Da → Bool
  | [], [] => true
  | a :: r, b :: t => Da.beq a b && Da.beqs r t
  | _, _ => false
end
mutual
theorem Da.beq_iff : ∀ a b : Da, Da.beq a b = true ↔ a = b
  | .non, b => by cases b <;> simp [Da.beq]
  | .bl x, b => by cases b <;> simp [Da.beq]
  | .int x, b => by cases b <;> simp [Da.beq]
  | .str x, b => by cases b <;> simp [Da.beq]
  | .tup x, b => by
    cases b <;> simp [Da.beq]
    exact Da.beqs_iff _ _
  | .lst x, b => by
    cases b <;> simp [Da.beq]
    exact Da.beqs_iff _ _
theorem Da.beqs_iff : ∀ a b : List Da, Da.beqs a b = true ↔ a = b
  | [], b => by cases b <;> simp [Da.beqs]
  | x :: r, [] => by simp [Da.beqs]
  | x :: r, y :: t => by
    simp [Da.beqs]
    rw [Da.beq_iff x y, Da.beqs_iff r t]
end
instance : DecidableEq Da := fun a b => decidable_of_iff _ (Da.beq_iff a b)
/-- v is the thing that d tells -/
inductive DaAt (K : PySem.W.Frag) (H : Hp) : V → Da → Prop
  | non : DaAt K H .non .non
  | bl (b : Bool) : DaAt K H (.bl b) (.bl b)
  | int (i : Int) : DaAt K H (.int i) (.int i)
  | str (x : Str) : DaAt K H (.str x) (.str x)
  | tup {p : Addr} {xs : List V} {ds : List Da} : SqT K H p xs → xs.length = ds.length → (∀ (i : Nat) x d, xs[i]? = some x → ds[i]? = some d → DaAt K H x d) → DaAt K H (.ref p) (.tup ds)
  | lst {p : Addr} {xs : List V} {ds : List Da} : SqL K H p xs → xs.length = ds.length → (∀ (i : Nat) x d, xs[i]? = some x → ds[i]? = some d → DaAt K H x d) → DaAt K H (.ref p) (.lst ds)
/-- no truth within -/
inductive Da.Nb : Nat → Da → Prop
  | non {n} : Da.Nb n .non
  | int {n i} : Da.Nb n (.int i)
  | str {n i} : Da.Nb n (.str i)
  | tup {n l} : (∀ d ∈ l, Da.Nb n d) → Da.Nb (n + 1) (.tup l)
  | lst {n l} : (∀ d ∈ l, Da.Nb n d) → Da.Nb (n + 1) (.lst l)
theorem beqs_range : ∀ (a b : List Da), a.length = b.length → ((List.range a.length).all fun i => decide (a[i]? = b[i]?)) = decide (a = b) := fun a b h => by
  by_cases e : a = b
  · subst e
    simp
  · rw [decide_eq_false e]
    rw [Bool.eq_false_iff]
    intro z
    apply e
    apply List.ext_getElem? 
    intro i
    by_cases hi : i < a.length
    · have := (List.all_eq_true.mp z) i (List.mem_range.mpr hi)
      exact of_decide_eq_true this
    · rw [List.getElem?_eq_none (by omega), List.getElem?_eq_none (by omega)]
section
variable {X : Cx} {pins : List (Addr × Obj)} {σ : St} {H : Hp} {s : Shared}
theorem arr_at {its : List Value} {xs : List V} (r : Vals xs its) {j : Nat} (h : j < its.toArray.size) : ∃ x, xs[j]? = some x ∧ RelV x its.toArray[j] := by
  have l := r.length
  have j1 : j < xs.length := by simp at h; omega
  have z1 : xs[j]? = some xs[j] := List.getElem?_eq_getElem j1
  obtain ⟨u1, w1, q1⟩ := r.get z1
  have e1 : its.toArray[j] = u1 := by
    have : its[j]? = some its[j] := List.getElem?_eq_getElem (by omega)
    rw [this] at w1
    simpa using w1
  exact ⟨_, z1, by rw [e1]; exact q1⟩
theorem not_both {p : Addr} {i1 i2 : Array Value} (t1 : s.heap.IsTuple p i1) (t2 : s.heap.IsList p i2) : False := by
  obtain ⟨o, e, c1, n, d⟩ := t1
  obtain ⟨o', e', c2, n', d'⟩ := t2
  rw [e] at e'; cases e'
  rw [c1] at c2
  exact absurd c2 (by decide)
theorem da_one (I : Inv X pins σ H s) {x : V} {a b : Da} (ha : DaAt X.K H x a) (hb : DaAt X.K H x b) : a = b := by
  induction ha generalizing b with
  | non => cases hb; rfl
  | bl _ => cases hb; rfl
  | int _ => cases hb; rfl
  | str _ => cases hb; rfl
  | @tup p xs ds hp hl hd ih =>
    cases hb with
    | @tup q ys es hq hl2 hd2 =>
      have exy : xs = ys := I.tuple_inj hp hq
      subst exy
      refine congrArg Da.tup ?_
      apply List.ext_getElem (by omega)
      intro j h1 h2
      have g0 : xs[j]? = some xs[j] := List.getElem?_eq_getElem (by omega)
      have g1 : ds[j]? = some ds[j] := List.getElem?_eq_getElem h1
      have g2 : es[j]? = some es[j] := List.getElem?_eq_getElem h2
      exact ih j _ _ g0 g1 (hd2 j _ _ g0 g2)
    | @lst q ys es hq hl2 hd2 =>
      obtain ⟨i1, r1, t1, _⟩ := I.tuple hp
      obtain ⟨i2, r2, t2, _⟩ := I.list hq
      exact (not_both t1 t2.isList).elim
  | @lst p xs ds hp hl hd ih =>
    cases hb with
    | @lst q ys es hq hl2 hd2 =>
      have exy : xs = ys := I.list_inj hp hq
      subst exy
      refine congrArg Da.lst ?_
      apply List.ext_getElem (by omega)
      intro j h1 h2
      have g0 : xs[j]? = some xs[j] := List.getElem?_eq_getElem (by omega)
      have g1 : ds[j]? = some ds[j] := List.getElem?_eq_getElem h1
      have g2 : es[j]? = some es[j] := List.getElem?_eq_getElem h2
      exact ih j _ _ g0 g1 (hd2 j _ _ g0 g2)
    | @tup q ys es hq hl2 hd2 =>
      obtain ⟨i1, r1, t1, _⟩ := I.tuple hq
      obtain ⟨i2, r2, t2, _⟩ := I.list hp
      exact (not_both t1 t2.isList).elim
/-- two rows of things, side by side -/
theorem rows_at {A : Around} {m : Nat} {xs ys : List V} {ds es : List Da} {i1 i2 : List Value} (r1 : Vals xs i1) (r2 : Vals ys i2) (hl : xs.length = ds.length) (hl2 : ys.length = es.length)
    (ih : ∀ (j : Nat) x d y e u v, xs[j]? = some x → ds[j]? = some d → ys[j]? = some y → es[j]? = some e → RelV x u → RelV y v → SeqAt.EqAt A s u v (decide (d = e)))
    (j : Nat) (h1 : j < i1.toArray.size) (h2 : j < i2.toArray.size) : SeqAt.EqAt A s i1.toArray[j] i2.toArray[j] (decide (ds[j]? = es[j]?)) := by
  obtain ⟨x1, z1, q1⟩ := arr_at r1 h1
  obtain ⟨x2, z2, q2⟩ := arr_at r2 h2
  have k1 := (List.getElem?_eq_some_iff.mp z1).1
  have k2 := (List.getElem?_eq_some_iff.mp z2).1
  have g1 : ds[j]? = some (ds[j]'(by omega)) := List.getElem?_eq_getElem (by omega)
  have g2 : es[j]? = some (es[j]'(by omega)) := List.getElem?_eq_getElem (by omega)
  have r := ih j x1 _ x2 _ _ _ z1 g1 z2 g2 q1 q2
  have e : decide (ds[j]? = es[j]?) = decide (ds[j]'(by omega) = es[j]'(by omega)) := by rw [g1, g2]; simp
  rw [e]
  exact r
theorem tup_b {xs ys : List V} {ds es : List Da} {i1 i2 : List Value} (r1 : Vals xs i1) (r2 : Vals ys i2) (hl : xs.length = ds.length) (hl2 : ys.length = es.length) :
    ((List.range (min i1.toArray.size i2.toArray.size)).all (fun j => decide (ds[j]? = es[j]?)) && i1.toArray.size == i2.toArray.size) = decide (ds = es) := by
  have l1 := r1.length
  have l2 := r2.length
  by_cases z : ds.length = es.length
  · have y := beqs_range ds es z
    have s1 : i1.toArray.size = ds.length := by simp; omega
    have s2 : i2.toArray.size = ds.length := by simp; omega
    rw [s1, s2, Nat.min_self, y]
    simp
  · rw [decide_eq_false (fun y => z (by rw [y]))]
    have : (i1.toArray.size == i2.toArray.size) = false := by simp; omega
    rw [this, Bool.and_false]
theorem lst_b {xs ys : List V} {ds es : List Da} {i1 i2 : List Value} (r1 : Vals xs i1) (r2 : Vals ys i2) (hl : xs.length = ds.length) (hl2 : ys.length = es.length) (z : ds.length = es.length) :
    ((List.range i1.toArray.size).all (fun j => decide (ds[j]? = es[j]?))) = decide (ds = es) := by
  have l1 := r1.length
  have s1 : i1.toArray.size = ds.length := by simp; omega
  rw [s1, beqs_range ds es z]
theorem dec_tup (ds es : List Da) : decide (Da.tup ds = Da.tup es) = decide (ds = es) := decide_eq_decide.mpr ⟨Da.tup.inj, congrArg _⟩
theorem dec_lst (ds es : List Da) : decide (Da.lst ds = Da.lst es) = decide (ds = es) := decide_eq_decide.mpr ⟨Da.lst.inj, congrArg _⟩
theorem da_at {A : Around} {n : Nat} (hu : A.units + n < cLine) (I : Inv X pins σ H s) {x y : V} {a b : Da} (ha : DaAt X.K H x a) (hb : DaAt X.K H y b) (na : a.Nb n) (nb : b.Nb n) {u v : Value} (ru : RelV x u) (rv : RelV y v) : SeqAt.EqAt A s u v (decide (a = b)) := by
  induction ha generalizing A n y b u v with
  | non =>
    obtain rfl : u = Value.none := ru
    cases hb with
    | non => obtain rfl : v = Value.none := rv; exact SeqAt.EqAt.same _
    | bl _ => cases nb
    | int j => obtain ⟨t, rfl⟩ := rv; exact SeqAt.EqAt.none_int _ _
    | str j => obtain ⟨t, rfl⟩ := rv; exact SeqAt.EqAt.none_str _ _
    | tup hq => cases rv; obtain ⟨its, r1, p1, _⟩ := I.tuple hq; exact SeqAt.EqAt.none_tuple p1 (by omega)
    | lst hq => cases rv; obtain ⟨its, r1, p1, _⟩ := I.list hq; exact SeqAt.EqAt.none_list p1.isList (by omega)
  | bl _ => cases na
  | int i =>
    obtain ⟨t0, rfl⟩ := ru
    cases hb with
    | non => obtain rfl : v = Value.none := rv; exact SeqAt.EqAt.int_none _ _
    | bl _ => cases nb
    | int j =>
      obtain ⟨t, rfl⟩ := rv
      have := SeqAt.EqAt.int_int (A := A) (s := s) i t0 j t
      have e : (i == j) = decide (Da.int i = Da.int j) := by
        by_cases z : i = j
        · subst z; simp
        · rw [decide_eq_false (fun y => z (Da.int.inj y))]; simp [z]
      rwa [e] at this
    | str j => obtain ⟨t, rfl⟩ := rv; exact SeqAt.EqAt.int_str _ _ _ _
    | tup hq => cases rv; obtain ⟨its, r1, p1, _⟩ := I.tuple hq; exact SeqAt.EqAt.int_tuple _ _ p1 (by omega)
    | lst hq => cases rv; obtain ⟨its, r1, p1, _⟩ := I.list hq; exact SeqAt.EqAt.int_list _ _ p1.isList (by omega)
  | str i =>
    obtain ⟨t0, rfl⟩ := ru
    cases hb with
    | non => obtain rfl : v = Value.none := rv; exact SeqAt.EqAt.str_none _ _
    | bl _ => cases nb
    | int j => obtain ⟨t, rfl⟩ := rv; exact SeqAt.EqAt.str_int _ _ _ _
    | str j =>
      obtain ⟨t, rfl⟩ := rv
      have := SeqAt.EqAt.str_str (A := A) (s := s) i t0 j t
      have e : (i == j) = decide (Da.str i = Da.str j) := by
        by_cases z : i = j
        · subst z; simp
        · rw [decide_eq_false (fun y => z (Da.str.inj y))]; simp [z]
      rwa [e] at this
    | tup hq => cases rv; obtain ⟨its, r1, p1, _⟩ := I.tuple hq; exact SeqAt.EqAt.str_tuple _ _ p1 (by omega)
    | lst hq => cases rv; obtain ⟨its, r1, p1, _⟩ := I.list hq; exact SeqAt.EqAt.str_list _ _ p1.isList (by omega)
  | @tup p xs ds hp hl hd ih =>
    cases ru
    obtain ⟨i1, r1, t1, _⟩ := I.tuple hp
    cases hb with
    | non => obtain rfl : v = Value.none := rv; exact SeqAt.EqAt.tuple_none t1 (by omega)
    | bl _ => cases nb
    | int j => obtain ⟨t, rfl⟩ := rv; exact SeqAt.EqAt.tuple_int _ _ t1 (by omega)
    | str j => obtain ⟨t, rfl⟩ := rv; exact SeqAt.EqAt.tuple_str _ _ t1 (by omega)
    | @tup q ys es hq hl2 hd2 =>
      cases rv
      by_cases c : p = q
      · subst c
        have := da_one I (DaAt.tup hp hl hd) (DaAt.tup hq hl2 hd2)
        rw [decide_eq_true this]
        exact SeqAt.EqAt.same _
      cases na with
      | @tup m l na =>
      cases nb with
      | @tup m l nb =>
      obtain ⟨i2, r2, t2, _⟩ := I.tuple hq
      have key := SeqAt.RcAt.tuples (A := A) (s := s) (e := fun j => decide (ds[j]? = es[j]?)) t1 t2 (by omega) (rows_at (m := m) r1 r2 hl hl2 fun j x d y e u v h1 h2 h3 h4 ru rv =>
        ih j x d h1 h2 (A := A.in1) (n := m) (by show A.units + 1 + m < cLine; omega) (hd2 j y e h3 h4) (na _ (List.mem_of_getElem? h2)) (nb _ (List.mem_of_getElem? h4)) ru rv)
      rw [tup_b r1 r2 hl hl2] at key
      rw [dec_tup]
      exact SeqAt.EqAt.of_refs c key
    | @lst q ys es hq hl2 hd2 =>
      cases rv
      obtain ⟨i2, r2, t2, _⟩ := I.list hq
      by_cases c : p = q
      · subst c
        exact (not_both t1 t2.isList).elim
      · exact SeqAt.EqAt.of_refs c (SeqAt.RcAt.tuple_list t1 t2.isList (by omega))
  | @lst p xs ds hp hl hd ih =>
    cases ru
    obtain ⟨i1, r1, t1, _⟩ := I.list hp
    cases hb with
    | non => obtain rfl : v = Value.none := rv; exact SeqAt.EqAt.list_none t1.isList (by omega)
    | bl _ => cases nb
    | int j => obtain ⟨t, rfl⟩ := rv; exact SeqAt.EqAt.list_int _ _ t1.isList (by omega)
    | str j => obtain ⟨t, rfl⟩ := rv; exact SeqAt.EqAt.list_str _ _ t1.isList (by omega)
    | @lst q ys es hq hl2 hd2 =>
      cases rv
      by_cases c : p = q
      · subst c
        have := da_one I (DaAt.lst hp hl hd) (DaAt.lst hq hl2 hd2)
        rw [decide_eq_true this]
        exact SeqAt.EqAt.same _
      cases na with
      | @lst m l na =>
      cases nb with
      | @lst m l nb =>
      obtain ⟨i2, r2, t2, _⟩ := I.list hq
      have l1 := r1.length
      have l2 := r2.length
      rw [dec_lst]
      by_cases z : ds.length = es.length
      · have key := SeqAt.RcAt.lists (A := A) (s := s) (e := fun j => decide (ds[j]? = es[j]?)) t1.isList t2.isList (by simp; omega) (by omega) (rows_at (m := m) r1 r2 hl hl2 fun j x d y e u v h1 h2 h3 h4 ru rv =>
          ih j x d h1 h2 (A := A.in1) (n := m) (by show A.units + 1 + m < cLine; omega) (hd2 j y e h3 h4) (na _ (List.mem_of_getElem? h2)) (nb _ (List.mem_of_getElem? h4)) ru rv)
        rw [lst_b r1 r2 hl hl2 z] at key
        exact SeqAt.EqAt.of_refs c key
      · rw [decide_eq_false (fun y => z (by rw [y]))]
        exact SeqAt.EqAt.of_refs c (SeqAt.RcAt.lists_lengths t1.isList t2.isList (by simp; omega) (by omega))
    | @tup q ys es hq hl2 hd2 =>
      cases rv
      obtain ⟨i2, r2, t2, _⟩ := I.tuple hq
      by_cases c : p = q
      · subst c
        exact (not_both t2 t1.isList).elim
      · exact SeqAt.EqAt.of_refs c (SeqAt.RcAt.list_tuple t1.isList t2 (by omega))
end
/-- a list or a tuple and another -/
def rEqA (K : PySem.W.Frag) (ne : Bool) : R2 := fun x y H Q => ∃ (n : Nat) (p q : Addr) (a b : Da), x = .ref p ∧ y = .ref q ∧ DaAt K H x a ∧ DaAt K H y b ∧ a.Nb n ∧ b.Nb n ∧ n ≤ 6 ∧ Q (.bl (ne ^^ decide (a = b))) H
section
variable {X : Cx}
theorem op_eqA (hu : X.A.units + 6 < cLine) : OpR X (compareOp .Eq) (rEqA X.K false) := by
  intro pins s σ H x y v u Q I rx ry h
  obtain ⟨n, p, q, a, b, rfl, rfl, ha, hb, na, nb, hn, k⟩ := h
  cases rx
  cases ry
  rw [Bool.false_xor] at k
  cases ha with
  | @tup p xs ds hp hl hd =>
    obtain ⟨i1, r1, t1, _⟩ := I.tuple hp
    cases hb with
    | @tup q ys es hq hl2 hd2 =>
      cases na with
      | @tup m l na =>
      cases nb with
      | @tup m l nb =>
      obtain ⟨i2, r2, t2, _⟩ := I.tuple hq
      have key := SeqAt.RcAt.tuples (A := X.A) (s := s) (e := fun j => decide (ds[j]? = es[j]?)) t1 t2 (by omega) (rows_at (m := m) r1 r2 hl hl2 fun j x d y e u v h1 h2 h3 h4 ru rv =>
        da_at (A := X.A.in1) (n := m) (by show X.A.units + 1 + m < cLine; omega) I (hd j x d h1 h2) (hd2 j y e h3 h4) (na _ (List.mem_of_getElem? h2)) (nb _ (List.mem_of_getElem? h4)) ru rv)
      rw [tup_b r1 r2 hl hl2] at key
      rw [dec_tup] at k
      exact key _ _ _ _ ⟨.bl _, H, I, rfl, k⟩
    | @lst q ys es hq hl2 hd2 =>
      obtain ⟨i2, r2, t2, _⟩ := I.list hq
      exact (SeqAt.RcAt.tuple_list (A := X.A) t1 t2.isList (by omega)) _ _ _ _ ⟨.bl _, H, I, rfl, k⟩
  | @lst p xs ds hp hl hd =>
    obtain ⟨i1, r1, t1, _⟩ := I.list hp
    cases hb with
    | @lst q ys es hq hl2 hd2 =>
      cases na with
      | @lst m l na =>
      cases nb with
      | @lst m l nb =>
      obtain ⟨i2, r2, t2, _⟩ := I.list hq
      have l1 := r1.length
      have l2 := r2.length
      rw [dec_lst] at k
      by_cases z : ds.length = es.length
      · have key := SeqAt.RcAt.lists (A := X.A) (s := s) (e := fun j => decide (ds[j]? = es[j]?)) t1.isList t2.isList (by simp; omega) (by omega) (rows_at (m := m) r1 r2 hl hl2 fun j x d y e u v h1 h2 h3 h4 ru rv =>
          da_at (A := X.A.in1) (n := m) (by show X.A.units + 1 + m < cLine; omega) I (hd j x d h1 h2) (hd2 j y e h3 h4) (na _ (List.mem_of_getElem? h2)) (nb _ (List.mem_of_getElem? h4)) ru rv)
        rw [lst_b r1 r2 hl hl2 z] at key
        exact key _ _ _ _ ⟨.bl _, H, I, rfl, k⟩
      · rw [decide_eq_false (fun y => z (by rw [y]))] at k
        exact (SeqAt.RcAt.lists_lengths (A := X.A) t1.isList t2.isList (by simp; omega) (by omega)) _ _ _ _ ⟨.bl _, H, I, rfl, k⟩
    | @tup q ys es hq hl2 hd2 =>
      obtain ⟨i2, r2, t2, _⟩ := I.tuple hq
      exact (SeqAt.RcAt.list_tuple (A := X.A) t1.isList t2 (by omega)) _ _ _ _ ⟨.bl _, H, I, rfl, k⟩
theorem op_neA (hu : X.A.units + 6 < cLine) : OpR X (compareOp .NotEq) (rEqA X.K true) := by
  intro pins s σ H x y v u Q I rx ry h
  obtain ⟨n, p, q, a, b, rfl, rfl, ha, hb, na, nb, hn, k⟩ := h
  cases rx
  cases ry
  rw [Bool.true_xor] at k
  cases ha with
  | @tup p xs ds hp hl hd =>
    obtain ⟨i1, r1, t1, _⟩ := I.tuple hp
    cases hb with
    | @tup q ys es hq hl2 hd2 =>
      cases na with
      | @tup m l na =>
      cases nb with
      | @tup m l nb =>
      obtain ⟨i2, r2, t2, _⟩ := I.tuple hq
      have key := SeqAt.RcNeAt.tuples (A := X.A) (s := s) (e := fun j => decide (ds[j]? = es[j]?)) t1 t2 (by omega) (rows_at (m := m) r1 r2 hl hl2 fun j x d y e u v h1 h2 h3 h4 ru rv =>
        da_at (A := X.A.in1) (n := m) (by show X.A.units + 1 + m < cLine; omega) I (hd j x d h1 h2) (hd2 j y e h3 h4) (na _ (List.mem_of_getElem? h2)) (nb _ (List.mem_of_getElem? h4)) ru rv)
      rw [tup_b r1 r2 hl hl2] at key
      rw [dec_tup] at k
      exact key _ _ _ _ ⟨.bl _, H, I, rfl, k⟩
    | @lst q ys es hq hl2 hd2 =>
      obtain ⟨i2, r2, t2, _⟩ := I.list hq
      exact (SeqAt.RcNeAt.tuple_list (A := X.A) t1 t2.isList (by omega)) _ _ _ _ ⟨.bl _, H, I, rfl, k⟩
  | @lst p xs ds hp hl hd =>
    obtain ⟨i1, r1, t1, _⟩ := I.list hp
    cases hb with
    | @lst q ys es hq hl2 hd2 =>
      cases na with
      | @lst m l na =>
      cases nb with
      | @lst m l nb =>
      obtain ⟨i2, r2, t2, _⟩ := I.list hq
      have l1 := r1.length
      have l2 := r2.length
      rw [dec_lst] at k
      by_cases z : ds.length = es.length
      · have key := SeqAt.RcNeAt.lists (A := X.A) (s := s) (e := fun j => decide (ds[j]? = es[j]?)) t1.isList t2.isList (by simp; omega) (by omega) (rows_at (m := m) r1 r2 hl hl2 fun j x d y e u v h1 h2 h3 h4 ru rv =>
          da_at (A := X.A.in1) (n := m) (by show X.A.units + 1 + m < cLine; omega) I (hd j x d h1 h2) (hd2 j y e h3 h4) (na _ (List.mem_of_getElem? h2)) (nb _ (List.mem_of_getElem? h4)) ru rv)
        rw [lst_b r1 r2 hl hl2 z] at key
        exact key _ _ _ _ ⟨.bl _, H, I, rfl, k⟩
      · rw [decide_eq_false (fun y => z (by rw [y]))] at k
        exact (SeqAt.RcNeAt.lists_lengths (A := X.A) t1.isList t2.isList (by simp; omega) (by omega)) _ _ _ _ ⟨.bl _, H, I, rfl, k⟩
    | @tup q ys es hq hl2 hd2 =>
      obtain ⟨i2, r2, t2, _⟩ := I.tuple hq
      exact (SeqAt.RcNeAt.list_tuple (A := X.A) t1.isList t2 (by omega)) _ _ _ _ ⟨.bl _, H, I, rfl, k⟩
end
end L2


set_option Elab.async false
set_option linter.all false
set_option maxRecDepth 100000
set_option maxHeartbeats 4000000
namespace L2
open PySem PySem.Spec PyProof.Rows
section
variable {X : Cx}
/-! ### sorted(list of ints), list.remove(int) -/
end
end L2


set_option Elab.async false
set_option linter.all false
set_option maxRecDepth 100000
set_option maxHeartbeats 4000000
namespace L2
open PySem PySem.W PySem.Spec PySem.Calls PyProof.Rows
/-! ### a try whose one statement has the call of f within: x = f(..), x = g(f(..)), return f(..) -/
section
variable {X : Cx}
def PEr (X : Cx) (e : Expr) (f : Addr) (t : TA) (c : V → TE) : Prop := ∀ (XE : Value → Shared → Prop) (pins : List (Addr × Obj)) (s : Shared) (σ : St) (H : Hp) (Q : VK) (W : List V → Hp → Prop), Inv X pins σ H s → t σ H W →
  (∀ vs H1 s1 us, W vs H1 → Inv X pins σ H1 s1 → Vals vs us → wpAny (model X.prog X.w) X.A (call (.ref f) us) (EP X pins σ fun v H2 => c v σ H2 Q) XE s1) → wpAny (model X.prog X.w) X.A (eval e X.env) (EP X pins σ Q) XE s
def PSr (X : Cx) (st : Stmt) (f : Addr) (t : TA) (r : V → TS) : Prop := ∀ (XE : Value → Shared → Prop) (pins : List (Addr × Obj)) (s : Shared) (σ : St) (H : Hp) (D : Ends) (W : List V → Hp → Prop), Inv X pins σ H s → t σ H W →
  (∀ vs H1 s1 us, W vs H1 → Inv X pins σ H1 s1 → Vals vs us → wpAny (model X.prog X.w) X.A (call (.ref f) us) (EP X pins σ fun v H2 => r v D σ H2) XE s1) → wpAny (model X.prog X.w) X.A (exec st X.env) (SP X pins D) XE s
def cId : V → TE := fun v _ H Q => Q v H
theorem per_call {g : Str} {gp pos : Pos} {a : Expr} {as : List Expr} {t : TA} {f : Addr} (ha : PA X.nox (a :: as) t) (hgg : Gl X g) (hm : X.mg g = some (.ref f)) (kp : keepIn X.K (.ref f) = true) (hdg : (g == ("__debug__" : Str)) = false := by decide)
    (he : starEach (a :: as) X.env = (false, eval a X.env) :: starEach as X.env := by rfl) (hpl : (backTo pos (starEach as X.env)).any (·.1) = false := by rfl) : PEr X (.Call (.Name g gp) (a :: as) [] pos) f t cId := by
  intro XE pins s σ H Q W I h hW
  refine wpAny_Call_Name_kw (ld_glob I hgg hm (callWith_K (h₀ := X.base) I.ok.mod.kin kp (wpAny_mono (ha pos pins s σ H _ (I.wish _) h) (fun us s1 hu => ?_) fun _ _ z => False.elim z) he hpl) hdg)
  obtain ⟨vs, H1, I1', r, q⟩ := hu
  have I1 : Inv X pins σ H1 s1 := I1'.unwish
  exact ⟨I1.kIn, hW vs H1 s1 us q I1 r⟩
theorem psr_ret {e : Expr} {f : Addr} {t : TA} {c : V → TE} {pos : Pos} (he : PEr X e f t c) : PSr X (.Return (some e) pos) f t (fun v D σ H => c v σ H fun y H1 => D.rt y H1) := by
  intro XE pins s σ H D W I h hW
  refine wpAny_Return_some (wpAny_mono (he XE pins s σ H (fun y H1 => D.rt y H1) W I h hW) (fun v s1 hv => ?_) fun _ _ z => z)
  obtain ⟨y, H1, I1, r1, q1⟩ := hv
  exact ⟨y, σ, H1, I1, r1, q1⟩
end
def tTryG (K : PySem.W.Frag) (sp : Sp) (dvs : List V) (t : TA) (r : V → TS) (i : Nat) (cR : Value) (ts : TS) : TS := fun D σ H => t σ H fun vs H1 =>
  sp (vs ++ dvs) H1 (fun v H2 => r v D σ H2) fun cls od H2 => exmOne K cls cR = some true ∧ ∀ ea, H2 ea = none → ts (D.less i) (σ.set i (some (.ref ea))) (upd H2 ea (excD ea cls od))
section
variable {X : Cx} {k : Nat} {f cR : Addr} {fd : FuncData} {ps : List Str} {sp : Sp} {dvs : List V} {ds : List Value} {x n : Str} {np p3 p4 : Pos} {t : TA} {ts : TS} {i : Nat} {st b₀ : Stmt} {suite : List Stmt} {L : Addr} {r : V → TS}
theorem ps_tryG (hst0 : PSr X st f t r) (F : FnOk X.prog X.w X.K X.mg X.base (CX2 X.prog X.w) k f fd ps sp) (hr : Room k X.A) (hb : Binds X.K fd ps ds) (hd : Vals dvs ds)
    (hst : X.stack = X.env :: X.outer) (hL : X.env.frame = some L) (hLl : X.env.locals = L) (hex : X.ex = []) (hg : Gl X x) (hmg : X.mg x = some (.ref cR)) (hN : X.N.Nodup) (hi : X.N[i]? = some n) (hn : X.env.kindOf n = some .local)
    (hs : ∀ ea, PSs (X.inSuite ea) (b₀ :: suite) ts) (hdb : (x == ("__debug__" : Str)) = false := by decide) :
    PS X (.Try [st] [.ExceptHandler (some (.Name x np)) (some n) (b₀ :: suite) p3] [] [] p4) (tTryG X.K sp dvs t r i (.ref cR) ts) := by
  intro pins s σ H D I h
  refine wpAny_Try_except (wpAny_execs_cons (wpAny_mono (hst0 _ pins s σ H D _ I h fun vs H1 s1 us q I1 r => ?_) (fun fl s1 q => ?_) fun _ _ z => z))
  · refine run_fnD F hr hb hd I1 r q fun e s' cx => ?_
    refine caughtD I1 hst hL cx fun ex cls a0 od H' B s2 ee hE dc I2 fly hH hB again => ?_
    subst ee
    obtain ⟨hcls, hsuite⟩ := hE
    obtain ⟨oe, vs, T, oT, tss, g1, g2, g3, g4, g5, g6, g7, g8, g9⟩ := fly.2.2.2
    have nfr : ex ∉ frs X.stack := fun z => by
      obtain ⟨_, o2, e2, nf⟩ := fly.2.2.1.mem z
      rw [g1] at e2
      cases e2
      exact nf _ g3
    have apart : ∀ {b o}, s1.heap.get? b = some o → b ≠ ex := fun {b o} hb z => by
      subst z
      obtain ⟨o', h'⟩ := hB b o hb nfr
      rw [fly.2.1] at h'
      cases h'
    have hnone : H' ex = none := by
      cases e : H' ex with
      | none => rfl
      | some o' =>
        obtain ⟨o2, h2⟩ := hH ex o' e
        rw [fly.2.1] at h2
        cases h2
    have IS := I2.suite ex
    refine wpAny_handleBy_cons (codeAny_handlers_test (ld_glob IS hg hmg ?_ hdb)) (by intro z; cases z)
    have LT : Looks (model X.prog X.w) s2.heap (typeOf (.ref ex)) cls := by
      have this : Looks (model X.prog X.w) s2.heap (typeOf (.ref ex)) oe.cls := (Looks.ld g1).andThen .now
      rw [g2.1] at this
      exact this
    refine (exm_one I2.kIn LT hcls).here ?_
    refine codeAny_handlers_suite_as (againD fly dc fun h6 fly6 up6 dc6 => ?_)
    have I6 := again h6 fly6 up6
    obtain ⟨oe6, vs6, T6, oT6, ts6, k1, k2, k3, _⟩ := fly6.2.2.2
    obtain ⟨oe7, k4, k5⟩ := dc6
    cases k1.symm.trans k4
    have I7 := I6.trackD (cls := cls) (od := od) hnone (by
      cases e : X.s₀.heap.get? ex with
      | none => rfl
      | some o' =>
        obtain ⟨o2, h2⟩ := I1.base.there ex o' e (by rw [hex]; simp)
        exact absurd rfl (apart h2)) (fun z => nfr (by
          rw [hst, z, hLl]
          unfold frs
          rw [List.filterMap_cons, hL]
          simp)) (fun y c e => by
        obtain ⟨v, oc, hc, _⟩ := I1.cell y c e
        exact apart hc) (fun p hp => apart (I1.pin p hp).1) ⟨oe6, k1, k2.1, by unfold notCls; rw [k3], k5⟩
    refine store_ok I7 hN hi (.inl hn) (v := .ref ex) (u := .ref ex) rfl (fun s8 I8 => ?_) (.inr hn)
    refine wpAny_mono (hs ex pins s8 _ _ _ (I8.suite ex) (hsuite ex hnone)) (fun fl s9 q9 => ?_) fun _ _ z => False.elim z
    show wpAny _ _ _ _ _ _
    cases fl with
    | next =>
      obtain ⟨σ9, H9, I9, q⟩ := q9
      exact forget_ok (I9.unsuite I.ok) hN hi hn fun s10 I10 => ⟨_, H9, I10, q⟩
    | brk =>
      obtain ⟨σ9, H9, I9, q⟩ := q9
      exact forget_ok (I9.unsuite I.ok) hN hi hn fun s10 I10 => ⟨_, H9, I10, q⟩
    | cont =>
      obtain ⟨σ9, H9, I9, q⟩ := q9
      exact forget_ok (I9.unsuite I.ok) hN hi hn fun s10 I10 => ⟨_, H9, I10, q⟩
    | ret u =>
      obtain ⟨v, σ9, H9, I9, r, q⟩ := q9
      exact forget_ok (I9.unsuite I.ok) hN hi hn fun s10 I10 => ⟨v, _, H9, I10, r, q⟩
  · cases fl with
    | next => exact wpAny_execs_nil (wpAny_execs_nil q)
    | brk => exact q
    | cont => exact q
    | ret u => exact q
end
end L2


set_option Elab.async false
set_option linter.all false
set_option maxRecDepth 100000
set_option maxHeartbeats 4000000
namespace L2
open PySem PySem.Spec PyProof.Rows
/-! ### t + u, either may be empty; the outcome told in one way -/
end L2


set_option Elab.async false
set_option linter.all false
set_option maxRecDepth 100000
set_option maxHeartbeats 4000000
namespace L2
open PySem PySem.W PySem.Spec PySem.Calls PyProof.Rows
/-! ### None, or a text, asked of a dict of the top that is keyed by texts -/
/-- a dict of the top, keyed by texts -/
def KLit (K : PySem.W.Frag) (P : Params) (a : Addr) : Prop := ∃ (es : Array DictEntry) (n : Nat), K.lookup a = some ⟨.type "dict", none, .dict es n, #[]⟩ ∧ PySem.W.KeysLit P es.toList ∧ (a == sysModules) = false
section
variable {X : Cx} {o i : Expr} {pos : Pos} {td ty : TE}
end
end L2


set_option Elab.async false
set_option linter.all false
set_option maxRecDepth 100000
namespace L2
open PySem PySem.W PySem.Spec PySem.Calls PyProof.Rows
/-! ### k not in a dict of the top -/
section
variable {X : Cx} {o i : Expr} {pos : Pos} {td ty : TE}
end
end L2


set_option Elab.async false
set_option linter.all false
set_option maxRecDepth 100000
set_option maxHeartbeats 4000000
namespace L2
open PySem PySem.Spec PyProof.Rows
section
variable {X : Cx}
/-! ### list.insert -/
end
end L2


set_option Elab.async false
set_option linter.all false
set_option maxRecDepth 100000
set_option maxHeartbeats 4000000
namespace L2
open PySem PySem.W PySem.Spec PySem.Calls PyProof.Rows
/-- a callee's exception goes on through the body of the caller, which leaves it to its own caller -/
theorem pass22 {P : Program} {w : World} {K : PySem.W.Frag} {mg : Str → Option Value} {base : Heap} {N : List Str} {qual : Str} {scope : Scope} {f : Addr} {cd : Value} {A : Around} {outer : List Env} {s₀ : Shared} {H₀ : Hp} {E : XK} :
    Passes (CX2 P w) (cxOf (CX2 P w) P w K mg base N qual scope f cd A outer s₀ H₀ E) E := by
  intro pins σ H s e s' I cx
  obtain ⟨ea, cls, a0, od, H', B, rfl, fly, dc, hB, hH, os, bare, un, hok, hE⟩ := cx
  obtain ⟨T, be, bT, fly2⟩ := fly_less fly
  have apart : ∀ {b o}, B.get? b = some o → b ∉ frs ((envOfC qual scope s₀.heap.objs.size f cd) :: outer) → b ∉ frs ((envOfC qual scope s₀.heap.objs.size f cd) :: outer) ++ [ea, T] := fun {b o} hb nf hx => by
    rcases List.mem_append.mp hx with h | h
    · exact nf h
    · rcases (show b = ea ∨ b = T by simpa using h) with rfl | rfl
      · rw [be] at hb; cases hb
      · rw [bT] at hb; cases hb
  have fr' : ∀ b ∈ frs ((envOfC qual scope s₀.heap.objs.size f cd) :: outer), H' b = none := fun b hb => by
    obtain ⟨_, o, ho, _⟩ := I.stack.mem hb
    exact un.free b o ho (I.stkFree b hb) (by simp)
  have kH : ∀ {b o}, H' b = some o → b ∉ frs ((envOfC qual scope s₀.heap.objs.size f cd) :: outer) ++ [ea, T] := fun {b o} hb => by
    obtain ⟨o', h1⟩ := hH b o hb
    exact apart h1 fun z => by rw [fr' b z] at hb; cases hb
  have stk : ∀ {b o}, s₀.heap.get? b = some o → b ∉ frs outer → b ∉ frs ((envOfC qual scope s₀.heap.objs.size f cd) :: outer) := fun {b o} hb nf hx => by
    rcases List.mem_cons.mp (I.stkSub b hx) with e | e
    · have h1 := Heap.lt_size hb
      have h2 : s₀.heap.objs.size ≤ (envOfC qual scope s₀.heap.objs.size f cd).locals := I.ok.above
      have e : b = (envOfC qual scope s₀.heap.objs.size f cd).locals := e
      rw [e] at h1
      exact absurd h1 (Nat.not_lt.mpr h2)
    · exact nf e
  refine leavesOnD (B := less s'.heap (frs ((envOfC qual scope s₀.heap.objs.size f cd) :: outer) ++ [ea, T])) (L := (envOfC qual scope s₀.heap.objs.size f cd).locals) I.ok.frames rfl fly2 dc fun h5 fly5 up dc5 => ?_
  have stay : ∀ {b u}, b ∉ frs ((envOfC qual scope s₀.heap.objs.size f cd) :: outer) ++ [ea, T] → s'.heap.get? b = some u → h5.get? b = some u := fun {b u} hb hu => fly5.1 b u (by rw [less_out hb]; exact hu)
  have up1 : ∀ b o, s'.heap.get? b = some o → b ∈ frs ((envOfC qual scope s₀.heap.objs.size f cd) :: outer) → ∃ sl, h5.get? b = some { o with slots := sl } := fun b o ho hb => by
    obtain ⟨_, o2, e2, nf⟩ := fly.2.2.1.mem hb
    rw [ho] at e2
    cases e2
    exact up b o ho nf
  have un5 : Un (frs ((envOfC qual scope s₀.heap.objs.size f cd) :: outer)) [] H H' s.heap h5 := by
    refine ⟨fun b o e n nf nx => ?_, fun b o e n hb nx => ?_, un.free, fun b o e nx => ?_, un.tups, un.frzs, un.tbls⟩
    · obtain ⟨o', hb⟩ := hB b o e nf
      exact stay (apart hb nf) (un.keep b o e n nf nx)
    · obtain ⟨sl, e1⟩ := un.slot b o e n hb nx
      obtain ⟨sl', e2⟩ := up1 b _ e1 hb
      exact ⟨sl', e2⟩
    · obtain ⟨o', e1⟩ := un.there b o e nx
      by_cases hb : b ∈ frs ((envOfC qual scope s₀.heap.objs.size f cd) :: outer)
      · obtain ⟨sl', e2⟩ := up1 b _ e1 hb
        exact ⟨_, e2⟩
      · obtain ⟨o2, h2⟩ := hB b o e hb
        exact ⟨o', stay (apart h2 hb) e1⟩
  have hok5 : HOk P w H' h5 := fun a o e => (hok a o e).stay (fun b u hc q => by
    rcases hc with rfl | hc
    · exact stay (kH e) q
    · exact stay (kH hc) q) (fun _ q => q) fun _ _ q => q
  have I5 := I.call' (s' := { s' with heap := h5 }) (ch := []) os un5 hok5 bare (fun b z => absurd z (by simp))
  refine ⟨ea, cls, a0, od, H', _, rfl, fly5, dc5, fun b o hb nf => ?_, fun b o hb => ?_, I5.os, I5.bare, I5.base, hok5, hE⟩
  · have ns := stk hb nf
    obtain ⟨o1, e1⟩ := I.base.there b o hb (by show b ∉ []; simp)
    obtain ⟨o2, e2⟩ := hB b o1 e1 ns
    obtain ⟨o3, e3⟩ := un.there b o1 e1 (by simp)
    exact ⟨o3, by rw [less_out (apart e2 ns)]; exact e3⟩
  · obtain ⟨u, hu⟩ := (hok b o hb).some_
    exact ⟨u, by rw [less_out (kH hb)]; exact hu⟩
end L2


set_option Elab.async false
set_option linter.all false
set_option maxRecDepth 100000
set_option maxHeartbeats 4000000
namespace SF
open PySem PySem.Calls PyProof.Rows
section
variable {prog : Program} {w : World} {A : Around} {E : Value → Shared → Prop} {s : Shared}
set_option maxHeartbeats 8000000 in
end
end SF
namespace L2
open PySem PySem.Spec PyProof.Rows
section
variable {X : Cx}
end
end L2


set_option Elab.async false
set_option linter.all false
set_option maxRecDepth 100000
set_option maxHeartbeats 4000000
namespace L2
open PySem PySem.Spec PyProof.Rows
/-! ### things of any depth in the heap -/
inductive HD (H : Hp) : V → Da → Prop
  | non : HD H .non .non
  | bl (b : Bool) : HD H (.bl b) (.bl b)
  | int (i : Int) : HD H (.int i) (.int i)
  | str (s : Str) : HD H (.str s) (.str s)
  | tup {p : Addr} {xs : List V} {ds : List Da} (h : H p = some (.tup xs)) (l : xs.length = ds.length) (e : ∀ (i : Nat) x d, xs[i]? = some x → ds[i]? = some d → HD H x d) : HD H (.ref p) (.tup ds)
  | lst {p : Addr} {xs : List V} {ds : List Da} (h : H p = some (.lst xs)) (l : xs.length = ds.length) (e : ∀ (i : Nat) x d, xs[i]? = some x → ds[i]? = some d → HD H x d) : HD H (.ref p) (.lst ds)
theorem HD.same {H H' : Hp} {v : V} {d : Da} (h : HD H v d) (s : Same H H') : HD H' v d := by
  induction h with
  | non => exact .non
  | bl b => exact .bl b
  | int i => exact .int i
  | str x => exact .str x
  | tup h l e ih => exact .tup (s _ _ h) l ih
  | lst h l e ih => exact .lst (s _ _ h) l ih
theorem HD.da {H : Hp} {v : V} {d : Da} (K : PySem.W.Frag) (h : HD H v d) : DaAt K H v d := by
  induction h with
  | non => exact .non
  | bl b => exact .bl b
  | int i => exact .int i
  | str x => exact .str x
  | tup h l e ih => exact .tup (SqT.of h) l ih
  | lst h l e ih => exact .lst (SqL.of h) l ih
/-- the things of a list -/
inductive HDs (H : Hp) : List V → List Da → Prop
  | nil : HDs H [] []
  | cons {x : V} {d : Da} {xs : List V} {ds : List Da} (h : HD H x d) (r : HDs H xs ds) : HDs H (x :: xs) (d :: ds)
theorem HDs.len {H : Hp} {xs : List V} {ds : List Da} (h : HDs H xs ds) : xs.length = ds.length := by
  induction h with
  | nil => rfl
  | cons h r ih => rw [List.length_cons, List.length_cons, ih]
theorem HDs.get {H : Hp} {xs : List V} {ds : List Da} (h : HDs H xs ds) : ∀ (i : Nat) x d, xs[i]? = some x → ds[i]? = some d → HD H x d := by
  induction h with
  | nil => intro i x d h; simp at h
  | cons h r ih =>
    intro i x d h1 h2
    cases i with
    | zero => cases h1; cases h2; exact h
    | succ i => exact ih i x d (by simpa using h1) (by simpa using h2)
theorem HDs.same {H H' : Hp} {xs : List V} {ds : List Da} (h : HDs H xs ds) (s : Same H H') : HDs H' xs ds := by
  induction h with
  | nil => exact .nil
  | cons h r ih => exact .cons (h.same s) ih
theorem HDs.of {H : Hp} : ∀ {xs : List V} {ds : List Da}, xs.length = ds.length → (∀ (i : Nat) x d, xs[i]? = some x → ds[i]? = some d → HD H x d) → HDs H xs ds
  | [], [], _, _ => .nil
  | x :: xs, d :: ds, h, e => .cons (e 0 x d rfl rfl) (HDs.of (by simpa using h) fun i y z a b => e (i + 1) y z (by simpa using a) (by simpa using b))
  | [], _ :: _, h, _ => by simp at h
  | _ :: _, [], h, _ => by simp at h
theorem HDs.cons_inv {H : Hp} {xs : List V} {d : Da} {ds : List Da} (h : HDs H xs (d :: ds)) : ∃ x r, xs = x :: r ∧ HD H x d ∧ HDs H r ds := by
  cases h with
  | cons h r => exact ⟨_, _, rfl, h, r⟩
theorem HDs.nil_inv {H : Hp} {xs : List V} (h : HDs H xs []) : xs = [] := by
  cases h
  rfl
theorem HDs.app {H : Hp} {xs ys : List V} {ds es : List Da} (h : HDs H xs ds) (k : HDs H ys es) : HDs H (xs ++ ys) (ds ++ es) := by
  induction h with
  | nil => exact k
  | cons h r ih => exact .cons h ih
theorem HD.tupS {H : Hp} {p : Addr} {xs : List V} {ds : List Da} (h : H p = some (.tup xs)) (r : HDs H xs ds) : HD H (.ref p) (.tup ds) := .tup h r.len r.get
theorem HD.lstS {H : Hp} {p : Addr} {xs : List V} {ds : List Da} (h : H p = some (.lst xs)) (r : HDs H xs ds) : HD H (.ref p) (.lst ds) := .lst h r.len r.get
theorem HD.tup_inv {H : Hp} {v : V} {ds : List Da} (h : HD H v (.tup ds)) : ∃ p xs, v = .ref p ∧ H p = some (.tup xs) ∧ HDs H xs ds := by
  cases h with
  | tup h l e => exact ⟨_, _, rfl, h, .of l e⟩
theorem HD.lst_inv {H : Hp} {v : V} {ds : List Da} (h : HD H v (.lst ds)) : ∃ p xs, v = .ref p ∧ H p = some (.lst xs) ∧ HDs H xs ds := by
  cases h with
  | lst h l e => exact ⟨_, _, rfl, h, .of l e⟩
/-! ### an expression that is read to a thing -/
theorem Same.new {H : Hp} {l : Addr} {o : HO} (h : H l = none) : Same H (upd H l o) := fun b u e => by
  rw [upd_ne (ne_of_none e h)]
  exact e
def HT (t : TE) (σ : St) (H : Hp) (d : Da) : Prop := ∀ (G : Hp) (Q : VK), Same H G → (∀ (v : V) (G' : Hp), Same G G' → HD G' v d → Q v G') → t σ G Q
def HA (t : TA) (σ : St) (H : Hp) (ds : List Da) : Prop := ∀ (G : Hp) (Q : List V → Hp → Prop), Same H G → (∀ (xs : List V) (G' : Hp), Same G G' → HDs G' xs ds → Q xs G') → t σ G Q
theorem asg_next {σ : St} {H : Hp} {te : TE} {g : TG} {u : TS} {D : Ends} {rt : VK} {bk ct : St → Hp → Prop} (h : te σ H fun x H1 => g x σ H1 (u D)) : Ends.nx (Ends.mk (tSeq (tAsg te g) u D) rt bk ct) σ H := h
theorem asg_seq {σ : St} {H : Hp} {te : TE} {g : TG} {u : TS} {D : Ends} (h : te σ H fun x H1 => g x σ H1 (u D)) : tSeq (tAsg te g) u D σ H := h
theorem set_next {i : Nat} {v : V} {σ : St} {H : Hp} {Q : St → Hp → Prop} (h : Q (σ.set i (some v)) H) : gName i v σ H Q := h
theorem HT.go {t : TE} {σ : St} {H : Hp} {Q : VK} {d : Da} (h : HT t σ H d) (k : ∀ (v : V) (G : Hp), Same H G → HD G v d → Q v G) : t σ H Q := h H Q (.refl _) k
section
variable {σ : St} {H : Hp}
theorem ht_str {s : Str} : HT (tC (.str s)) σ H (.str s) := fun G Q _ k => k _ _ (.refl _) (.str s)
theorem ht_var {i : Nat} {v : V} {d : Da} (h : σ[i]? = some (some v)) (hv : HD H v d) : HT (tVar i) σ H d := fun G Q s k => ⟨v, h, k _ _ (.refl _) (hv.same s)⟩
theorem ha_nil : HA tNil σ H [] := fun G Q _ k => k _ _ (.refl _) .nil
theorem ha_cons {t : TE} {ta : TA} {d : Da} {ds : List Da} (h : HT t σ H d) (r : HA ta σ H ds) : HA (tCons t ta) σ H (d :: ds) := fun G Q s k =>
  h G _ s fun v G1 s1 hv => r G1 _ (s.trans s1) fun xs G2 s2 hx => k _ _ (s1.trans s2) (.cons (hv.same s2) hx)
theorem ht_lst {ta : TA} {ds : List Da} (h : HA ta σ H ds) (hl : ds.length ≤ 1000 := by exact Nat.le_of_ble_eq_true rfl) : HT (tLst ta) σ H (.lst ds) := fun G Q s k =>
  h G _ s fun xs G1 s1 hx => ⟨by rw [hx.len]; exact Nat.le_of_lt (small1000 hl), fun p np => k _ _ (s1.trans (.new np)) (.lstS upd_same (hx.same (.new np)))⟩
theorem lst_goN {ta : TA} {ds : List Da} {Q : VK} (h : HA ta σ H ds) (k : ∀ (p : Addr) (xs : List V) (G : Hp), Same H G → H p = none → G p = some (.lst xs) → HDs G xs ds → Q (.ref p) G) (hl : ds.length ≤ 1000 := by exact Nat.le_of_ble_eq_true rfl) : tLst ta σ H Q :=
  h H _ (.refl _) fun xs G1 s1 hx => ⟨by rw [hx.len]; exact Nat.le_of_lt (small1000 hl), fun p np => k p xs _ (s1.trans (.new np)) (s1.free np) upd_same (hx.same (.new np))⟩
end
end L2


set_option Elab.async false
set_option linter.all false
set_option maxRecDepth 100000
set_option maxHeartbeats 4000000
namespace L2
open PySem PySem.W PySem.Spec PySem.Calls PyProof.Rows
/-! ### a comprehension whose parts may raise -/
def cxCompX (X : Cx) (E : XK) (scope : Scope) (C : Addr) (N' : List Str) (s₀ : Shared) (H₀ : Hp) (fp : List Addr) : Cx :=
  (cxComp X scope C N' s₀ H₀ fp).wish (fun e s' => ∃ (pins : List (Addr × Obj)) (σ : St) (H : Hp) (s : Shared), Inv (cxComp X scope C N' s₀ H₀ fp) pins σ H s ∧ CX2 X.prog X.w X.stack H s E e s')
theorem passX {X : Cx} {E : XK} {scope : Scope} {C : Addr} {N' : List Str} {s₀ : Shared} {H₀ : Hp} {fp : List Addr} : Passes (CX2 X.prog X.w) (cxCompX X E scope C N' s₀ H₀ fp) E :=
  fun pins σ H s _ _ I cx => ⟨pins, σ, H, s, I.unwish, cx⟩
theorem fun_but {h h' base : Heap} {C : Addr} (sb : Heap.SameBut C h h') : ∀ {l : List Env}, h.FunFrames base l → (∀ b ∈ frs l, b ≠ C) → h'.FunFrames base l
  | [], _, _ => trivial
  | env :: r, ⟨hk, ⟨L, o, hf, hn, ho, hd⟩, hr⟩, hs => by
    have e : frs (env :: r) = L :: frs r := by unfold frs; rw [List.filterMap_cons, hf]
    rw [e] at hs
    exact ⟨hk, ⟨L, o, hf, hn, by rw [sb.2 L (hs L (by simp))]; exact ho, hd⟩, fun_but sb hr fun b hb => hs b (by simp [hb])⟩
section
variable {M : Model} {A : Around} {env : Env} {outer : List Env} {L e : Addr} {B : Heap} {cls a0 fl : Value} {od : Option Addr} {s : Shared} {Q : Unit → Shared → Prop} {XE : Value → Shared → Prop} {l : List Env}
/-- setFlight to any frame -/
theorem flightA {fo : Option Addr} (st : B.StaysIn s.heap) (fu : s.heap.FunFrames B l) (tr : s.heap.TracedAtW B e cls a0 fl) (dc : Dct s.heap e od)
    (k : ∀ h' fl', B.StaysIn h' → h'.FunFrames B l → h'.TracedAtW B e cls a0 fl' → (∀ b o, s.heap.get? b = some o → (∀ vs, o.data ≠ .fields vs) → h'.get? b = some o) → Dct h' e od → Q () { s with heap := h' }) : wpAny M A (setFlight (.ref e) fo) Q XE s := by
  obtain ⟨oe, vs, T, oT, ts, he, hc, hd, h1, nT, Te, hT, dT, h3⟩ := tr
  obtain ⟨oe', he', hod⟩ := dc
  cases he.symm.trans he'
  have sz : 3 < ts.size := (Array.getElem?_eq_some_iff.mp h3).1
  have oth : ∀ b, b ≠ T → (s.heap.update T (Obj.mapFields (·.setIfInBounds 3 (fo.elim Value.none fun f => rawInt f)))).get? b = s.heap.get? b := fun b n => Heap.get?_update_other _ _ n.symm
  unfold setFlight
  refine wpAny_bind (wpAny_field he hd h1 ?_)
  rw [if_pos (by simp)]
  refine wpAny_setField hT dT sz (k _ (fo.elim Value.none fun f => rawInt f) (fun b o hb => (oth b fun z => by
    rw [z, nT] at hb
    cases hb).trans (st b o hb)) (fu.of_keeps fun b o hb n => ⟨o, (oth b (noRec hT dT hb n)).trans hb, rfl⟩) ?_ (fun b o hb n => (oth b (noRec hT dT hb n)).trans hb) ⟨oe, (oth e Te.symm).trans he, hod⟩)
  exact ⟨oe, vs, T, _, _, (oth e Te.symm).trans he, hc, hd, h1, nT, Te, Heap.get?_update_self _ hT (Obj.isFreed_of_fields (Obj.data_mapFields dT _)), Obj.data_mapFields dT _, by simp [sz]⟩
/-- it leaves a frame, noted there or not -/
theorem leavesAnyD (fr : A.frames = some (env :: outer)) (hf : env.frame = some L) (st : B.StaysIn s.heap) (ne : B.get? e = none) (fu : s.heap.FunFrames B (env :: outer)) (tr : s.heap.TracedAtW B e cls a0 fl) (dc : Dct s.heap e od)
    (k : ∀ h', B.FlyingW outer e cls a0 h' → s.heap.UpToSlots h' → Dct h' e od → Q () { s with heap := h' }) : wpAny M A (leaving env (.ref e)) Q XE s := by
  unfold leaving
  obtain ⟨oe, vs, T, oT, ts, he, ⟨hc, h0⟩, hd, h1, nT, Te, hT, dT, h3⟩ := tr
  obtain ⟨oe', he', hod⟩ := dc
  cases he.symm.trans he'
  subst hc
  subst hod
  refine wpAny_bind ?_
  unfold noteFrame
  simp only [hf]
  refine wpAny_bind (wpAny_field he hd h1 ?_)
  rw [if_pos (by simp)]
  refine wpAny_bind (wpAny_field hT dT h3 ?_)
  by_cases c : (fl == rawInt L) = true
  · rw [if_pos c]
    refine wpAny_pure ?_
    exact flightD st fu ⟨oe, vs, T, oT, ts, he, ⟨rfl, h0⟩, hd, h1, nT, Te, hT, dT, h3⟩ ⟨oe, he, rfl⟩ fun h2 a b c d dc2 => k h2 ⟨a, ne, b.2.2, c⟩ (fun b o hb n => ⟨o.slots, d b o hb n⟩) dc2
  · rw [if_neg c]
    refine wpAny_bind (wpAny_setField hT dT (Array.getElem?_eq_some_iff.mp h3).1 ?_)
    have oth : ∀ b, b ≠ T → (s.heap.update T (Obj.mapFields (·.setIfInBounds 3 Value.none))).get? b = s.heap.get? b := fun b n => Heap.get?_update_other _ _ n.symm
    refine entryD fr (fu.of_keeps fun b o hb n => ⟨o, (oth b (noRec hT dT hb n)).trans hb, rfl⟩) hf ((oth e Te.symm).trans he) (fun b o hb => (oth b fun z => by
      rw [z, nT] at hb
      cases hb).trans (st b o hb)) ne hd (Array.getElem?_eq_some_iff.mp h1).1 h0 fun h' q q2 => ?_
    exact flightD (s := { s with heap := h' }) q.1 q.2.1 q.2.2.1 q2 fun h2 a b c d dc2 => k h2 ⟨a, ne, b.2.2, c⟩ (Heap.UpToSlots.trans (fun b o hb n => q.2.2.2 b o ((oth b (noRec hT dT hb n)).trans hb) n) fun b o hb n => ⟨o.slots, d b o hb n⟩) dc2
end
section
variable {X : Cx} {E : XK} {scope : Scope} {N' : List Str} {fr : List (Option Nat)} {pins : List (Addr × Obj)} {σ : St} {H3 : Hp} {s3 : Shared} {fp : List Addr}
/-- what a part raises goes on through the comprehension, and leaves the body -/
theorem comp_err {L D : Addr} (hex : X.ex = []) (hst : X.stack = X.env :: X.outer) (hL : X.env.frame = some L) (hsub : ∀ b o, X.s₀.heap.get? b = some o → b ∉ frs X.outer → b ∉ frs X.stack)
    (hxe : ∀ e s', wpAny (model X.prog X.w) X.A (leaving X.env e) (fun _ s'' => CX2 X.prog X.w X.outer X.H₀ X.s₀ E e s'') (fun e' s'' => CX2 X.prog X.w X.outer X.H₀ X.s₀ E e' s'') s' → X.xe e s')
    (I3 : Inv X pins σ H3 s3) (f3 : ∀ b ∈ fp, FpOk X pins H3 b) {use : Option (Value → Sem Unit)} {QQ : Value → Shared → Prop} {e : Value} {s' : Shared}
    (J : ∃ (pins' : List (Addr × Obj)) (σ' : St) (H : Hp) (s : Shared), Inv (cxComp X scope s3.heap.objs.size N' s3 H3 fp) pins' σ' H s ∧ CX2 X.prog X.w X.stack H s E e s') :
    notedBy (model X.prog X.w) X.A (compEnvC scope (clOf scope X.env) s3.heap.objs.size X.env) (fun x s'' => compPost (model X.prog X.w) X.A X.xe use QQ (.ref D) s3.heap.objs.size (.error x) s'') e s' := by
  obtain ⟨pins', σ', Hc, sc, Ic, cx⟩ := J
  obtain ⟨ea, cls, a0, od, H', B, rfl, fly, dc, hB, hH, os, bare, un, hok, hE⟩ := cx
  obtain ⟨T, be, bT, fly2⟩ := fly_less fly
  have apart : ∀ {b o}, B.get? b = some o → b ∉ frs X.stack → b ∉ frs X.stack ++ [ea, T] := fun {b o} hb nf hx => by
    rcases List.mem_append.mp hx with h | h
    · exact nf h
    · rcases (show b = ea ∨ b = T by simpa using h) with rfl | rfl
      · rw [be] at hb; cases hb
      · rw [bT] at hb; cases hb
  generalize hC : s3.heap.objs.size = C at *
  obtain ⟨mC, nsC, _⟩ := Ic.loc
  have nsC : sc.heap.Ns C mC := nsC
  obtain ⟨oC, esC, epC, gC, dC, skC, fC⟩ := id nsC
  have hcf : Hc C = none := Ic.free
  have Cnf : C ∉ frs X.stack := fun hb => by
    obtain ⟨_, o, ho, _⟩ := I3.stack.mem hb
    exact absurd (Heap.lt_size ho) (by rw [hC]; exact Nat.lt_irrefl _)
  have CA : C ∉ frs X.stack ++ [ea, T] := by
    obtain ⟨o', h⟩ := hB C oC gC Cnf
    exact apart h Cnf
  have gC' : s'.heap.get? C = some oC := un.keep C oC gC hcf Cnf (by simp)
  have HC : H' C = none := un.free C oC gC hcf (by simp)
  have fr' : ∀ b ∈ frs X.stack, H' b = none := fun b hb => by
    obtain ⟨_, o, ho, _⟩ := Ic.stack.mem hb
    exact un.free b o ho (Ic.stkFree b hb) (by simp)
  have kH : ∀ {b o}, H' b = some o → b ∉ frs X.stack ++ [ea, T] := fun {b o} hb => by
    obtain ⟨o', h1⟩ := hH b o hb
    exact apart h1 fun z => by rw [fr' b z] at hb; cases hb
  have fly2' := fly2
  rw [hst] at fly2'
  show wpAny _ _ (noteFrame (.ref ea) X.env) _ _ _
  refine looksD (B := less s'.heap (frs (X.env :: X.outer) ++ [ea, T])) (env := X.env) (outer := X.outer) (by rw [I3.ok.frames, hst]) hL fly2' dc fun h4 held4 up4 dc4 => ?_
  rw [← hst] at held4
  have g4 : h4.get? C = some oC := held4.1 C oC (by rw [less_out CA]; exact gC')
  show ∃ m, h4.Ns C m ∧ ∀ h', Heap.SameBut C h4 h' → ∀ cenv : Env, cenv.locals = C → wpAny _ _ (PySem.passOn "comprehension.variables-let-go" (.ref ea) cenv : Sem Value) (fun _ _ => False) X.xe { s' with heap := h' }
  refine ⟨mC, ⟨oC, esC, epC, g4, dC, skC, fC⟩, fun h' sb cenv hcl => ?_⟩
  obtain ⟨st4, ne4, fu4, oe, vs, T', oT, ts, he, hcls, hd, h1, nT', Te, hT', dT, h3'⟩ := held4
  have hbT : ∀ {b o}, b ∉ frs X.stack ++ [ea, T] → s'.heap.get? b = some o → b ≠ T' := fun {b o} hb hg z => by
    rw [z] at hb hg
    rw [less_out hb, hg] at nT'
    cases nT'
  have CT' : C ≠ T' := hbT CA gC'
  have Ce : C ≠ ea := fun z => CA (by rw [z]; simp)
  have he' : h'.get? ea = some oe := by rw [sb.2 ea Ce.symm]; exact he
  have st9 : (less h' (frs X.stack ++ [ea, T', C])).StaysIn h' := less_stays
  have fu9 : h'.FunFrames (less h' (frs X.stack ++ [ea, T', C])) X.stack := less_funs (fun_but sb fu4 (fun b hb z => Cnf (z ▸ hb))) (fun b hb => List.mem_append_left _ hb)
  have tr9 : h'.TracedAtW (less h' (frs X.stack ++ [ea, T', C])) ea cls a0 (rawInt L) := ⟨oe, vs, T', oT, ts, he', hcls, hd, h1, less_in (by simp), Te, by rw [sb.2 T' CT'.symm]; exact hT', dT, h3'⟩
  have dc9 : Dct h' ea od := by
    obtain ⟨o, e1, e2⟩ := dc4
    exact ⟨o, by rw [sb.2 ea Ce.symm]; exact e1, e2⟩
  unfold PySem.passOn
  refine wpAny_bind (wpAny_field he' hd h1 ?_)
  rw [if_neg (by simp)]
  refine wpAny_bind (flightA (s := { s' with heap := h' }) (fo := cenv.frame) st9 fu9 tr9 dc9 fun h6 fl' st6 fu6 tr6 kp6 dc6 => ?_)
  refine wpAny_throw (hxe _ _ ?_)
  have fu6' : ∀ l, l = X.stack → h6.FunFrames (less h' (frs X.stack ++ [ea, T', C])) l := by
    intro l hl
    subst hl
    exact fu6
  refine leavesAnyD (s := { s' with heap := h6 }) (env := X.env) (outer := X.outer) (by rw [I3.ok.frames, hst]) hL st6 (less_in (by simp)) (fu6' _ hst.symm) tr6 dc6 fun h9 fly9 up9 dc99 => ?_
  have stay9 : ∀ {b u}, b ∉ frs X.stack ++ [ea, T] → b ≠ C → s'.heap.get? b = some u → h'.get? b = some u ∧ (less h' (frs X.stack ++ [ea, T', C])).get? b = some u ∧ h9.get? b = some u := fun {b u} hb hbC hu => by
    have e4 : h4.get? b = some u := st4 b u (by rw [hst] at hb; rw [hst, less_out hb]; exact hu)
    have e5 : h'.get? b = some u := by rw [sb.2 b hbC]; exact e4
    have e6 : (less h' (frs X.stack ++ [ea, T', C])).get? b = some u := by
      rw [less_out fun hx => ?_]
      · exact e5
      · rcases List.mem_append.mp hx with h | h
        · exact hb (List.mem_append_left _ h)
        · rcases (show b = ea ∨ b = T' ∨ b = C by simpa using h) with z | z | z
          · exact hb (by rw [z]; simp)
          · exact hbT hb hu z
          · exact hbC z
    exact ⟨e5, e6, fly9.1 b u e6⟩
  have slots9 : ∀ b ∈ frs X.stack, ∀ o, s'.heap.get? b = some o → ∃ sl, h9.get? b = some { o with slots := sl } := fun b hb o ho => by
    obtain ⟨_, o2, e2, nf⟩ := fly.2.2.1.mem hb
    rw [ho] at e2
    cases e2
    obtain ⟨sl1, e1⟩ := up4 b o ho nf
    have e5 : h'.get? b = some { o with slots := sl1 } := by rw [sb.2 b (fun z => Cnf (z ▸ hb))]; exact e1
    have e6 : h6.get? b = some { o with slots := sl1 } := kp6 b _ e5 nf
    obtain ⟨sl2, e7⟩ := up9 b _ e6 nf
    exact ⟨sl2, e7⟩
  have U : Un (frs X.stack) fp H3 H' s3.heap s'.heap := Un.trans (show Un (frs X.stack) fp H3 Hc s3.heap sc.heap from Ic.base) (un.mono (fun b h => h) (fun b h => absurd h (by simp)))
  have ap3 : ∀ {b o}, s3.heap.get? b = some o → b ∉ fp → b ∉ frs X.stack → b ∉ frs X.stack ++ [ea, T] ∧ b ≠ C := fun {b o} hb nx nf => by
    obtain ⟨o1, e1⟩ := (show Un (frs X.stack) fp H3 Hc s3.heap sc.heap from Ic.base).there b o hb nx
    obtain ⟨o2, e2⟩ := hB b o1 e1 nf
    exact ⟨apart e2 nf, fun z => absurd (Heap.lt_size hb) (by rw [z, hC]; exact Nat.lt_irrefl _)⟩
  have Un9 : Un (frs X.stack) fp H3 H' s3.heap h9 := by
    refine ⟨fun b o e n nf nx => ?_, fun b o e n hb nx => ?_, U.free, fun b o e nx => ?_, U.tups, U.frzs, U.tbls⟩
    · obtain ⟨a1, a2⟩ := ap3 e nx nf
      exact (stay9 a1 a2 (U.keep b o e n nf nx)).2.2
    · obtain ⟨sl, e1⟩ := U.slot b o e n hb nx
      obtain ⟨sl', e2⟩ := slots9 b hb _ e1
      exact ⟨sl', e2⟩
    · obtain ⟨o', e1⟩ := U.there b o e nx
      by_cases hb : b ∈ frs X.stack
      · obtain ⟨sl', e2⟩ := slots9 b hb _ e1
        exact ⟨_, e2⟩
      · obtain ⟨a1, a2⟩ := ap3 e nx hb
        exact ⟨o', (stay9 a1 a2 e1).2.2⟩
  have nC : ∀ {b o}, H' b = some o → b ≠ C := fun {b o} hb z => by rw [z, HC] at hb; cases hb
  have hok9 : HOk X.prog X.w H' h9 := fun a o e => (hok a o e).stay (fun b u hc q => by
    rcases hc with rfl | hc
    · exact (stay9 (kH e) (nC e) q).2.2
    · exact (stay9 (kH hc) (nC hc) q).2.2) (fun _ q => q) fun _ _ q => q
  have I9 := I3.call' (s' := { s' with heap := h9 }) (ch := fp) (os.trans Ic.os) Un9 hok9 bare (fun b hb => ⟨(f3 b hb).2.2.2.1, (f3 b hb).2.1, (f3 b hb).2.2.2.2.1, (f3 b hb).2.2.2.2.2⟩)
  have base9 := I9.base
  rw [hex] at base9
  refine ⟨ea, cls, a0, od, H', _, rfl, fly9, dc99, fun b o hb nf => ?_, fun b o hb => ?_, I9.os, I9.bare, base9, hok9, hE⟩
  · have ns := hsub b o hb nf
    obtain ⟨o1, e1⟩ := I3.base.there b o hb (by rw [hex]; simp)
    have nx : b ∉ fp := fun hx => by
      rcases (f3 b hx).2.2.2.1 with z | z
      · rw [hex] at z; simp at z
      · exact absurd (Heap.lt_size hb) (Nat.not_lt.mpr z)
    obtain ⟨a1, a2⟩ := ap3 e1 nx ns
    obtain ⟨o3, e3⟩ := U.there b o1 e1 nx
    exact ⟨o3, (stay9 a1 a2 e3).2.1⟩
  · obtain ⟨u, hu⟩ := (hok b o hb).some_
    exact ⟨u, (stay9 (kH hb) (nC hb) hu).2.1⟩
end
theorem compLoop_anyX {prog : Program} {w : World} {A : Around} {R : Result → Shared → Prop} {s : Shared} {elt target iter : Expr} {ifs : List Expr} {scope : Scope} {pos : Pos} {it acc : Value} {env : Env} (I : Nat → Shared → Prop) (XE' : Value → Shared → Prop) (hE : ∀ x s', XE' x s' → notedBy (model prog w) A env (fun x s'' => R (.error x) s'') x s')
    (turn : ∀ n s, I n s → wpAny (model prog w) A (pyNext it) (fun r s₁ => match r with
      | none => R (.ok .next) s₁
      | some v => wpAny (model prog w) A (letOwnedTupleGo target it v) (fun _ s₀ => wpAny (model prog w) A (assign target env v) (fun _ s₂ =>
          wpAny (model prog w) A (forIn ifs true fun c r => if r = true then do let ok ← isTrue c env (eval c env); pure (ForInStep.yield ok) else pure (ForInStep.yield r)) (fun ok s₃ =>
            if ok = true then wpAny (model prog w) A (eval elt env) (fun x s₄ =>
              wpAny (model prog w) A (call (.builtin "list.append") [acc, x]) (fun _ s₅ => ∃ m, m < n ∧ I m s₅) XE' s₄) XE' s₃
            else ∃ m, m < n ∧ I m s₃) XE' s₂) XE' s₀) (fun _ _ => False) s₁) (fun _ _ => False) s)
    (n : Nat) (h : I n s) :
    codeAny (model prog w) A (.compLoop (.ListComp elt [⟨target, iter, ifs, 0⟩] scope pos) 0 it acc env) R s := by
  refine codeAny_loop rfl I (fun n s hI => ?_) n h
  show wpAny _ A ((compTurn (.ListComp elt [⟨target, iter, ifs, 0⟩] scope pos) 0 it acc env).onRaise (fun x => do noteFrame x env; theTreesLotGoes x)) _ _ s
  refine wpAny_noted ?_
  rw [compTurn_list]
  refine wpAny_bind (wpAny_standAt (wpAny_bind (wpAny_mono (turn n s hI) (fun r s₁ h₁ => ?_) fun _ _ h' => h'.elim)))
  cases r with
  | none => exact wpAny_pure h₁
  | some v =>
    refine wpAny_bind (wpAny_mono h₁ (fun _ s₀ h₀ => ?_) fun _ _ h' => h'.elim)
    refine wpAny_bind (wpAny_mono h₀ (fun _ s₂ h₂ => wpAny_bind (wpAny_mono h₂ (fun ok s₃ h₃ => ?_) hE)) hE)
    cases ok with
    | false => exact wpAny_pure ⟨rfl, h₃⟩
    | true =>
      exact wpAny_bind (wpAny_bind (wpAny_mono h₃ (fun x s₄ h₄ => wpAny_bind (wpAny_mono h₄ (fun _ s₅ h₅ => wpAny_pure (wpAny_pure ⟨rfl, h₅⟩)) hE)) hE))

theorem comp_runX {X : Cx} {E : XK} {L : Addr} {elt tg iter : Expr} {ifs : List Expr} {scope : Scope} {pos cpos : Pos} {wi : TI} {g : TG} {tt : TT} {te : TE} {N' : List Str} {fr : List (Option Nat)} (hex : X.ex = []) (hst : X.stack = X.env :: X.outer) (hL : X.env.frame = some L)
    (hxe : ∀ e s', wpAny (model X.prog X.w) X.A (leaving X.env e) (fun _ s'' => CX2 X.prog X.w X.outer X.H₀ X.s₀ E e s'') (fun e' s'' => CX2 X.prog X.w X.outer X.H₀ X.s₀ E e' s'') s' → X.xe e s') (S : CompSc X.env.scope scope X.N N' fr) (hc : X.calm = true) (hi : PI X tg iter wi)
    (hg : ∀ C s0 H0 fp, PG (cxCompX X E scope C N' s0 H0 fp) tg g) (ht : ∀ C s0 H0 fp, PTs (cxCompX X E scope C N' s0 H0 fp) ifs tt) (he : ∀ C s0 H0 fp, PE (cxCompX X E scope C N' s0 H0 fp) elt te)
    (hs : ∀ x, foldedSetIterable iter X.env x = pure x) {pins : List (Addr × Obj)} {s : Shared} {σ : St} {H : Hp} {Q : VK} (I : Inv X pins σ H s) (h : tComp fr wi g tt te σ H Q) (use : Option (Value → Sem Unit)) (QQ : Value → Shared → Prop)
    (fin : ∀ (D C : Addr) (H5 : Hp) (s6 : Shared), Inv X pins σ H5 s6 → Q (.ref D) H5 → H5 C = none → C ≠ X.env.locals → X.s₀.heap.objs.size ≤ C → (∀ x c, X.env.cells.lookup x = some c → c ≠ C) → (∀ p ∈ X.pn ++ pins, p.1 ≠ C) → (∃ m, s6.heap.Ns C m) →
      compPost (model X.prog X.w) X.A X.xe use QQ (.ref D) C (.ok .next) s6) :
    wpAny (model X.prog X.w) X.A (comprehension (.ListComp elt [⟨tg, iter, ifs, 0⟩] scope pos) scope X.env cpos (newList []) false (eval iter X.env) use) QQ X.xe s := by
  have hfree : ∀ y ∈ scope.names, y.2 = .free → ∃ c, X.env.cells.lookup y.1 = some c := fun y hy e => I.ok.has y.1 (.inl (S.free y hy e))
  refine wpAny_comprehension_free (use := use) rfl hs (clos_of hfree) S.kind S.names (thn (hi pins s σ H _ I h) fun v s1 h1 => thn h1 fun itv s2 h2 => ?_)
  obtain ⟨it, fp, tn, J, H2, e, I2, T, st2, f2, hD⟩ := h2
  subst e
  obtain ⟨W, ⟨m0, w0⟩, turn⟩ := hD s2.heap.objs.size I2.fresh
  -- the new list
  refine wpAny_newObj_type ?_
  have I3 : Inv X pins σ (upd H2 s2.heap.objs.size (.lst [])) { s2 with heap := s2.heap.push { cls := .type "list", data := .seq ([] : List Value).toArray }, toks := s2.toks } := I2.lnew (ys := []) .nil (Nat.zero_le _)
  revert I3
  generalize eD : s2.heap.objs.size = D at *
  generalize e3 : ({ s2 with heap := s2.heap.push { cls := .type "list", data := .seq ([] : List Value).toArray }, toks := s2.toks } : Shared) = s3
  intro I3
  have k3 : ∀ b o, s2.heap.get? b = some o → s3.heap.get? b = some o := fun b o e => by rw [← e3]; exact Heap.get?_push_of_some _ e
  refine wpAny_newFunctionEnv S.nocell (by intro y hy; simp at hy) (fun h4 hns hsb => ?_) S.kind
  have old : ∀ b o, s3.heap.get? b = some o → h4.get? b = some o := fun b o e => hsb.extBut b o (Nat.ne_of_lt (Heap.lt_size e)) (Heap.get?_push_of_some _ e)
  have fD : ∀ b ∈ fp, b ≠ D := fun b hb z => by
    obtain ⟨o, ho, _⟩ := T.obj _ _ st2 b hb
    exact absurd (Heap.lt_size ho) (by rw [z, eD]; exact Nat.lt_irrefl _)
  have f3 : ∀ b ∈ fp, FpOk X pins (upd H2 D (.lst [])) b := fun b hb => ⟨by rw [upd_ne (fD b hb)]; exact (f2 b hb).1, (f2 b hb).2⟩
  have l3 : ∀ b ∈ fp, b < s3.heap.objs.size := fun b hb => by
    obtain ⟨o, ho, _⟩ := T.obj _ _ st2 b hb
    exact Heap.lt_size (k3 b o ho)
  have I4 := (Inv.block (t1 := s3.toks + ([] : List (Str × Value)).length) (scope := scope) S hc I3 f3 l3 hns old).wish (fun e s' => ∃ (pins : List (Addr × Obj)) (σ : St) (H : Hp) (s : Shared), Inv (cxComp X scope s3.heap.objs.size N' s3 (upd H2 D (.lst [])) fp) pins σ H s ∧ CX2 X.prog X.w X.stack H s E e s')
  have hsub : ∀ b o, X.s₀.heap.get? b = some o → b ∉ frs X.outer → b ∉ frs X.stack := fun b o hb nf hx => by
    rcases List.mem_cons.mp (I.stkSub b hx) with e | e
    · have h1 := Heap.lt_size hb
      have h2 := I.ok.above
      rw [e] at h1
      exact absurd h1 (Nat.not_lt.mpr h2)
    · exact nf e
  have hErr := fun (x : Value) (s' : Shared) (Jx : ∃ (pins : List (Addr × Obj)) (σ : St) (H : Hp) (s : Shared), Inv (cxComp X scope s3.heap.objs.size N' s3 (upd H2 D (.lst [])) fp) pins σ H s ∧ CX2 X.prog X.w X.stack H s E x s') => comp_err (D := D) (use := use) (QQ := QQ) hex hst hL hsub hxe I3 f3 Jx
  generalize eX : cxCompX X E scope s3.heap.objs.size N' s3 (upd H2 D (.lst [])) fp = X'
  replace I4 : Inv X' [] (frSt fr σ) (upd H2 D (.lst [])) { s3 with heap := h4, toks := s3.toks + ([] : List (Str × Value)).length } := by rw [← eX]; exact I4
  have st4 : tn 0 h4 := T.keep _ _ _ st2 fun b hb o e => old b o (k3 b o e)
  have stat : ∀ {H' : Hp}, (∀ b ∈ fp, H' b = none) → ∀ b ∈ fp, FpOk X' [] H' b := fun {H'} hn b hb => by
    subst eX
    refine ⟨hn b hb, Nat.ne_of_lt (l3 b hb), ?_, .inl hb, ?_, fun p hp => absurd hp (by simp [cxCompX, cxComp, Cx.wish])⟩
    · exact I4.ok.exfs b hb
    · exact (I4.ok.exf b hb).2
  show codeAny _ _ (.compStart _ 0 (.ref it) (.ref D) (compEnvC scope (clOf scope X.env) s3.heap.objs.size X.env)) (compPost _ _ _ use _ (.ref D) s3.heap.objs.size) _
  have hX : X'.prog = X.prog ∧ X'.w = X.w ∧ X'.K = X.K ∧ X'.A = X.A ∧ X'.calm = true ∧ X'.env = compEnvC scope (clOf scope X.env) s3.heap.objs.size X.env ∧ X'.xe = (fun e s' => ∃ (pins : List (Addr × Obj)) (σ : St) (H : Hp) (s : Shared), Inv (cxComp X scope s3.heap.objs.size N' s3 (upd H2 D (.lst [])) fp) pins σ H s ∧ CX2 X.prog X.w X.stack H s E e s') ∧ X'.s₀ = s3 ∧ X'.H₀ = upd H2 D (.lst []) ∧ X'.fs = frs X.stack ∧ X'.ex = fp := by
    subst eX
    exact ⟨rfl, rfl, rfl, rfl, rfl, rfl, rfl, rfl, rfl, rfl, rfl⟩
  have hg' : PG X' tg g := by subst eX; exact hg _ _ _ _
  have ht' : PTs X' ifs tt := by subst eX; exact ht _ _ _ _
  have he' : PE X' elt te := by subst eX; exact he _ _ _ _
  clear eX
  obtain ⟨x1, x2, x3, x4, x5, x6, x7, x8, x9, x10, x11⟩ := hX
  have loop : codeAny (model X.prog X.w) X.A (.compLoop (.ListComp elt [⟨tg, iter, ifs, 0⟩] scope pos) 0 (.ref it) (.ref D) (compEnvC scope (clOf scope X.env) s3.heap.objs.size X.env))
      (compPost (model X.prog X.w) X.A X.xe use QQ (.ref D) s3.heap.objs.size) { s3 with heap := h4, toks := s3.toks + ([] : List (Str × Value)).length } := by
    refine compLoop_anyX (XE' := fun e s' => ∃ (pins : List (Addr × Obj)) (σ : St) (H : Hp) (s : Shared), Inv (cxComp X scope s3.heap.objs.size N' s3 (upd H2 D (.lst [])) fp) pins σ H s ∧ CX2 X.prog X.w X.stack H s E e s') (hE := hErr) (I := fun n s' => ∃ i σ' ys H', Inv X' [] σ' H' s' ∧ tn i s'.heap ∧ (∀ b ∈ fp, H' b = none) ∧ W i n σ' ys H') ?_ m0 ⟨0, _, [], _, I4, st4, fun b hb => (f3 b hb).1, w0⟩
    rintro n s5 ⟨i, σ5, ys, H5, I5, st5, fr5, w5⟩
    rcases turn i n σ5 ys H5 w5 with ⟨stop, qn⟩ | ⟨go, N, hN, step⟩
    · have z := T.done X' x1 x2 x3 x5 i [] s5 σ5 H5 (fun _ _ => False) I5 (stat fr5) st5 stop
      rw [x4] at z
      refine thn z fun r s6 ⟨hr, I6⟩ => ?_
      subst hr
      -- the end
      obtain ⟨mm, hn6, _⟩ := I6.loc
      have hL : X'.env.locals = s3.heap.objs.size := by rw [x6]; rfl
      rw [hL] at hn6
      have nC : H5 s3.heap.objs.size = none := by have := I6.free; rw [hL] at this; exact this
      have base := I6.base
      rw [x8, x9, x10, x11] at base
      have hok : HOk X.prog X.w H5 s6.heap := by have q := I6.hok; rw [x1, x2] at q; exact q
      have os : s6.os = s3.os := by have := I6.os; rw [x8] at this; exact this
      have IX : Inv X pins σ H5 s6 := I3.call' os base hok I6.bare fun b hb => ⟨(f3 b hb).2.2.2.1, (f3 b hb).2.1, (f3 b hb).2.2.2.2.1, (f3 b hb).2.2.2.2.2⟩
      refine fin D s3.heap.objs.size H5 s6 IX qn nC (Nat.ne_of_gt I3.lt) I3.sz (fun x c e => ?_) (fun p hp => ?_) ⟨mm, hn6⟩
      · obtain ⟨v, q⟩ := I3.cell x c e
        exact Nat.ne_of_lt q.lt
      · exact Nat.ne_of_lt (Heap.lt_size (I3.pin p hp).1)
    · have z := T.item X' x1 x2 x3 x5 i [] s5 σ5 H5 (fun _ _ => False) I5 (stat fr5) st5 go
      rw [x4] at z
      refine thn z fun r s6 ⟨u, hr, h6⟩ => ?_
      subst hr
      refine thn h6 fun _ s7 ⟨x, H7, I7, r7, y7, st7, fr7⟩ => ?_
      have I7' := I7.pinned (stat fr7) (T.obj _ _ st7)
      have again : ∀ {σ' : St} {H' : Hp} {s' : Shared}, Inv X' ([] ++ pinsAt fp s7.heap) σ' H' s' → Inv X' [] σ' H' s' ∧ tn (i + 1) s'.heap ∧ ∀ b ∈ fp, H' b = none := fun {σ' H' s'} J => by
        refine ⟨J.unpinned, T.keep _ _ _ st7 fun b hb o e => (J.pin (b, o) (List.mem_append_right _ (List.mem_append_right _ (mem_pinsAt hb e)))).1, fun b hb => ?_⟩
        obtain ⟨o, e, d⟩ := T.obj _ _ st7 b hb
        exact (J.pin (b, o) (List.mem_append_right _ (List.mem_append_right _ (mem_pinsAt hb e)))).2.1
      have z := hg' _ s7 σ5 H7 x u _ I7' r7 (step x H7 y7)
      rw [x1, x2, x4, x6, x7] at z
      refine thn z fun _ s8 ⟨σ8, H8, I8, q8⟩ => ?_
      have z := ht' _ s8 σ8 H8 _ I8 q8
      rw [x1, x2, x4, x6, x7] at z
      refine thn z fun b s9 ⟨H9, I9, q9⟩ => ?_
      cases b with
      | false =>
        rw [if_neg Bool.false_ne_true] at q9 ⊢
        obtain ⟨m', hm, w9⟩ := hN _ _ _ q9
        obtain ⟨a1, a2, a3⟩ := again I9
        exact ⟨m', hm, i + 1, σ8, ys, H9, a1, a2, a3, w9⟩
      | true =>
        rw [if_pos rfl] at q9 ⊢
        have z := he' _ s9 σ8 H9 _ I9 q9
        rw [x1, x2, x4, x6, x7] at z
        refine thn z fun v' s10 ⟨y, H10, I10, r10, hD10, hz, w10⟩ => ?_
        have z := mt_append (X := X') _ s10 σ8 H10 (.ref D) [y] (.ref D) [v'] (fun _ H' => N σ8 (ys ++ [y]) H') I10 rfl (.cons r10 .nil) ⟨D, ys, y, rfl, rfl, hD10, hz, w10⟩
        rw [x1, x2, x4, x7] at z
        refine thn z fun _ s11 ⟨_, H11, I11, _, w11⟩ => ?_
        obtain ⟨m', hm, w11⟩ := hN _ _ _ w11
        obtain ⟨a1, a2, a3⟩ := again I11
        exact ⟨m', hm, i + 1, σ8, _, H11, a1, a2, a3, w11⟩
  exact codeAny_compStart_list loop (T.self _ 0 _ _ _ st4 loop)
/-- [.. for .. in ..] in a body that may raise, its parts too -/
theorem pe_compX {P : Program} {w : World} {K : PySem.W.Frag} {mg : Str → Option Value} {base : Heap} {N : List Str} {qual : Str} {sc : Scope} {f : Addr} {cd : Value} {A : Around} {outer : List Env} {s₀ : Shared} {H₀ : Hp} {E : XK}
    {elt tg iter : Expr} {ifs : List Expr} {scope : Scope} {pos : Pos} {wi : TI} {g : TG} {tt : TT} {te : TE} {N' : List Str} {fr : List (Option Nat)} (S : CompSc sc scope N N' fr) (hi : PI (cxOf (CX2 P w) P w K mg base N qual sc f cd A outer s₀ H₀ E) tg iter wi)
    (hg : ∀ C s0 H0 fp, PG (cxCompX (cxOf (CX2 P w) P w K mg base N qual sc f cd A outer s₀ H₀ E) E scope C N' s0 H0 fp) tg g) (ht : ∀ C s0 H0 fp, PTs (cxCompX (cxOf (CX2 P w) P w K mg base N qual sc f cd A outer s₀ H₀ E) E scope C N' s0 H0 fp) ifs tt) (he : ∀ C s0 H0 fp, PE (cxCompX (cxOf (CX2 P w) P w K mg base N qual sc f cd A outer s₀ H₀ E) E scope C N' s0 H0 fp) elt te)
    (hs : ∀ x, foldedSetIterable iter (cxOf (CX2 P w) P w K mg base N qual sc f cd A outer s₀ H₀ E).env x = pure x := by intro _; rfl) : PE (cxOf (CX2 P w) P w K mg base N qual sc f cd A outer s₀ H₀ E) (.ListComp elt [⟨tg, iter, ifs, 0⟩] scope pos) (tComp fr wi g tt te) := by
  intro pins s σ H Q I h
  rw [eval_ListComp]
  refine comp_runX (L := (envOfC qual sc s₀.heap.objs.size f cd).locals) rfl rfl rfl (fun _ _ h => h) S rfl hi hg ht he hs I h none _ fun D C H5 s6 IX q nC c1 c2 c3 c4 hm => ?_
  obtain ⟨m, hm⟩ := hm
  refine ⟨m, hm, fun h' hs' => ⟨.ref D, H5, IX.turned (t' := s6.toks) (it := C) (fun b o hb e => hs'.extBut b o hb e) nC c1 (.inr c2) c3 c4, rfl, q⟩⟩
end L2


set_option Elab.async false
set_option linter.all false
set_option maxRecDepth 100000
set_option maxHeartbeats 4000000
namespace L2
open PySem PySem.W PySem.Spec PySem.Calls PyProof.Rows
/-! ### d.clear() -/
/-! ### lists of what is alike -/
section
variable {X : Cx} {pins : List (Addr × Obj)} {σ : St} {H : Hp} {s : Shared}
end
end L2


set_option Elab.async false
set_option linter.all false
set_option maxRecDepth 100000
set_option maxHeartbeats 4000000
namespace L2
open PySem PySem.Spec PyProof.Rows
open Builtin Builtin.Str
/-! ### texts: startswith, split, join -/
section
variable {X : Cx}
theorem mt_starts : MtR X "str.startswith" (fun x xs H Q => ∃ a b, x = .str a ∧ xs = [.str b] ∧ Q (.bl (Txt.startswith a b)) H) := by
  intro pins s σ H x xs v us Q I rx rv h
  obtain ⟨a, b, rfl, rfl, q⟩ := h
  obtain ⟨t, rfl⟩ := rx
  obtain ⟨u, rfl, ru⟩ := rv.one
  obtain ⟨t2, rfl⟩ := ru
  exact SC.startswith ⟨.bl _, H, I, rfl, q⟩
theorem vals_strs : ∀ (tk : Nat) (xs : List Str), Vals (xs.map V.str) (strsFrom tk xs)
  | _, [] => .nil
  | tk, x :: r => .cons ⟨_, rfl⟩ (vals_strs (tk + 1) r)
theorem mt_split : MtR X "str.split" (fun x xs H Q => ∃ a b, x = .str a ∧ xs = [.str b] ∧ (b.length == 0) = false ∧ a.length < sizeLine ∧ ∀ l, H l = none → Q (.ref l) (upd H l (.lst ((Txt.split a b).map V.str)))) := by
  intro pins s σ H x xs v us Q I rx rv h
  obtain ⟨a, b, rfl, rfl, hb, ha, q⟩ := h
  obtain ⟨t, rfl⟩ := rx
  obtain ⟨u, rfl, ru⟩ := rv.one
  obtain ⟨t2, rfl⟩ := ru
  have hb1 : 1 ≤ b.length := by
    rcases Nat.eq_zero_or_pos b.length with e | e
    · rw [e] at hb; cases hb
    · exact e
  have hw := split_weight a b hb1
  cases h1 : (decide (a.length < b.length) || decide (strKind a < strKind b))
  · cases hf : (occurrences a b 0 a.length (a.length + 1)).isEmpty
    · have e : Txt.split a b = partsBetween a (occurrences a b 0 a.length (a.length + 1)) b.length := (if_neg (ne_true_of_eq_false h1)).trans (if_neg (ne_true_of_eq_false hf))
      rw [e] at hw q
      refine call_meets F.slot_str_split (typeIs_str _ _ _) F.entry_str_split (F.args_str_split_2 _ _) (meets_str_split_sep a b t t2 h1 hb hf (by omega) (by omega)) ?_
      exact ⟨.ref _, _, I.lnew (vals_strs _ _) (by rw [List.length_map]; omega), rfl, q _ I.fresh⟩
    · have e : Txt.split a b = [a] := (if_neg (ne_true_of_eq_false h1)).trans (if_pos hf)
      rw [e] at q
      exact call_meets F.slot_str_split (typeIs_str _ _ _) F.entry_str_split (F.args_str_split_2 _ _) (meets_str_split_not_found a b t t2 h1 hb hf)
        ⟨.ref _, _, I.lnew (t' := s.toks) (ys := [V.str a]) (its := [Value.str a t]) (.cons ⟨_, rfl⟩ .nil) (by show 1 ≤ _; decide), rfl, q _ I.fresh⟩
  · have e : Txt.split a b = [a] := if_pos h1
    rw [e] at q
    exact call_meets F.slot_str_split (typeIs_str _ _ _) F.entry_str_split (F.args_str_split_2 _ _) (meets_str_split_cannot_occur a b t t2 h1)
      ⟨.ref _, _, I.lnew (t' := s.toks) (ys := [V.str a]) (its := [Value.str a t]) (.cons ⟨_, rfl⟩ .nil) (by show 1 ≤ _; decide), rfl, q _ I.fresh⟩
theorem strs_vals : ∀ {ts : List Str} {its : List Value}, Vals (ts.map V.str) its → ∃ l : List (Str × Tok), its = strValues l ∧ l.map (·.1) = ts
  | [], its, h => by cases h; exact ⟨[], rfl, rfl⟩
  | t :: ts, its, h => by
    cases h with
    | cons a r =>
      obtain ⟨k, rfl⟩ := a
      obtain ⟨l, rfl, e⟩ := strs_vals r
      exact ⟨(t, k) :: l, rfl, by rw [List.map_cons, e]⟩
theorem mt_join : MtR X "str.join" (fun x xs H Q => ∃ a p ts, x = .str a ∧ xs = [.ref p] ∧ SqL X.K H p (ts.map V.str) ∧ JoinOk a ts = true ∧ Q (.str (Txt.join a ts)) H) := by
  intro pins s σ H x xs v us Q I rx rv h
  obtain ⟨a, p, ts, rfl, rfl, hp, hj, q⟩ := h
  obtain ⟨t, rfl⟩ := rx
  obtain ⟨u, rfl, ru⟩ := rv.one
  cases ru
  obtain ⟨its, hv, pl, _⟩ := I.list hp
  obtain ⟨l, rfl, e⟩ := strs_vals hv
  exact SC.join pl.isList e hj fun t' k => ⟨.str _, H, I.tok k, ⟨_, rfl⟩, q⟩
end
section
variable {X : Cx}
theorem call_int_txt : CallR X (.type "int") (fun xs H Q => ∃ (x : Str) (n : Int), xs = [.str x] ∧ x.length ≤ 640 ∧ PySem.intText? x = some n ∧ Q (.int n) H) := by
  intro pins s σ H xs us Q I r h
  obtain ⟨x, n, rfl, hl, hn, q⟩ := h
  obtain ⟨u, rfl, t, rfl⟩ := vals1 r
  exact PySem.W.KIN.call_text hn hl ⟨.int _, H, I.tok _, ⟨_, rfl⟩, q⟩
end
/-! ### what is split comes together as it was, and the other way -/
theorem app_inj {c : Nat} : ∀ {p q A B : List Nat}, c ∉ p → c ∉ q → p ++ c :: A = q ++ c :: B → p = q ∧ A = B
  | [], [], A, B, _, _, h => ⟨rfl, (List.cons.inj h).2⟩
  | [], y :: q, A, B, _, hq, h => absurd (List.mem_cons.mpr (.inl (List.cons.inj h).1)) hq
  | x :: p, [], A, B, hp, _, h => absurd (List.mem_cons.mpr (.inl (List.cons.inj h).1.symm)) hp
  | x :: p, y :: q, A, B, hp, hq, h => by
    have h := List.cons.inj h
    obtain ⟨e1, e2⟩ := app_inj (fun z => hp (List.mem_cons_of_mem _ z)) (fun z => hq (List.mem_cons_of_mem _ z)) h.2
    exact ⟨by rw [h.1, e1], e2⟩
theorem join_list {c : Nat} (x y : Str) (r : List Str) : (Str.join ⟨#[c]⟩ (x :: y :: r)).cps.toList = x.cps.toList ++ c :: (Str.join ⟨#[c]⟩ (y :: r)).cps.toList := by
  show (x ++ ⟨#[c]⟩ ++ Str.join ⟨#[c]⟩ (y :: r)).cps.toList = _
  show ((x.cps ++ #[c]) ++ (Str.join ⟨#[c]⟩ (y :: r)).cps).toList = _
  simp
theorem str_ext {x y : Str} (h : x.cps.toList = y.cps.toList) : x = y := by
  apply Str.ext'
  exact Array.toList_inj.mp h
theorem join_inj {c : Nat} : ∀ {ps qs : List Str}, ps ≠ [] → qs ≠ [] → (∀ p ∈ ps, c ∉ p.cps.toList) → (∀ p ∈ qs, c ∉ p.cps.toList) → Str.join ⟨#[c]⟩ ps = Str.join ⟨#[c]⟩ qs → ps = qs
  | [], _, h, _, _, _, _ => absurd rfl h
  | _ :: _, [], _, h, _, _, _ => absurd rfl h
  | [p], [q], _, _, _, _, e => by
    have e : p = q := e
    rw [e]
  | [p], q :: q2 :: r, _, _, hp, _, e => by
    have e1 : p.cps.toList = _ := (congrArg (fun x : Str => x.cps.toList) e).trans (join_list q q2 r)
    exact absurd (by rw [e1]; simp) (hp p (by simp))
  | p :: p2 :: r, [q], _, _, _, hq, e => by
    have e1 : q.cps.toList = _ := (congrArg (fun x : Str => x.cps.toList) e.symm).trans (join_list p p2 r)
    exact absurd (by rw [e1]; simp) (hq q (by simp))
  | p :: p2 :: r, q :: q2 :: r', _, _, hp, hq, e => by
    have e1 := congrArg (fun x : Str => x.cps.toList) e
    rw [join_list, join_list] at e1
    obtain ⟨a, b⟩ := app_inj (hp p (by simp)) (hq q (by simp)) e1
    rw [str_ext a, join_inj (by simp) (by simp) (fun z hz => hp z (List.mem_cons_of_mem _ hz)) (fun z hz => hq z (List.mem_cons_of_mem _ hz)) (str_ext b)]
theorem split_ne (x y : Str) : Txt.split x y ≠ [] := by
  intro h
  have e := StrLaws.join_split x y
  unfold Txt.split at h
  split at h
  · cases h
  · split at h
    · cases h
    · rw [StrLaws.partsBetween_eq] at h
      obtain ⟨p, q, e⟩ := StrLaws.partsFrom_ne x y.length 0 (occurrences x y 0 x.length (x.length + 1))
      rw [e] at h
      cases h
theorem split_join {c : Nat} {ts : List Str} (h : ts ≠ []) (hf : ∀ p ∈ ts, c ∉ p.cps.toList) : Txt.split (Txt.join ⟨#[c]⟩ ts) ⟨#[c]⟩ = ts := by
  have e : Txt.join ⟨#[c]⟩ ts = Str.join ⟨#[c]⟩ ts := StrLaws.glued_eq_join _ _
  rw [e]
  exact join_inj (split_ne _ _) h (StrLaws.split_free _ c) hf (StrLaws.join_split _ _)
end L2


set_option Elab.async false
set_option linter.all false
set_option maxRecDepth 100000
set_option maxHeartbeats 4000000
namespace L2
open PySem PySem.Spec PyProof.Rows
/-! ### a text walked, sign by sign -/
def chV (x : Str) (i : Nat) : Option V := (x.cps[i]?).map fun c => V.str ⟨#[c]⟩
def Its (x : Str) : It := ⟨fun i _ => i < x.cps.size, fun i H v H' => H' = H ∧ chV x i = some v, fun i _ => x.cps.size ≤ i⟩
theorem turn_ascii {P : Program} {w : World} {K : PySem.W.Frag} {tg : Expr} (x : Str) (t : Tok) (it : Addr) : Turn P w K tg (Its x) [it] it (fun i h => h.IsStrIter it "str_ascii_iterator" x t i) where
  mem := by simp
  obj := fun i h st b hb => by
    have e : b = it := by simpa using hb
    subst e
    obtain ⟨o, e, c, d⟩ := st
    exact ⟨o, e, fun v z => by rw [d] at z; cases z⟩
  keep := fun i h h' st k => by
    obtain ⟨o, e, r⟩ := st
    exact ⟨o, k it (by simp) o e, r⟩
  item := by
    intro X hP hw hK hc i pins s σ H E I hf st hg
    subst hP hw hK
    have hx : x.cps[i]? = some x.cps[i] := Array.getElem?_eq_getElem hg
    obtain ⟨f0, f1, f2, f3, f4, f5⟩ := hf it (by simp)
    refine wpAny_pyNext_ascii_item st hx fun h' st' sb => ?_
    have I1 : Inv X pins σ H { s with heap := h', toks := s.toks + 1 } := I.turned (t' := s.toks + 1) (fun b o hb e => (sb.2 b hb).trans e) f0 f1 f3 f4 f5
    obtain ⟨o, e, c, d⟩ := id st'
    exact ⟨_, rfl, go_of (s := { s with heap := h', toks := s.toks + 1 }) e c d (by decide) ⟨.str ⟨#[x.cps[i]]⟩, H, I1, ⟨_, rfl⟩, ⟨rfl, by unfold chV; rw [hx]; rfl⟩, st', fun b hb => (hf b hb).1⟩⟩
  done := by
    intro X hP hw hK hc i pins s σ H E I hf st hg
    subst hP hw hK
    obtain ⟨f0, f1, f2, f3, f4, f5⟩ := hf it (by simp)
    exact wpAny_pyNext_ascii_end (I.ok.hd hc) st (Array.getElem?_eq_none hg) fun h' eb => ⟨rfl, I.turned (t' := s.toks) (fun b o hb e => eb b o hb e) f0 f1 f3 f4 f5⟩
  self := fun _ _ _ _ _ st h => wpAny_pyIter_striter_ascii st h
section
variable {X : Cx} {tg : Expr}
def iStr (tl : TE) : TI := fun σ H R => tl σ H fun x H1 => ∃ z, x = .str z ∧ z.cps.all (· < 128) = true ∧ R (Its z) H1
theorem pi_str {l : Expr} {tl : TE} (hl : PE X l tl) : PI X tg l (iStr tl) := by
  intro pins s σ H R I h
  refine thn (hl pins s σ H _ I h) fun v s1 ⟨x, H1, I1, r1, q1⟩ => ?_
  obtain ⟨z, e, ha, q⟩ := q1
  subst e
  obtain ⟨t, rfl⟩ := r1
  refine wpAny_pyIter_ascii ha ?_
  refine ⟨s1.heap.objs.size, [s1.heap.objs.size], _, _, H1, rfl, I1.kept (t' := s1.toks) fun b o e => Heap.get?_push_of_some _ e, turn_ascii z t _, ⟨_, Heap.get?_push_size _ rfl, rfl, rfl⟩, fun b hb => ?_, q⟩
  have e : b = s1.heap.objs.size := by simpa using hb
  subst e
  exact I1.fpOk (Nat.le_refl _) (I1.hok.fresh (Nat.le_refl _))
end
theorem comp_str {x : Str} {g : TG} {tt : TT} {te : TE} {R : Hp → Prop} {D : Addr} {σ0 : St} {H0 : Hp} (Pv : Nat → St → List V → Hp → Prop) (h0 : Pv 0 σ0 [] H0)
    (hs : ∀ i v σ ys H, chV x i = some v → Pv i σ ys H → g v σ H fun σ2 H2 => tt σ2 H2 fun b H3 =>
      if b = true then te σ2 H3 fun v H4 => H4 D = some (.lst ys) ∧ ys.length < sizeLine ∧ Pv (i + 1) σ2 (ys ++ [v]) (upd H4 D (.lst (ys ++ [v]))) else Pv (i + 1) σ2 ys H3)
    (hd : ∀ σ ys H, Pv x.cps.size σ ys H → R H) :
    ∃ W : Nat → Nat → St → List V → Hp → Prop, (∃ m, W 0 m σ0 [] H0) ∧ ∀ i m σ ys H, W i m σ ys H →
      ((Its x).stop i H ∧ R H) ∨ ((Its x).go i H ∧ ∃ N : St → List V → Hp → Prop, (∀ σ' ys' H', N σ' ys' H' → ∃ m', m' < m ∧ W (i + 1) m' σ' ys' H') ∧ ∀ v H', (Its x).yld i H v H' → g v σ H' fun σ2 H2 => tt σ2 H2 fun b H3 =>
        if b = true then te σ2 H3 fun v H4 => H4 D = some (.lst ys) ∧ ys.length < sizeLine ∧ N σ2 (ys ++ [v]) (upd H4 D (.lst (ys ++ [v]))) else N σ2 ys H3) := by
  refine ⟨fun i m σ ys H => m = x.cps.size - i ∧ i ≤ x.cps.size ∧ Pv i σ ys H, ⟨x.cps.size, by simp, Nat.zero_le _, h0⟩, ?_⟩
  rintro i m σ ys H ⟨rfl, hi, p⟩
  by_cases hlt : i < x.cps.size
  · refine .inr ⟨hlt, Pv (i + 1), fun σ' ys' H' p' => ⟨x.cps.size - (i + 1), by omega, rfl, hlt, p'⟩, fun v H' y => ?_⟩
    obtain ⟨e, y⟩ := y
    subst e
    exact hs i v σ ys _ y p
  · have e : i = x.cps.size := by omega
    subst e
    exact .inl ⟨Nat.le_refl _, hd σ ys H p⟩
end L2


set_option Elab.async false
set_option linter.all false
set_option maxRecDepth 100000
set_option maxHeartbeats 4000000
namespace L2
open PySem PySem.Spec PyProof.Rows
open Builtin Builtin.Str
/-! ### text[lo:hi] -/
section
variable {X : Cx}
theorem sl_str : SlR X (fun x lo hi H Q => ∃ z : Str, x = .str z ∧ z.length ≤ sizeLine ∧ Q (.str (Txt.slice z lo hi)) H) := by
  intro pins s σ H x v vl vu lo hi sl Q I rx hs pl pu h
  obtain ⟨z, rfl, hz, q⟩ := h
  obtain ⟨t, rfl⟩ := rx
  have fin : ∀ (l u : Option (Int × Tok)), Txt.slice z (l.map (·.1)) (u.map (·.1)) = Txt.slice z lo hi → s.heap.IsSlice sl l u none → wpAny (model X.prog X.w) X.A (getItem (.str z t) (.ref sl)) (EP X pins σ Q) X.xe s := fun l u e hS => by
    refine wpAny_getItem_str_slice hS rfl ?_
    refine post_val_or_str ⟨Nat.le_trans (Txt.slice_le z _ _) hz, fun t' k => ?_⟩
    exact ⟨.str _, H, I.tok k, ⟨_, rfl⟩, by rw [← e] at q; exact q⟩
  cases pl with
  | none =>
    cases pu with
    | none => exact ⟨"str", _, F.slot_str_getitem.lookup, typeIs_str _ _ _, fin none none rfl hs⟩
    | int j tj => exact ⟨"str", _, F.slot_str_getitem.lookup, typeIs_str _ _ _, fin none (some (j, tj)) rfl hs⟩
  | int i ti =>
    cases pu with
    | none => exact ⟨"str", _, F.slot_str_getitem.lookup, typeIs_str _ _ _, fin (some (i, ti)) none rfl hs⟩
    | int j tj => exact ⟨"str", _, F.slot_str_getitem.lookup, typeIs_str _ _ _, fin (some (i, ti)) (some (j, tj)) rfl hs⟩
end
end L2


set_option Elab.async false
set_option linter.all false
set_option maxRecDepth 100000
set_option maxHeartbeats 4000000
namespace L2
open PySem PySem.W PySem.Spec PySem.Calls PyProof.Rows
/-- name = [..], the name a local one, a part may raise -/
theorem ps_compX {P : Program} {w : World} {K : PySem.W.Frag} {mg : Str → Option Value} {base : Heap} {N : List Str} {qual : Str} {sc : Scope} {f : Addr} {cd : Value} {A : Around} {outer : List Env} {s₀ : Shared} {H₀ : Hp} {E : XK}
    {elt tg iter : Expr} {ifs : List Expr} {scope : Scope} {pos spos py : Pos} {y : Str} {i : Nat} {wi : TI} {g : TG} {tt : TT} {te : TE} {N' : List Str} {fr : List (Option Nat)} (hN : N.Nodup) (hy : N[i]? = some y) (hl : (cxOf (CX2 P w) P w K mg base N qual sc f cd A outer s₀ H₀ E).env.scope.names.lookup y = some .local)
    (S : CompSc sc scope N N' fr) (hi : PI (cxOf (CX2 P w) P w K mg base N qual sc f cd A outer s₀ H₀ E) tg iter wi)
    (hg : ∀ C s0 H0 fp, PG (cxCompX (cxOf (CX2 P w) P w K mg base N qual sc f cd A outer s₀ H₀ E) E scope C N' s0 H0 fp) tg g) (ht : ∀ C s0 H0 fp, PTs (cxCompX (cxOf (CX2 P w) P w K mg base N qual sc f cd A outer s₀ H₀ E) E scope C N' s0 H0 fp) ifs tt) (he : ∀ C s0 H0 fp, PE (cxCompX (cxOf (CX2 P w) P w K mg base N qual sc f cd A outer s₀ H₀ E) E scope C N' s0 H0 fp) elt te)
    (hs : ∀ x, foldedSetIterable iter (cxOf (CX2 P w) P w K mg base N qual sc f cd A outer s₀ H₀ E).env x = pure x := by intro _; rfl)
    (hsw : swapsWith (.ListComp elt [⟨tg, iter, ifs, 0⟩] scope pos) (some (.Name y py)) spos.line (cxOf (CX2 P w) P w K mg base N qual sc f cd A outer s₀ H₀ E).env = pure true := by rfl) :
    PS (cxOf (CX2 P w) P w K mg base N qual sc f cd A outer s₀ H₀ E) (.Assign [.Name y py] (.ListComp elt [⟨tg, iter, ifs, 0⟩] scope pos) spos) (tAsg (tComp fr wi g tt te) (gName i)) := by
  intro pins s σ H D I h
  generalize hX : cxOf (CX2 P w) P w K mg base N qual sc f cd A outer s₀ H₀ E = X at *
  rw [exec_Assign_Name_used _ _ _ _ hsw]
  refine wpAny_bind (wpAny_standAt (wpAny_bind ?_))
  show wpAny _ X.A (do let _ ← comprehension (.ListComp elt [⟨tg, iter, ifs, 0⟩] scope pos) scope X.env _ (newList []) false (eval iter X.env) (some (assign (.Name y py) X.env))) _ _ s
  subst hX
  refine wpAny_bind (thn (comp_runX (L := (envOfC qual sc s₀.heap.objs.size f cd).locals) rfl rfl rfl (fun _ _ h => h) S rfl hi hg ht he hs I h (some (assign (.Name y py) (cxOf (CX2 P w) P w K mg base N qual sc f cd A outer s₀ H₀ E).env)) (fun _ s' => SP (cxOf (CX2 P w) P w K mg base N qual sc f cd A outer s₀ H₀ E) pins D .next s') fun L C H5 s6 IX q nC c1 c2 c3 c4 hm => ?_) fun _ s' hq => wpAny_pure (wpAny_pure hq))
  obtain ⟨m, hm⟩ := hm
  show wpAny _ (cxOf (CX2 P w) P w K mg base N qual sc f cd A outer s₀ H₀ E).A (assign (.Name y py) (cxOf (CX2 P w) P w K mg base N qual sc f cd A outer s₀ H₀ E).env (.ref L)) _ _ _
  refine wpAny_assign_Name (store_ok2 IX hN hy (.inl hl) (show RelV (.ref L) (Value.ref L) from rfl) (fun s7 I7 hch => ?_) (.inr hl))
  obtain ⟨a, hsb, ha⟩ := hch
  have hCa : C ≠ a := by
    rcases ha with ha | ha
    · rw [ha]; exact c1
    · exact (c3 _ _ ha).symm
  refine ⟨m, hm.at' (fun o e => (hsb.2 C hCa).trans e), fun h' hs' => ⟨_, H5, I7.turned (t' := s7.toks) (it := C) (fun b o hb e => hs'.extBut b o hb e) nC c1 (.inr c2) c3 c4, q⟩⟩
/-! ### the call of what an expression tells, which may raise; for comprehensions too: nothing of the context is left in the reading -/
def tCallEC (P : Program) (w : World) (K : PySem.W.Frag) (mg : Str → Option Value) (base : Heap) (C : CXT) (E : XK) (k : Nat) (te : TE) (t : TA) : TE := fun σ H Q => te σ H fun x H1 => ∃ (f : Addr) (fd : FuncData) (ps : List Str) (sp : Sp), x = .ref f ∧ FnOk P w K mg base C k f fd ps sp ∧ Binds K fd ps [] ∧ PySem.W.keepIn K (.ref f) = true ∧
  t σ H1 fun vs H2 => sp (vs ++ []) H2 Q E
section
variable {X : Cx} {P : Program} {w : World} {K : PySem.W.Frag} {mg : Str → Option Value} {base : Heap} {C : CXT} {E : XK} {k : Nat} {e a : Expr} {es : List Expr} {pos : Pos} {te : TE} {t : TA}
theorem pe_callEC (he : PE X e te) (hr : Room k X.A) (hx : Passes C X E) (ha : PA X (a :: es) t)
    (ht : eval (.Call e (a :: es) [] pos) X.env = (do callWith pos (← eval e X.env) [] (backTo pos (starEach (a :: es) X.env)) (backToKw pos (keywordEach [] X.env))) := by rfl)
    (hst : starEach (a :: es) X.env = (false, eval a X.env) :: starEach es X.env := by rfl) (hpl : (backTo pos (starEach es X.env)).any (·.1) = false := by rfl)
    (hP : X.prog = P := by rfl) (hw : X.w = w := by rfl) (hK : X.K = K := by rfl) (hm : X.mg = mg := by rfl) (hb : X.base = base := by rfl) :
    PE X (.Call e (a :: es) [] pos) (tCallEC P w K mg base C E k te t) := by
  subst hP hw hK hm hb
  intro pins s σ H Q I h
  rw [ht]
  refine wpAny_bind (thn (he pins s σ H _ I h) fun u s1 ⟨x, H1, I1, rx, f, fd, ps, sp, ex, F, hb, hk, q⟩ => ?_)
  subst ex
  obtain rfl : u = Value.ref f := rx
  refine PySem.W.callWith_K (h₀ := X.base) I1.ok.mod.kin hk (thn (ha pos pins s1 σ H1 _ I1 q) fun us s2 ⟨vs, H2, I2, r, q2⟩ => ⟨I2.kIn, ?_⟩) hst hpl
  exact run_fn F hr hb .nil hx I2 r q2
theorem pe_kgetK {o i : Expr} {pos : Pos} {td ty : TE} {pr : Params} (ho : PE X o td) (hi : PE X i ty) (hs : NoSl i) (hK : X.K = K := by rfl) (hp : X.w.params = pr := by rfl) : PE X (.Subscript o i pos) (tKGet K pr td ty) := by
  subst hK hp
  exact pe_kget ho hi hs
end
end L2


set_option Elab.async false
set_option linter.all false
set_option maxRecDepth 100000
set_option maxHeartbeats 4000000
namespace L2
open PySem PySem.W PySem.Spec PySem.Calls PyProof.Rows
/-! ### dict == dict, dict != dict: the same keys in the same order, things of any depth -/
theorem valueAt_at {us : List (Key × Value)} (hn : (us.map (·.1)).Nodup) {k : Key} {y : Value} : ∀ {j : Nat}, us[j]? = some (k, y) → valueAt us k = some y := by
  intro j hj
  have hmem : (k, y) ∈ us := List.mem_of_getElem? hj
  unfold valueAt
  have hf : ∀ (l : List (Key × Value)), (l.map (·.1)).Nodup → (k, y) ∈ l → l.find? (fun kv => decide (kv.1 = k)) = some (k, y) := by
    intro l
    induction l with
    | nil => intro _ h; simp at h
    | cons x l ih =>
      intro hnd hx
      rw [List.map_cons, List.nodup_cons] at hnd
      rcases List.mem_cons.mp hx with rfl | hx
      · simp
      · have ne : ¬ x.1 = k := fun z => hnd.1 (by rw [z]; exact List.mem_map.mpr ⟨_, hx, rfl⟩)
        rw [List.find?_cons_of_neg (by simpa using ne)]
        exact ih hnd.2 hx
  rw [hf us hn hmem]
  rfl
section
variable {X : Cx} {pins : List (Addr × Obj)} {σ : St} {H : Hp} {s : Shared} {A : Around}
theorem hits_da {n : Nat} (hu : A.units + n < cLine) (I : Inv X pins σ H s) {ub : List (Key × Value)} (hn : (ub.map (·.1)).Nodup) :
    ∀ (ka kb : List (Key × V)) (ua : List (Key × Value)) (ds es : List Da) (o : Nat), KV ka ua → KV kb (ub.drop o) → ka.map (·.1) = kb.map (·.1) → HDs H (ka.map (·.2)) ds → HDs H (kb.map (·.2)) es → (∀ d ∈ ds, d.Nb n) → (∀ d ∈ es, d.Nb n) → KeqHits A s ub ua (Da.beqs ds es)
  | [], [], _, _, _, _, .nil, _, _, .nil, .nil, _, _ => .nil
  | [], _ :: _, _, _, _, _, _, _, h, _, _, _, _ => by simp at h
  | _ :: _, [], _, _, _, _, _, _, h, _, _, _, _ => by simp at h
  | (k, x) :: ka, (k', y) :: kb, _, _, _, o, r1, r2, hk, h1, h2, n1, n2 => by
    rw [List.map_cons, List.map_cons] at hk
    obtain ⟨e1, e2⟩ := List.cons.inj hk
    simp only at e1
    subst e1
    generalize hub : ub.drop o = ud at r2
    cases r1 with
    | @cons _ u _ ua hu1 r1 =>
    cases r2 with
    | @cons _ v _ uc hv1 r2 =>
    cases h1 with
    | @cons _ d _ ds hd1 h1 =>
    cases h2 with
    | @cons _ e _ es he1 h2 =>
    obtain ⟨u1, u2⟩ := u
    obtain ⟨v1, v2⟩ := v
    obtain ⟨a1, a2⟩ := hu1
    obtain ⟨b1, b2⟩ := hv1
    simp only at a1 a2 b1 b2
    subst a1 b1
    have hat : ub[o]? = some (k, v2) := by
      have : (ub.drop o)[0]? = some (k, v2) := by rw [hub]; rfl
      rwa [List.getElem?_drop, Nat.add_zero] at this
    have hdr : ub.drop (o + 1) = uc := by
      rw [← List.drop_drop, hub]; rfl
    have h3 := da_at (A := A) hu I (hd1.da X.K) (he1.da X.K) (n1 d (by simp)) (n2 e (by simp)) a2 b2
    have e3 : decide (d = e) = Da.beq d e := by
      by_cases c : d = e
      · rw [decide_eq_true c, (Da.beq_iff d e).mpr c]
      · rw [decide_eq_false c]
        symm
        rw [Bool.eq_false_iff]
        exact fun z => c ((Da.beq_iff d e).mp z)
    rw [e3] at h3
    have r := hits_da hu I hn ka kb ua ds es (o + 1) r1 (by rw [hdr]; exact r2) e2 h1 h2 (fun d hd => n1 d (by simp [hd])) (fun d hd => n2 d (by simp [hd]))
    exact KeqHits.hit (valueAt_at hn hat) h3 r
end
def rEqDK (ne : Bool) : R2 := fun x y H Q => ∃ (p q : Addr) (ka kb : List (Key × V)) (ds es : List Da) (n : Nat), x = .ref p ∧ y = .ref q ∧ H p = some (.dK ka) ∧ H q = some (.dK kb) ∧ ka.map (·.1) = kb.map (·.1) ∧ HDs H (ka.map (·.2)) ds ∧ HDs H (kb.map (·.2)) es ∧ (∀ d ∈ ds, d.Nb n) ∧ (∀ d ∈ es, d.Nb n) ∧ n ≤ 5 ∧ Q (.bl (ne ^^ decide (ds = es))) H
theorem op_neDK {X : Cx} (hu : X.A.units + 6 < cLine) : OpR X (compareOp .NotEq) (rEqDK true) := by
  intro pins s σ H x y v u Q I rx ry h
  obtain ⟨p, q, ka, kb, ds, es, n, rfl, rfl, hp, hq, hk, h1, h2, n1, n2, hn, k⟩ := h
  cases rx
  cases ry
  obtain ⟨_, y1, va, r1, d1⟩ := dk_of I.hok hp
  obtain ⟨_, y2, vb, r2, d2⟩ := dk_of I.hok hq
  have hnb : (vb.map (·.1)).Nodup := by
    obtain ⟨_, _, _, _, _, _, _, _, hn⟩ := d2
    exact hn
  have la := r1.length
  have lb := r2.length
  have lk : ka.length = kb.length := by have := congrArg List.length hk; simpa using this
  refine keq_ne y1 y2 d1 d2 (by omega) (r := Da.beqs ds es) (fun _ => hits_da (A := X.A.in1) (n := n) (by show X.A.units + 1 + n < cLine; omega) I hnb ka kb va ds es 0 r1 (by rw [List.drop_zero]; exact r2) hk h1 h2 n1 n2) ?_
  have e3 : (va.length == vb.length && Da.beqs ds es) = decide (ds = es) := by
    have : (va.length == vb.length) = true := by simp; omega
    rw [this, Bool.true_and]
    by_cases c : ds = es
    · rw [decide_eq_true c, (Da.beqs_iff ds es).mpr c]
    · rw [decide_eq_false c, Bool.eq_false_iff]
      exact fun z => c ((Da.beqs_iff ds es).mp z)
  rw [e3]
  rw [Bool.true_xor] at k
  exact ⟨.bl _, H, I, rfl, k⟩
/-- str(x) of an int or None -/
theorem call_strO {X : Cx} : CallR X (.type "str") (fun xs H Q => (∃ i, xs = [.int i] ∧ i.natAbs.log2 < 1920 ∧ Q (.str (toString i)) H) ∨ (xs = [.non] ∧ Q (.str "None") H)) := by
  intro pins s σ H xs us Q I r h
  rcases h with ⟨i, rfl, hz, q⟩ | ⟨rfl, q⟩
  · obtain ⟨u, rfl, t, rfl⟩ := vals1 r
    exact PySem.P.str_of_int hz ⟨.str _, H, I.tok _, ⟨_, rfl⟩, q⟩
  · obtain ⟨u, rfl, r1⟩ := vals1 r
    obtain rfl : u = Value.none := r1
    exact PySem.P.str_of_none ⟨.str _, H, I.tok _, ⟨_, rfl⟩, q⟩
end L2


set_option Elab.async false
set_option linter.all false
set_option maxRecDepth 100000
set_option maxHeartbeats 4000000
namespace L2
open PySem PySem.W PySem.Spec PySem.Calls PyProof.Rows
open Builtin Builtin.Str
/-! ### str.find; x in a list of things of any depth; == of what is an int or a dict -/
theorem mt_find {X : Cx} : MtR X "str.find" (fun x xs H Q => ∃ a b, x = .str a ∧ xs = [.str b] ∧ Q (.int (Txt.find a b)) H) := by
  intro pins s σ H x xs v us Q I rx rv h
  obtain ⟨a, b, rfl, rfl, q⟩ := h
  obtain ⟨t, rfl⟩ := rx
  obtain ⟨u, rfl, ru⟩ := rv.one
  obtain ⟨t2, rfl⟩ := ru
  exact SC.find ⟨.int _, H, I.tok _, ⟨_, rfl⟩, q⟩
section
variable {X : Cx} {pins : List (Addr × Obj)} {σ : St} {H : Hp} {s : Shared}
open Classical in
noncomputable def sameD (K : PySem.W.Frag) (H : Hp) (d : Da) (w : Value) : Bool := decide (∃ a, w = .ref a ∧ DaAt K H (.ref a) d)
theorem sameD_t {K : PySem.W.Frag} {d : Da} {w : Value} (h : ∃ a, w = .ref a ∧ DaAt K H (.ref a) d) : sameD K H d w = true := by
  unfold sameD
  exact @decide_eq_true _ (Classical.propDecidable _) h
theorem sameD_f {K : PySem.W.Frag} {d : Da} {w : Value} (h : ¬ ∃ a, w = .ref a ∧ DaAt K H (.ref a) d) : sameD K H d w = false := by
  unfold sameD
  exact @decide_eq_false _ (Classical.propDecidable _) h
theorem any_da (I : Inv X pins σ H s) {d : Da} : ∀ {xs : List V} {us : List Value} {ds : List Da}, Vals xs us → HDs H xs ds → (∀ x ∈ xs, ∃ a, x = .ref a) → us.any (sameD X.K H d) = decide (d ∈ ds)
  | _, _, _, .nil, .nil, _ => rfl
  | _, _, _, .cons (l₂ := us) (b := u) r t, .cons (d := e) (ds := ds) h g, hr => by
    obtain ⟨a, rfl⟩ := hr _ List.mem_cons_self
    have hu : u = Value.ref a := r
    subst hu
    have ih := any_da I (d := d) t g fun x hx => hr x (by simp [hx])
    rw [List.any_cons, ih]
    have e1 : sameD X.K H d (.ref a) = decide (d = e) := by
      by_cases c : d = e
      · subst c
        rw [decide_eq_true rfl]
        exact sameD_t ⟨a, rfl, h.da X.K⟩
      · rw [decide_eq_false c]
        refine sameD_f ?_
        rintro ⟨b, eb, hb⟩
        cases eb
        exact c (da_one I hb (h.da X.K))
    rw [e1]
    by_cases c : d = e
    · simp [c]
    · simp [c]
end
def rInA (K : PySem.W.Frag) : R2 := fun x y H Q => ∃ (q p : Addr) (xs : List V) (d : Da) (ds : List Da) (n : Nat), x = .ref q ∧ y = .ref p ∧ H p = some (.lst xs) ∧ HD H x d ∧ HDs H xs ds ∧ (∀ x ∈ xs, ∃ a, x = .ref a) ∧ d.Nb n ∧ (∀ e ∈ ds, e.Nb n) ∧ n ≤ 5 ∧ Q (.bl (decide (d ∈ ds))) H
theorem op_inA {X : Cx} (hu : X.A.units + 6 < cLine) : OpR X (compareOp .In) (rInA X.K) := by
  intro pins s σ H x y v u Q I rx ry h
  obtain ⟨q, p, xs, d, ds, n, rfl, rfl, hp, hd, hs, hr, nd, nds, hn, k⟩ := h
  cases ry
  obtain ⟨its, r, pl, hz⟩ := I.list (SqL.of hp)
  have key := any_da I (d := d) r hs hr
  refine SeqAt.in_listAt (sameD X.K H d) pl.isList (fun w hw => ?_) ⟨.bl _, H, I, rfl, ?_⟩
  · have hw : w ∈ its := by simpa using hw
    obtain ⟨j, hj, ej⟩ := List.getElem_of_mem hw
    have hl := r.length
    have hx : xs[j]? = some xs[j] := List.getElem?_eq_getElem (by omega)
    have hdl := hs.len
    have he : ds[j]? = some ds[j] := List.getElem?_eq_getElem (by omega)
    obtain ⟨w', hw', rw'⟩ := r.get hx
    have ew : w' = w := by
      rw [List.getElem?_eq_getElem hj, ej] at hw'
      exact (Option.some.inj hw').symm
    subst ew
    obtain ⟨a, ea⟩ := hr xs[j] (List.getElem_mem _)
    have h1 := hs.get j _ _ hx he
    have h2 := da_at (A := X.A.in1) (n := n) (by show X.A.units + 1 + n < cLine; omega) I (h1.da X.K) (hd.da X.K) (nds _ (List.getElem_mem _)) nd rw' rx
    have e1 : sameD X.K H d w' = decide (ds[j] = d) := by
      have rw' := rw'
      rw [ea] at rw' h1
      have ew : w' = Value.ref a := rw'
      subst ew
      by_cases c : ds[j] = d
      · rw [decide_eq_true c]
        exact sameD_t ⟨a, rfl, c ▸ h1.da X.K⟩
      · rw [decide_eq_false c]
        refine sameD_f ?_
        rintro ⟨b, eb, hb⟩
        cases eb
        exact c (da_one I (h1.da X.K) hb)
    rw [e1]
    exact h2
  · rw [show its.toArray.any (sameD X.K H d) = its.any (sameD X.K H d) by simp, key]
    exact k
/-- two ints, or two dicts as in rEqDK -/
def rNeW : R2 := fun x y H Q => (∃ i j, x = .int i ∧ y = .int j ∧ Q (.bl (!decide (i = j))) H) ∨ rEqDK true x y H Q
theorem op_neW {X : Cx} (hu : X.A.units + 6 < cLine) : OpR X (compareOp .NotEq) rNeW := by
  intro pins s σ H x y v u Q I rx ry h
  rcases h with ⟨i, j, rfl, rfl, q⟩ | h
  · refine op_ne pins s σ H _ _ v u Q I rx ry ⟨rfl, ?_⟩
    have e : decide (V.int i = V.int j) = decide (i = j) := by
      by_cases c : i = j
      · subst c; simp
      · rw [decide_eq_false c, decide_eq_false (fun z => c (V.int.inj z))]
    rw [e]
    exact q
  · exact op_neDK hu pins s σ H _ _ v u Q I rx ry h
end L2


set_option Elab.async false
set_option linter.all false
set_option maxRecDepth 100000
set_option maxHeartbeats 4000000
namespace My
open PySem L2
def top (i : Nat) : Stmt := PySem.Challenge.pw_widenrows_k76_texts_of_no_paper.main.body.getD i (.Pass ⟨0, 0, 0, 0⟩)
abbrev s_is_whole : Stmt := top 8
abbrev s_is_number_of : Stmt := top 9
abbrev s_is_figures : Stmt := top 12
abbrev s_read_number : Stmt := top 13
abbrev s_read_number_of : Stmt := top 18
abbrev s_read_lead : Stmt := top 19
abbrev s_read_form : Stmt := top 20
abbrev s_read_boxes : Stmt := top 21
abbrev s_read_count : Stmt := top 22
abbrev s_read_things : Stmt := top 24
abbrev s_read_paper : Stmt := top 25
abbrev s_law_cell_at : Stmt := top 27
abbrev s_law_draws : Stmt := top 28
abbrev s_law_leads : Stmt := top 29
abbrev s_law_boxes : Stmt := top 30
abbrev s_law_paper : Stmt := top 31
abbrev s_law_text : Stmt := top 32
abbrev s_law_number : Stmt := top 33
abbrev s_law_thing : Stmt := top 34
abbrev s_law_due : Stmt := top 35
abbrev s_law_told : Stmt := top 36
abbrev s_law_by_word : Stmt := top 37
abbrev s_law_by_row : Stmt := top 38
abbrev s_law_bent : Stmt := top 39
abbrev s_law : Stmt := top 40
theorem bt_list : bootBuiltins "list" = some (.type "list") := by decide +kernel
theorem bt_tuple : bootBuiltins "tuple" = some (.type "tuple") := by decide +kernel
theorem bt_set : bootBuiltins "set" = some (.type "set") := by decide +kernel
theorem bt_bool : bootBuiltins "bool" = some (.type "bool") := by decide +kernel
theorem bt_len : bootBuiltins "len" = some (.builtin "len") := by decide +kernel
theorem bt_sorted : bootBuiltins "sorted" = some (.builtin "sorted") := by decide +kernel
theorem bt_isi : bootBuiltins "isinstance" = some (.builtin "isinstance") := by decide +kernel
theorem at0 {α : Type} (a : α) (r : List α) : atI (a :: r) 0 = some a := atI_nat (j := 0) rfl
theorem at1 {α : Type} (a b : α) (r : List α) : atI (a :: b :: r) 1 = some b := atI_nat (j := 1) rfl
/-! ### words -/
theorem same_new {H : Hp} {l : Addr} {o : HO} (h : H l = none) : Same H (upd H l o) := fun b u e => by
  rw [upd_ne (ne_of_none e h)]
  exact e
theorem bt_int : bootBuiltins "int" = some (.type "int") := by decide +kernel
theorem bt_str : bootBuiltins "str" = some (.type "str") := by decide +kernel
theorem bt_all : bootBuiltins "all" = some (.builtin "all") := by decide +kernel
theorem bt_max : bootBuiltins "max" = some (.builtin "max") := by decide +kernel
theorem bt_min : bootBuiltins "min" = some (.builtin "min") := by decide +kernel
/-! ### small steps of a reading -/
theorem same_put {H H1 : Hp} {l : Addr} {o : HO} (e : Same H H1) (h : H l = none) : Same H (upd H1 l o) := fun b u z => by
  rw [upd_ne (ne_of_none z h)]
  exact e b u z
theorem kit_ty {K : PySem.W.Frag} {a b : String} {r : Bool} (h1 : (Value.type a == Value.type b) = false) (h2 : PySem.W.kitMeta b = true) (h3 : (fastBuiltinMro a).map (·.contains (Value.type b)) = some r) : PySem.W.kitOne K (.type a) (.type b) = some r := by
  unfold PySem.W.kitOne
  rw [if_neg (by rw [h1]; decide)]
  show (if PySem.W.kitMeta b = true then (fastBuiltinMro a).map (·.contains (Value.type b)) else none) = some r
  rw [if_pos h2]
  exact h3
theorem kit_eq {K : PySem.W.Frag} {a : String} (h : (Value.type a == Value.type a) = true) : PySem.W.kitOne K (.type a) (.type a) = some true := by
  unfold PySem.W.kitOne
  rw [if_pos h]
theorem k_int_bool {K : PySem.W.Frag} : PySem.W.kitOne K (.type "int") (.type "bool") = some false := kit_ty (by decide) (by decide +kernel) (by decide +kernel)
/-- what the walk asks of the module -/
structure Txt (K : PySem.W.Frag) (pr : Params) (mg : Str → Option Value) : Prop where
  g_BOUNDS : ∃ p, mg "BOUNDS" = some (.ref p) ∧ KLit K pr p ∧ (∃ q, KHas K pr p "box" (some (.ref q)) ∧ ∀ H, SqT K H q [.int 0, .int 7]) ∧ (∃ q, KHas K pr p "aside" (some (.ref q)) ∧ ∀ H, SqT K H q [.int 0, .int 1000000]) ∧ (∃ q, KHas K pr p "target" (some (.ref q)) ∧ ∀ H, SqT K H q [.int 0, .int 1000000000]) ∧ (∃ q, KHas K pr p "number" (some (.ref q)) ∧ ∀ H, SqT K H q [.int 0, .int 1000000]) ∧ (∃ q, KHas K pr p "value" (some (.ref q)) ∧ ∀ H, SqT K H q [.int (-1000000000), .int 1000000000]) ∧ (∃ q, KHas K pr p "far" (some (.ref q)) ∧ ∀ H, SqT K H q [.int 0, .int 1])
  g_FIGURES : ∃ t, mg "FIGURES" = some (.str "0123456789" t)
  g_NAMES : ∃ p, mg "NAMES" = some (.ref p) ∧ ∀ H, SqT K H p [.str "leads", .str "forms", .str "free", .str "counts"]
  g_NOTHING : ∃ t, mg "NOTHING" = some (.str "-" t)
  g_MOST_FIGURES : ∃ t, mg "MOST_FIGURES" = some (.int (10) t)
  g_READERS : ∃ p, mg "READERS" = some (.ref p) ∧ KLit K pr p ∧ (∃ q, mg "read_lead" = some (.ref q) ∧ KHas K pr p "leads" (some (.ref q))) ∧ (∃ q, mg "read_form" = some (.ref q) ∧ KHas K pr p "forms" (some (.ref q))) ∧ (∃ q, mg "read_boxes" = some (.ref q) ∧ KHas K pr p "free" (some (.ref q))) ∧ (∃ q, mg "read_count" = some (.ref q) ∧ KHas K pr p "counts" (some (.ref q)))
  len : mg "len" = none
  list : mg "list" = none
  tuple : mg "tuple" = none
  int : mg "int" = none
  bool : mg "bool" = none
  str : mg "str" = none
  dict : mg "dict" = none
  isi : mg "isinstance" = none
  enum : mg "enumerate" = none
  range : mg "range" = none
  min : mg "min" = none
  max : mg "max" = none
  all : mg "all" = none
  sorted : mg "sorted" = none
  set : mg "set" = none
def isStar : Expr → Bool
  | .Starred _ _ => true
  | _ => false
theorem star_no {e : Expr} {es : List Expr} {env : Env} (h : isStar e = false) : starEach (e :: es) env = (false, eval e env) :: starEach es env := starEach.eq_3 _ _ _ (fun e1 p h1 => by rw [h1] at h; cases h)
/-! ### a display of many things: its parts shut off one by one -/
inductive PAs (X : Cx) : List Expr → List TE → Prop where
  | nil : PAs X [] []
  | cons {e : Expr} {te : TE} {es : List Expr} {ts : List TE} (h : PE X e te) (r : PAs X es ts) (hs : isStar e = false := by rfl) : PAs X (e :: es) (te :: ts)
def tAll : List TE → TA
  | [] => tNil
  | te :: ts => tCons te (tAll ts)
theorem PAs.pa {X : Cx} {es : List Expr} {ts : List TE} (h : PAs X es ts) : PA X es (tAll ts) := by
  induction h with
  | nil => exact pa_nil
  | cons h r hs ih => exact pa_cons h ih (star_no hs)
theorem pe_lstS {X : Cx} {es : List Expr} {ts : List TE} {pos : Pos} (h : PAs X es ts) : PE X (.List es pos) (tLst (tAll ts)) := pe_lst h.pa
/-! ### a display of many constants: shut off, else the reading of the goal runs through it -/
@[irreducible] def PEi (X : Cx) (e : Expr) (t : TE) : Prop := PE X e t
@[irreducible] def PSi (X : Cx) (e : Stmt) (t : TS) : Prop := PS X e t
theorem pei_lst {X : Cx} {es : List Expr} {ts : List TE} {pos : Pos} (h : PAs X es ts) : PEi X (.List es pos) (tLst (tAll ts)) := by
  unfold PEi
  exact pe_lst h.pa
theorem psi_set {X : Cx} {pos : Pos} {i : Nat} {x : Str} {e : Expr} {te : TE} {pos' : Pos} (hN : X.N.Nodup) (hi : X.N[i]? = some x) (hx : Loc X.env.scope x) (he : PEi X e te) (hs : swapsWith e (some (.Name x pos')) pos.line X.env = pure false := by rfl) (hf : X.fn x = true ∨ X.env.scope.names.lookup x = some .local := by first | exact .inl rfl | exact .inr rfl | assumption) :
    PSi X (.Assign [.Name x pos'] e pos) (tAsg te (gName i)) := by
  unfold PEi at he
  unfold PSi
  exact ps_set hN hi hx he hs hf
theorem psx_of_i {X : Cx} {st : Stmt} {t : TS} (h : PSi X st t) : PSx X st t := by
  unfold PSi at h
  exact psx_of h
theorem iteP {c A B : Prop} [Decidable c] (h : c) (a : A) : if c then A else B := by rw [if_pos h]; exact a
theorem iteN {c A B : Prop} [Decidable c] (h : ¬ c) (b : B) : if c then A else B := by rw [if_neg h]; exact b
theorem small_len {n : Nat} (h : n ≤ 1000000) : n ≤ sizeLine := Nat.le_trans h (by decide)
theorem small_lt {n : Nat} (h : n ≤ 1000000) : n < sizeLine := Nat.lt_of_le_of_lt h (by decide)
theorem pg_two {X : Cx} {K : PySem.W.Frag} (hK : X.K = K) {i j : Nat} {x y : Str} {px py pt : Pos} {k : Nat} (hc : X.calm = true) (hN : X.N.Nodup) (hi : X.N[i]? = some x) (hx : Loc X.env.scope x) (hj : X.N[j]? = some y) (hy : Loc X.env.scope y)
    (hf : X.fn x = true ∨ X.env.scope.names.lookup x = some .local := by first | exact .inl rfl | exact .inr rfl) (hf2 : X.fn y = true ∨ X.env.scope.names.lookup y = some .local := by first | exact .inl rfl | exact .inr rfl) :
    PG X (.Tuple [.Name x px, .Name y py] k pt) (gTup K 2 (gCons (gName i) (gCons (gName j) gNil))) := hK ▸ pg_tup (n := 2) hc (pgs_cons (pg_name hN hi hx hf) (pgs_cons (pg_name hN hj hy hf2) pgs_nil))
end My


set_option Elab.async false
set_option linter.all false
set_option maxRecDepth 100000
set_option maxHeartbeats 4000000
namespace My
open PySem L2
def tyD : Da → String
  | .non => "NoneType"
  | .bl _ => "bool"
  | .int _ => "int"
  | .str _ => "str"
  | .tup _ => "tuple"
  | .lst _ => "list"
theorem _root_.L2.HD.ty {K : PySem.W.Frag} {H : Hp} {v : V} {d : Da} (h : HD H v d) : TyOf K H v (.type (tyD d)) := by
  cases h with
  | non => exact .non
  | bl b => exact .bl b
  | int i => exact .int i
  | str x => exact .str x
  | tup h l e => exact .tup h
  | lst h l e => exact .lst h
def is_int : Da → Bool
  | .bl _ => true
  | .int _ => true
  | _ => false
theorem kD_int {K : PySem.W.Frag} (d : Da) : PySem.W.kitOne K (.type (tyD d)) (.type "int") = some (is_int d) := by
  cases d with
  | non => exact (show PySem.W.kitOne K (.type "NoneType") (.type "int") = some false from kit_ty (by decide) (by decide +kernel) (by decide +kernel))
  | bl b => exact (show PySem.W.kitOne K (.type "bool") (.type "int") = some true from kit_ty (by decide) (by decide +kernel) (by decide +kernel))
  | int i => exact (show PySem.W.kitOne K (.type "int") (.type "int") = some true from kit_eq (by decide))
  | str s => exact (show PySem.W.kitOne K (.type "str") (.type "int") = some false from kit_ty (by decide) (by decide +kernel) (by decide +kernel))
  | tup l => exact (show PySem.W.kitOne K (.type "tuple") (.type "int") = some false from kit_ty (by decide) (by decide +kernel) (by decide +kernel))
  | lst l => exact (show PySem.W.kitOne K (.type "list") (.type "int") = some false from kit_ty (by decide) (by decide +kernel) (by decide +kernel))
def is_bool : Da → Bool
  | .bl _ => true
  | _ => false
theorem kD_bool {K : PySem.W.Frag} (d : Da) : PySem.W.kitOne K (.type (tyD d)) (.type "bool") = some (is_bool d) := by
  cases d with
  | non => exact (show PySem.W.kitOne K (.type "NoneType") (.type "bool") = some false from kit_ty (by decide) (by decide +kernel) (by decide +kernel))
  | bl b => exact (show PySem.W.kitOne K (.type "bool") (.type "bool") = some true from kit_eq (by decide))
  | int i => exact (show PySem.W.kitOne K (.type "int") (.type "bool") = some false from kit_ty (by decide) (by decide +kernel) (by decide +kernel))
  | str s => exact (show PySem.W.kitOne K (.type "str") (.type "bool") = some false from kit_ty (by decide) (by decide +kernel) (by decide +kernel))
  | tup l => exact (show PySem.W.kitOne K (.type "tuple") (.type "bool") = some false from kit_ty (by decide) (by decide +kernel) (by decide +kernel))
  | lst l => exact (show PySem.W.kitOne K (.type "list") (.type "bool") = some false from kit_ty (by decide) (by decide +kernel) (by decide +kernel))
def is_str : Da → Bool
  | .str _ => true
  | _ => false
theorem kD_str {K : PySem.W.Frag} (d : Da) : PySem.W.kitOne K (.type (tyD d)) (.type "str") = some (is_str d) := by
  cases d with
  | non => exact (show PySem.W.kitOne K (.type "NoneType") (.type "str") = some false from kit_ty (by decide) (by decide +kernel) (by decide +kernel))
  | bl b => exact (show PySem.W.kitOne K (.type "bool") (.type "str") = some false from kit_ty (by decide) (by decide +kernel) (by decide +kernel))
  | int i => exact (show PySem.W.kitOne K (.type "int") (.type "str") = some false from kit_ty (by decide) (by decide +kernel) (by decide +kernel))
  | str s => exact (show PySem.W.kitOne K (.type "str") (.type "str") = some true from kit_eq (by decide))
  | tup l => exact (show PySem.W.kitOne K (.type "tuple") (.type "str") = some false from kit_ty (by decide) (by decide +kernel) (by decide +kernel))
  | lst l => exact (show PySem.W.kitOne K (.type "list") (.type "str") = some false from kit_ty (by decide) (by decide +kernel) (by decide +kernel))
def wnD : Da → Option Int
  | .int i => some i
  | _ => none
def numD (lo hi : Int) (d : Da) : Bool := match wnD d with
  | some i => decide (lo ≤ i ∧ i ≤ hi)
  | none => false
section
variable {P : Program} {w : World} {K : PySem.W.Frag} {mg : Str → Option Value} {base : Heap}
/-! ### is_whole, word_of, is_number_of -/
def spWh : Sp := fun vs H Q _ => ∃ (v : V) (d : Da), vs = [v] ∧ HD H v d ∧ Q (.bl (wnD d).isSome) H
theorem scWh : FnScope ["thing"] ["thing"] (defScope s_is_whole) := ⟨rfl, rfl, rfl, by decide +kernel, rfl, by decide +kernel, by decide +kernel⟩
theorem ok_is_whole {f : Addr} {fd : FuncData} (F : Fun K "is_whole" "is_whole" s_is_whole f fd) (T : Txt K w.params mg)  : FnOk P w K mg base CX0 1 f fd ["thing"] spWh := by
  refine F.ok scWh (fun vs H Q E h => ?_) (fun cdv A outer s H vs Q E hr h => ?_)
  · obtain ⟨v, d, rfl, _⟩ := h
    rfl
  · obtain ⟨v, d, rfl, hv, k⟩ := h
    refine wrapX (pssx_one (psx_of (ps_ret (pe_and (pe_callB call_isinst (by rfl) T.isi bt_isi (pa_cons (pv 0) (pa_cons (pe_bltn (v := .ty "int") (by rfl) T.int bt_int rfl) pa_nil))) (pe_one (pe_not (pe_callB call_isinst (by rfl) T.isi bt_isi (pa_cons (pv 0) (pa_cons (pe_bltn (v := .ty "bool") (by rfl) T.bool bt_bool rfl) pa_nil))))))))) ?_
    refine ⟨_, rfl, _, _, _, _, rfl, hv.ty, kD_int d, _, rfl, ?_⟩
    cases d with
    | int i => exact iteP rfl ⟨_, rfl, _, _, _, _, rfl, hv.ty, kD_bool _, _, rfl, k⟩
    | bl b => exact iteP rfl ⟨_, rfl, _, _, _, _, rfl, hv.ty, kD_bool _, _, rfl, k⟩
    | non => exact iteN Bool.false_ne_true k
    | str u => exact iteN Bool.false_ne_true k
    | tup l => exact iteN Bool.false_ne_true k
    | lst l => exact iteN Bool.false_ne_true k
def bnds : List (Str × Int × Int) := [("box", 0, 7), ("aside", 0, 1000000), ("target", 0, 1000000000), ("number", 0, 1000000), ("value", -1000000000, 1000000000), ("far", 0, 1)]
def bdK (k : Str) : Int × Int := ((bnds.find? fun x => x.1 == k).map (·.2)).getD (0, 0)
def spNu : Sp := fun vs H Q _ => ∃ (kd : Str) (v : V) (d : Da), vs = [.str kd, v] ∧ kd ∈ bnds.map (·.1) ∧ HD H v d ∧ Q (.bl (numD (bdK kd).1 (bdK kd).2 d)) H
theorem Txt.bnd {pr : Params} (T : Txt K pr mg) : ∃ p, mg "BOUNDS" = some (.ref p) ∧ ∀ kd ∈ bnds.map (·.1), ∃ q, KHas K pr p kd (some (.ref q)) ∧ ∀ H, SqT K H q [.int (bdK kd).1, .int (bdK kd).2] := by
  obtain ⟨p, hp, _, h0, h1, h2, h3, h4, h5⟩ := T.g_BOUNDS
  refine ⟨p, hp, fun kd hk => ?_⟩
  rcases (by decide +kernel : ∀ kd : Str, kd ∈ (bnds.map (·.1) : List Str) → (kd = ("box" : Str) ∧ bdK kd = (0, 7)) ∨ (kd = ("aside" : Str) ∧ bdK kd = (0, 1000000)) ∨ (kd = ("target" : Str) ∧ bdK kd = (0, 1000000000)) ∨ (kd = ("number" : Str) ∧ bdK kd = (0, 1000000)) ∨ (kd = ("value" : Str) ∧ bdK kd = (-1000000000, 1000000000)) ∨ (kd = ("far" : Str) ∧ bdK kd = (0, 1))) kd hk with ⟨rfl, e⟩ | ⟨rfl, e⟩ | ⟨rfl, e⟩ | ⟨rfl, e⟩ | ⟨rfl, e⟩ | ⟨rfl, e⟩ <;> rw [e] <;> assumption
theorem scNu : FnScope ["kind", "thing"] ["kind", "thing"] (defScope s_is_number_of) := ⟨rfl, rfl, rfl, by decide +kernel, rfl, by decide +kernel, by decide +kernel⟩
theorem ok_is_number_of {f fW : Addr} {fd fdW : FuncData} (F : Fun K "is_number_of" "is_number_of" s_is_number_of f fd) (T : Txt K w.params mg) (GW : FnOk P w K mg base CX0 1 fW fdW ["thing"] spWh) (kW : PySem.W.keepIn K (.ref fW) = true) (bW : Binds K fdW ["thing"] []) (mW : mg "is_whole" = some (.ref fW)) : FnOk P w K mg base CX0 2 f fd ["kind", "thing"] spNu := by
  refine F.ok scNu (fun vs H Q E h => ?_) (fun cdv A outer s H vs Q E hr h => ?_)
  · obtain ⟨kd, v, d, rfl, _⟩ := h
    rfl
  · obtain ⟨kd, v, d, rfl, hk, hv, k⟩ := h
    obtain ⟨pb, hpb, hpk⟩ := T.bnd
    obtain ⟨q, hq, hS⟩ := hpk kd hk
    refine wrapX (pssx_one (psx_of (ps_ret (pe_and (pe_call GW hr (by rfl) mW kW bW .nil pass0 (pa_cons (pv 1) pa_nil)) (pe_one (pe_chain op_le op_le (pe_ix ix_tup (pe_kget (pe_glob (v := .ref pb) (by rfl) hpb rfl) (pv 0) (fun _ _ => rfl)) pe_int (fun _ _ => rfl)) (pv 1) (pe_ix ix_tup (pe_kget (pe_glob (v := .ref pb) (by rfl) hpb rfl) (pv 0) (fun _ _ => rfl)) pe_int (fun _ _ => rfl)))))))) ?_
    refine ⟨_, rfl, v, d, rfl, hv, _, rfl, ?_⟩
    unfold numD at k
    cases hw : wnD d with
    | none => rw [hw] at k; exact iteN Bool.false_ne_true k
    | some n =>
      rw [hw] at k
      have k : Q (.bl (decide ((bdK kd).1 ≤ n ∧ n ≤ (bdK kd).2))) H := k
      have hd : d = .int n := by cases d <;> cases hw; rfl
      subst hd
      cases hv
      refine iteP rfl ?_
      refine ⟨_, rfl, pb, kd, _, rfl, rfl, hq, q, _, 0, _, rfl, rfl, hS _, at0 _ _, _, rfl, _, _, rfl, rfl, _, rfl, ?_⟩
      refine ite2 (fun e => ?_) (fun e => ?_)
      · refine ⟨_, rfl, pb, kd, _, rfl, rfl, hq, q, _, 1, _, rfl, rfl, hS _, at1 _ _ _, _, _, rfl, rfl, ?_⟩
        have e := of_decide_eq_true e
        rw [show decide ((bdK kd).1 ≤ n ∧ n ≤ (bdK kd).2) = decide (n ≤ (bdK kd).2) from decide_eq_decide.mpr ⟨fun z => z.2, fun z => ⟨e, z⟩⟩] at k
        exact k
      · rw [decide_eq_false (fun z => e (decide_eq_true z.1))] at k
        exact k
end
end My


set_option Elab.async false
set_option linter.all false
set_option maxRecDepth 100000
set_option maxHeartbeats 4000000
namespace My
open PySem L2
open PySem.NumText
section
variable {P : Program} {w : World} {K : PySem.W.Frag} {mg : Str → Option Value} {base : Heap}
def isFg (c : Nat) : Bool := decide (48 ≤ c ∧ c ≤ 57)
def figP (x : Str) : Bool := x.cps.toList.all isFg && (decide (x = "0") || (decide (¬ x = "") && decide (¬ x.cps[0]? = some 48)))
theorem fig_in : ∀ c : Nat, c < 128 → (!(Builtin.Str.occurrences ("0123456789" : Str) ⟨#[c]⟩ 0 ("0123456789" : Str).length 1).isEmpty) = isFg c := by decide +kernel
def spFig : Sp := fun vs H Q _ => ∃ x : Str, vs = [.str x] ∧ x.cps.all (· < 128) = true ∧ x.cps.size ≤ 100000 ∧ ∀ H', Same H H' → Q (.bl (figP x)) H'
theorem scFig : FnScope ["text"] ["text"] (defScope s_is_figures) := ⟨rfl, rfl, rfl, by decide +kernel, rfl, by decide +kernel, by decide +kernel⟩
def csFigC1 : Scope := { kind := .function, names := [(".0", .local), ("sign", .local), ("FIGURES", .globalImplicit)], isGenerator := false, isCoroutine := false, more := [] }
theorem scFigC1 : CompSc (defScope s_is_figures) csFigC1 ["text"] ["sign"] [none] := ⟨rfl, by decide +kernel, by decide +kernel, by decide +kernel, by decide +kernel, by decide +kernel⟩
theorem ok_is_figures {f : Addr} {fd : FuncData} (F : Fun K "is_figures" "is_figures" s_is_figures f fd) (T : Txt K w.params mg) : FnOk P w K mg base CX0 1 f fd ["text"] spFig := by
  refine F.ok scFig (fun vs H Q E h => ?_) (fun cdv A outer s H vs Q E hr h => ?_)
  · obtain ⟨x, rfl, _⟩ := h
    rfl
  · obtain ⟨x, rfl, ha, hz, k⟩ := h
    obtain ⟨tf, hfg⟩ := T.g_FIGURES
    refine ⟨_, (pss_cons (ps_if (pt_not (pt_val (pe_callB (call_allB rfl) (by rfl) T.all bt_all (pa_cons (pe_comp (N' := ["sign"]) (fr := [none]) scFigC1 rfl (pi_str (pv 0)) (fun C s0 H0 fp => (pg_name (i := 0) scFigC1.nd rfl (Or.inl rfl))) (fun C s0 H0 fp => pts_nil) (fun C s0 H0 fp => (pe_cmpR op_in_str (pv 0) (pe_glob (v := .str "0123456789") (by rfl) hfg ⟨_, rfl⟩) rfl))) pa_nil)))) (pss_one (ps_ret pe_bl)) pss_nil)
      (pss_one (ps_ret (pe_or (pe_cmpR op_eq (pv 0) pe_str (nomark _)) (pe_one (pe_and (pe_cmpR op_ne (pv 0) pe_str (nomark _)) (pe_one (pe_cmpR op_ne (pe_ix ix_str (pv 0) pe_int (fun _ _ => rfl)) pe_str (nomark _))))))))), ?_⟩
    refine ⟨_, rfl, x, rfl, ha, fun D nD => comp_str (x := x) (fun i σ ys H2 => ∃ v : Option V, σ = [v] ∧ ys = ((x.cps.toList.take i).map isFg).map V.bl ∧ Same H H2 ∧ H2 D = some (.lst ys)) ?_ ?_ ?_⟩
    · exact ⟨none, rfl, rfl, same_new nD, upd_same⟩
    · rintro i v σ ys H2 hv ⟨v0, rfl, rfl, s2, hD⟩
      unfold chV at hv
      obtain ⟨c, hc, rfl⟩ := Option.map_eq_some_iff.mp hv
      have hi : i < x.cps.size := (Array.getElem?_eq_some_iff.mp hc).1
      have hc' : x.cps.toList[i]? = some c := by rw [Array.getElem?_toList]; exact hc
      have h128 : c < 128 := by
        have := (Array.all_eq_true.mp ha) i hi
        rw [(Array.getElem?_eq_some_iff.mp hc).2] at this
        exact of_decide_eq_true this
      refine ⟨_, rfl, _, _, rfl, rfl, hD, ?_, ?_⟩
      · rw [List.length_map, List.length_map, List.length_take]
        exact Nat.lt_of_le_of_lt (Nat.le_trans (Nat.min_le_left _ _) (show i ≤ 100000 by omega)) (by decide)
      · refine ⟨_, rfl, ?_, same_put s2 nD, upd_same⟩
        rw [fig_in c h128, List.take_add_one, hc', List.map_append, List.map_append]
        rfl
    · rintro σ ys H2 ⟨v0, rfl, rfl, s2, hD⟩
      have et : x.cps.toList.take x.cps.size = x.cps.toList := List.take_of_length_le (by simp)
      rw [et] at hD
      refine ⟨D, _, rfl, SqL.of hD, _, rfl, ?_⟩
      have kk := k H2 s2
      by_cases hall : x.cps.toList.all isFg = true
      · refine iteN (by simp at hall ⊢; exact hall) ?_
        by_cases h0 : x = "0"
        · have e : figP x = true := by unfold figP; rw [hall, decide_eq_true h0]; rfl
          rw [e] at kk
          have e1 : decide (V.str x = V.str "0") = true := decide_eq_true (by rw [h0])
          refine ⟨_, rfl, rfl, _, rfl, iteP e1 ?_⟩
          exact kk
        · have e1 : decide (V.str x = V.str "0") = false := decide_eq_false fun z => h0 (V.str.inj z)
          refine ⟨_, rfl, rfl, _, rfl, iteN (by rw [e1]; decide) ?_⟩
          by_cases h1 : x = ""
          · have e : figP x = false := by
              unfold figP
              rw [hall, decide_eq_false h0, decide_eq_false (show ¬ ¬ x = "" from fun z => z h1)]
              rfl
            rw [e] at kk
            exact ⟨_, rfl, rfl, _, rfl, iteN (by rw [h1]; decide) kk⟩
          · have h2 : ¬ V.str x = V.str "" := fun z => h1 (V.str.inj z)
            cases hx : x.cps.toList with
            | nil => exact absurd (str_ext (y := "") hx) h1
            | cons c r =>
              have h0c : x.cps[0]? = some c := by rw [← Array.getElem?_toList, hx]; rfl
              refine ⟨_, rfl, rfl, _, rfl, iteP (by simp [h2]) ?_⟩
              refine ⟨_, rfl, x, 0, c, rfl, rfl, small_len (by rw [Str.length]; omega), (by rw [hx]; exact at0 _ _), rfl, ?_⟩
              have e : figP x = !decide (V.str ⟨#[c]⟩ = V.str "0") := by
                unfold figP
                rw [hall, decide_eq_false h0, decide_eq_true h1, h0c, Bool.true_and, Bool.false_or, Bool.true_and]
                by_cases hc : c = 48
                · subst hc
                  decide
                · rw [decide_eq_true (show ¬ some c = some 48 from fun z => hc (Option.some.inj z)), decide_eq_false (fun z : V.str ⟨#[c]⟩ = V.str "0" => hc (by have := V.str.inj z; have := congrArg (fun s : Str => s.cps.toList) this; exact (List.cons.inj this).1))]
                  rfl
              rw [e] at kk
              exact kk
      · refine iteP (by simp at hall ⊢; exact hall) ?_
        have e : figP x = false := by unfold figP; rw [Bool.eq_false_iff.mpr hall]; rfl
        rw [e] at kk
        exact kk
end
/-! ### read_number -/
def negS (x : Str) : Bool := decide (x.cps.toList.head? = some 45)
def tailS (x : Str) : Str := ⟨(x.cps.toList.drop 1).toArray⟩
def figsOf (x : Str) : Str := if negS x = true then tailS x else x
def numOf (x : Str) : Int := ((digitsVal x.cps.toList : Nat) : Int)
def readN (m : Int) (x : Str) : Option Int := if m < ((figsOf x).length : Int) ∨ ¬ figP (figsOf x) = true then none else if negS x = true ∧ figsOf x = "0" then none else some (if negS x = true then -numOf (figsOf x) else numOf (figsOf x))
def ov : Option Int → V
  | none => .non
  | some i => .int i
theorem starts_neg (x : Str) : Txt.startswith x "-" = negS x := by
  obtain ⟨⟨l⟩⟩ := x
  cases l with
  | nil => decide
  | cons c r =>
    show (decide (0 + 1 ≤ (c :: r).toArray.size) && ((c :: r).toArray.extract 0 (0 + 1) == #[45])) = decide (some c = some 45)
    have e : (c :: r).toArray.extract 0 (0 + 1) = #[c] := by simp
    rw [e, decide_eq_true (show 0 + 1 ≤ (c :: r).toArray.size by simp), Bool.true_and]
    by_cases h : c = 45
    · subst h
      decide
    · rw [decide_eq_false (fun z => h (Option.some.inj z))]
      apply beq_false_of_ne
      intro z
      have := congrArg Array.toList z
      exact h (List.cons.inj this).1
theorem slice_tail {x : Str} (h : negS x = true) : Txt.slice x (some 1) none = tailS x := by
  have h1 : (1 : Int) ≤ x.length := by
    have h := of_decide_eq_true h
    cases e : x.cps.toList with
    | nil => rw [e] at h; cases h
    | cons c r =>
      have : x.cps.size = (c :: r).length := by rw [← e]; simp
      show (1 : Int) ≤ ((x.cps.size : Nat) : Int)
      rw [this, List.length_cons]
      omega
  have e := eq_of_beq (PyProof.Rows.slice_closes_fromL (x := x) (i := 1) (b := x.length) (by decide) h1 rfl)
  rw [e]
  unfold tailS
  congr 2
  show (x.cps.toList.drop 1).take _ = _
  apply List.take_of_length_le
  rw [List.length_drop]
  show x.cps.toList.length - 1 ≤ (((x.cps.size : Nat) : Int) - 1).toNat
  simp
theorem fig_digits {x : Str} (h : figP x = true) : AllDigits x.cps.toList ∧ x.cps.toList ≠ [] := by
  unfold figP at h
  rw [Bool.and_eq_true] at h
  refine ⟨fun c hc => of_decide_eq_true ((List.all_eq_true.mp h.1) c hc), fun e => ?_⟩
  have e0 : x = "" := str_ext e
  rw [e0] at h
  exact absurd h.2 (by decide)
section
variable {P : Program} {w : World} {K : PySem.W.Frag} {mg : Str → Option Value} {base : Heap}
def spRdn : Sp := fun vs H Q _ => ∃ (x : Str) (m : Int), vs = [.str x, .int m] ∧ x.cps.all (· < 128) = true ∧ x.cps.size ≤ 100000 ∧ m ≤ 640 ∧ ∀ H', Same H H' → Q (ov (readN m x)) H'
theorem scRdn : FnScope ["text", "most_figures", "below", "figures"] ["text", "most_figures"] (defScope s_read_number) := ⟨rfl, rfl, rfl, by decide +kernel, rfl, by decide +kernel, by decide +kernel⟩
theorem ok_read_number {f fG : Addr} {fd fdG : FuncData} (F : Fun K "read_number" "read_number" s_read_number f fd) (T : Txt K w.params mg) (GG : FnOk P w K mg base CX0 1 fG fdG ["text"] spFig) (kG : PySem.W.keepIn K (.ref fG) = true) (bG : Binds K fdG ["text"] []) (mG : mg "is_figures" = some (.ref fG)) : FnOk P w K mg base CX0 2 f fd ["text", "most_figures"] spRdn := by
  refine F.ok scRdn (fun vs H Q E h => ?_) (fun cdv A outer s H vs Q E hr h => ?_)
  · obtain ⟨x, m, rfl, _⟩ := h
    rfl
  · obtain ⟨x, m, rfl, ha, hz, hm, k⟩ := h
    refine ⟨_, (pss_cons (ps_set (i := 2) scRdn.nd rfl (Or.inl rfl) (pe_bm PySem.F.plainAttrs_str PySem.F.slot_str_startswith PySem.F.type_str_startswith mt_starts (pv 0) (pa_cons pe_str pa_nil)))
      (pss_cons (ps_set (i := 3) scRdn.nd rfl (Or.inl rfl) (pe_ifExp (pt_val (pv 2)) (pe_slice sl_str (pv 0) (po_some pe_int) po_none) (pv 0)))
      (pss_cons (ps_if (pw_or (pt_cmpR op_gt (pe_callB call_len_str (by rfl) T.len bt_len (pa_cons (pv 3) pa_nil)) (pv 1) (nomark _)) (pw_or1 (pt_not (pt_val (pe_call GG hr (by rfl) mG kG bG .nil pass0 (pa_cons (pv 3) pa_nil)))))).pt (pss_one (ps_ret pe_non)) pss_nil)
      (pss_cons (ps_if (pw_and (pt_val (pv 2)) (pw_and1 (pt_cmpR op_eq (pv 3) pe_str (nomark _)))).pt (pss_one (ps_ret pe_non)) pss_nil)
      (pss_one (ps_ret (pe_ifExp (pt_val (pv 2)) (pe_un un_neg (pe_callTy call_int_txt (by rfl) T.int bt_int (pa_cons (pv 3) pa_nil))) (pe_callTy call_int_txt (by rfl) T.int bt_int (pa_cons (pv 3) pa_nil))))))))), ?_⟩
    refine ⟨_, rfl, rfl, x, "-", rfl, rfl, ?_⟩
    rw [starts_neg]
    have hfa : (figsOf x).cps.all (· < 128) = true := by
      unfold figsOf
      split
      · rw [Array.all_eq_true_iff_forall_mem] at ha ⊢
        intro c hc
        exact ha c (Array.mem_def.mpr (List.mem_of_mem_drop (i := 1) (by simpa [tailS] using Array.mem_def.mp hc)))
      · exact ha
    have hfz : (figsOf x).cps.size ≤ 100000 := by
      unfold figsOf
      split
      · show (x.cps.toList.drop 1).toArray.size ≤ 100000
        rw [List.size_toArray, List.length_drop]
        simp
        omega
      · exact hz
    cases hb : negS x with
    | false =>
      have ef : figsOf x = x := if_neg (by rw [hb]; decide)
      rw [ef] at hfa hfz
      have hlen : x.length ≤ 100000 := hfz
      refine ⟨_, rfl, _, rfl, iteN (by decide) ?_⟩
      refine ⟨_, rfl, ?_⟩
      refine ⟨_, rfl, x, rfl, small_len (by omega), _, rfl, _, _, rfl, rfl, _, rfl, ?_⟩
      by_cases hl : m < (x.length : Int)
      · refine iteP (decide_eq_true hl) ?_
        have e : readN m x = none := by unfold readN; rw [ef, if_pos (.inl hl)]
        have kk := k H (.refl _)
        rw [e] at kk
        exact kk
      refine iteN (fun z => hl (of_decide_eq_true z)) ?_
      refine ⟨_, rfl, x, rfl, hfa, hfz, fun H1 s1 => ⟨_, rfl, ?_⟩⟩
      have kk := k H1 s1
      by_cases hf : figP x = true
      · refine iteN (by rw [hf]; decide) ?_
        obtain ⟨hd, hne⟩ := fig_digits hf
        have hn := intText_digits hd hne (by omega)
        have h640 : x.length ≤ 640 := by omega
        refine ⟨_, rfl, _, rfl, iteN (by decide) ?_⟩
        refine ⟨_, rfl, _, rfl, iteN (by decide) ?_⟩
        refine ⟨_, rfl, x, _, rfl, h640, hn, ?_⟩
        have hnb : ¬ negS x = true := by rw [hb]; decide
        have e : readN m x = some (numOf x) := by unfold readN; rw [ef, if_neg (fun z => z.elim hl (fun y => y hf)), if_neg (fun z => hnb z.1), if_neg hnb]
        rw [e] at kk
        exact kk
      · refine iteP (by rw [Bool.eq_false_iff.mpr hf]; decide) ?_
        have e : readN m x = none := by unfold readN; rw [ef, if_pos (.inr hf)]
        rw [e] at kk
        exact kk
    | true =>
      have ef : figsOf x = (tailS x) := if_pos hb
      rw [ef] at hfa hfz
      have hlen : (tailS x).length ≤ 100000 := hfz
      refine ⟨_, rfl, _, rfl, iteP rfl ?_⟩
      refine ⟨_, rfl, 1, rfl, x, rfl, small_len (show x.cps.size ≤ 1000000 by omega), ?_⟩
      rw [slice_tail hb]
      refine ⟨_, rfl, (tailS x), rfl, small_len (by omega), _, rfl, _, _, rfl, rfl, _, rfl, ?_⟩
      by_cases hl : m < ((tailS x).length : Int)
      · refine iteP (decide_eq_true hl) ?_
        have e : readN m x = none := by unfold readN; rw [ef, if_pos (.inl hl)]
        have kk := k H (.refl _)
        rw [e] at kk
        exact kk
      refine iteN (fun z => hl (of_decide_eq_true z)) ?_
      refine ⟨_, rfl, (tailS x), rfl, hfa, hfz, fun H1 s1 => ⟨_, rfl, ?_⟩⟩
      have kk := k H1 s1
      by_cases hf : figP (tailS x) = true
      · refine iteN (by rw [hf]; decide) ?_
        obtain ⟨hd, hne⟩ := fig_digits hf
        have hn := intText_digits hd hne (by omega)
        have h640 : (tailS x).length ≤ 640 := by omega
        refine ⟨_, rfl, _, rfl, iteP rfl ?_⟩
        by_cases h0 : (tailS x) = "0"
        · refine ⟨_, rfl, rfl, _, rfl, iteP (decide_eq_true (by rw [h0])) ?_⟩
          have e : readN m x = none := by unfold readN; rw [ef, if_neg (fun z => z.elim hl (fun y => y hf)), if_pos ⟨hb, h0⟩]
          rw [e] at kk
          exact kk
        · refine ⟨_, rfl, rfl, _, rfl, iteN (fun z => h0 (V.str.inj (of_decide_eq_true z))) ?_⟩
          refine ⟨_, rfl, _, rfl, iteP rfl ?_⟩
          refine ⟨_, rfl, (tailS x), _, rfl, h640, hn, _, rfl, ?_⟩
          have e : readN m x = some (-numOf (tailS x)) := by unfold readN; rw [ef, if_neg (fun z => z.elim hl (fun y => y hf)), if_neg (fun z => h0 z.2), if_pos hb]
          rw [e] at kk
          exact kk
      · refine iteP (by rw [Bool.eq_false_iff.mpr hf]; decide) ?_
        have e : readN m x = none := by unfold readN; rw [ef, if_pos (.inr hf)]
        rw [e] at kk
        exact kk
end
end My


set_option Elab.async false
set_option linter.all false
set_option maxRecDepth 100000
set_option maxHeartbeats 4000000
namespace My
open PySem L2
def ErrT (cNT : Addr) (e : Nat) (H : Hp) (E : XK) : Prop := ∀ H' d, Same H H' → H' d = some (.xd [("at", .int (e : Int))]) → E (.ref cNT) (some d) H'
/-- a thing read, or the refusal -/
def RRes (cNT : Addr) (e : Nat) (r : Option Da) (H : Hp) (Q : VK) (E : XK) : Prop := match r with
  | some d => ∀ v H', Same H H' → HD H' v d → Q v H'
  | none => ErrT cNT e H E
def rdN (kd x : Str) : Option Int := match readN 10 x with
  | some n => if (bdK kd).1 ≤ n ∧ n ≤ (bdK kd).2 then some n else none
  | none => none
def rdNum (kd x : Str) : Option Da := (rdN kd x).map Da.int
def rdLead (x : Str) : Option Da := if x = "-" then some .non else rdNum "target" x
def rdForm (x : Str) : Option Da := rdNum "far" x
def rdCount (x : Str) : Option Da := match Txt.split x ":" with
  | [a, b] => match rdN "number" a with
    | none => none
    | some n => match rdN "aside" b with
      | none => none
      | some m => some (.tup [.int n, .int m])
  | _ => none
section
variable {P : Program} {w : World} {K : PySem.W.Frag} {mg : Str → Option Value} {base : Heap}
variable {cNT R fI : Addr} {fdI : FuncData}
def Asc (x : Str) : Prop := x.cps.all (· < 128) = true ∧ x.cps.size ≤ 3000
def spRno (cNT : Addr) : Sp := fun vs H Q E => ∃ (kd x : Str) (e : Nat), vs = [.str kd, .str x, .int (e : Int)] ∧ kd ∈ bnds.map (·.1) ∧ Asc x ∧ e ≤ 1000 ∧ RRes cNT e (rdNum kd x) H Q E
theorem scRno : FnScope ["kind", "word", "at", "number"] ["kind", "word", "at"] (defScope s_read_number_of) := ⟨rfl, rfl, rfl, by decide +kernel, rfl, by decide +kernel, by decide +kernel⟩
theorem ok_read_number_of {f fR fN : Addr} {fd fdR fdN : FuncData} (F : Fun K "read_number_of" "read_number_of" s_read_number_of f fd) (T : Txt K w.params mg) (GR : FnOk P w K mg base CX0 2 fR fdR ["text", "most_figures"] spRdn) (kR : PySem.W.keepIn K (.ref fR) = true) (bR : Binds K fdR ["text", "most_figures"] []) (mR : mg "read_number" = some (.ref fR)) (GN : FnOk P w K mg base CX0 2 fN fdN ["kind", "thing"] spNu) (kN : PySem.W.keepIn K (.ref fN) = true) (bN : Binds K fdN ["kind", "thing"] []) (mN : mg "is_number_of" = some (.ref fN)) (cx : XIni K cNT R fI) (kC : PySem.W.keepIn K (.ref cNT) = true) (GI : FnOk P w K mg base CX0 1 fI fdI ["self", "at"] (spXI cNT)) (bI : Binds K fdI ["self", "at"] []) (mNT : mg "NoText" = some (.ref cNT)) : FnOk P w K mg base (CX2 P w) 3 f fd ["kind", "word", "at"] (spRno cNT) := by
  refine F.okX scRno (fun vs H Q E h => ?_) (fun cdv A outer s H vs Q E hr h => ?_)
  · obtain ⟨kd, x, e, rfl, _⟩ := h
    rfl
  · obtain ⟨kd, x, e, rfl, hk, hx, he, k⟩ := h
    have hr2 := hr
    have hrI : Room 2 (A.deeper (PyProof.Rows.envOfC "read_number_of" (defScope s_read_number_of) s.heap.objs.size f cdv)) := hr.mono (by decide)
    obtain ⟨tm, hmf⟩ := T.g_MOST_FIGURES
    refine wrapX (pssx_cons (psx_of (ps_set (i := 3) scRno.nd rfl (Or.inl rfl) (pe_call GR hr2 (by rfl) mR kR bR .nil pass0 (pa_cons (pv 1) (pa_cons (pe_glob (v := .int 10) (by rfl) hmf ⟨_, rfl⟩) pa_nil)))))
      (pssx_cons (psx_if (pt_not (pt_val (pe_call GN hr2 (by rfl) mN kN bN .nil pass0 (pa_cons (pv 0) (pa_cons (pv 3) pa_nil))))) (pssx_one (psx_of (ps_raiseC cx kC GI bI hrI mNT (by rfl) (pa_cons (pv 2) pa_nil)))) (pssx_nil pss_nil))
      (pssx_one (psx_of (ps_ret (pv 3)))))) ?_
    refine ⟨_, rfl, x, 10, rfl, hx.1, Nat.le_trans hx.2 (by decide), by decide, fun H1 s1 => ?_⟩
    unfold rdNum rdN at k
    cases hn : readN 10 x with
    | none =>
      rw [hn] at k
      have k : ErrT cNT e H E := k
      refine ⟨_, rfl, _, rfl, kd, .non, .non, rfl, hk, .non, _, rfl, iteP rfl ?_⟩
      exact ⟨_, rfl, _, rfl, by omega, fun d nd => k _ d (s1.trans (same_new nd)) upd_same⟩
    | some n =>
      rw [hn] at k
      have k : RRes cNT e (Option.map Da.int (if (bdK kd).1 ≤ n ∧ n ≤ (bdK kd).2 then some n else none)) H Q E := k
      refine ⟨_, rfl, _, rfl, kd, .int n, .int n, rfl, hk, .int n, _, rfl, ?_⟩
      show if _ then _ else _
      by_cases c : (bdK kd).1 ≤ n ∧ n ≤ (bdK kd).2
      · rw [if_pos c] at k
        refine iteN (by show ¬ (!decide ((bdK kd).1 ≤ n ∧ n ≤ (bdK kd).2)) = true; rw [decide_eq_true c]; decide) ?_
        exact ⟨_, rfl, k (.int n) _ s1 (.int n)⟩
      · rw [if_neg c] at k
        have k : ErrT cNT e H E := k
        refine iteP (by show (!decide ((bdK kd).1 ≤ n ∧ n ≤ (bdK kd).2)) = true; rw [decide_eq_false c]; decide) ?_
        exact ⟨_, rfl, _, rfl, by omega, fun d nd => k _ d (s1.trans (same_new nd)) upd_same⟩
def spRd (cNT : Addr) (rd : Str → Option Da) : Sp := fun vs H Q E => ∃ (x : Str) (e : Nat), vs = [.str x, .int (e : Int)] ∧ Asc x ∧ e ≤ 1000 ∧ RRes cNT e (rd x) H Q E
theorem scRl : FnScope ["word", "at"] ["word", "at"] (defScope s_read_lead) := ⟨rfl, rfl, rfl, by decide +kernel, rfl, by decide +kernel, by decide +kernel⟩
theorem ok_read_lead {f fR : Addr} {fd fdR : FuncData} (F : Fun K "read_lead" "read_lead" s_read_lead f fd) (T : Txt K w.params mg) (GR : FnOk P w K mg base (CX2 P w) 3 fR fdR ["kind", "word", "at"] (spRno cNT)) (kR : PySem.W.keepIn K (.ref fR) = true) (bR : Binds K fdR ["kind", "word", "at"] []) (mR : mg "read_number_of" = some (.ref fR)) : FnOk P w K mg base (CX2 P w) 4 f fd ["word", "at"] (spRd cNT rdLead) := by
  refine F.okX scRl (fun vs H Q E h => ?_) (fun cdv A outer s H vs Q E hr h => ?_)
  · obtain ⟨x, e, rfl, _⟩ := h
    rfl
  · obtain ⟨x, e, rfl, hx, he, k⟩ := h
    obtain ⟨tn, hno⟩ := T.g_NOTHING
    refine wrapX (pssx_one (psx_of (ps_ret (pe_ifExp (pt_cmpR op_eq (pv 0) (pe_glob (v := .str "-") (by rfl) hno ⟨_, rfl⟩) (nomark _)) pe_non (pe_call GR hr (by rfl) mR kR bR .nil pass22 (pa_cons pe_str (pa_cons (pv 0) (pa_cons (pv 1) pa_nil)))))))) ?_
    unfold rdLead at k
    refine ⟨_, rfl, rfl, _, rfl, ?_⟩
    by_cases c : x = "-"
    · rw [if_pos c] at k
      exact iteP (decide_eq_true (by rw [c])) (k .non _ (.refl _) .non)
    · rw [if_neg c] at k
      refine iteN (fun z => c (V.str.inj (of_decide_eq_true z))) ?_
      exact ⟨_, rfl, _, rfl, "target", x, e, rfl, by decide, hx, he, k⟩
theorem scRfo : FnScope ["word", "at"] ["word", "at"] (defScope s_read_form) := ⟨rfl, rfl, rfl, by decide +kernel, rfl, by decide +kernel, by decide +kernel⟩
theorem ok_read_form {f fR : Addr} {fd fdR : FuncData} (F : Fun K "read_form" "read_form" s_read_form f fd) (T : Txt K w.params mg) (GR : FnOk P w K mg base (CX2 P w) 3 fR fdR ["kind", "word", "at"] (spRno cNT)) (kR : PySem.W.keepIn K (.ref fR) = true) (bR : Binds K fdR ["kind", "word", "at"] []) (mR : mg "read_number_of" = some (.ref fR)) : FnOk P w K mg base (CX2 P w) 4 f fd ["word", "at"] (spRd cNT rdForm) := by
  refine F.okX scRfo (fun vs H Q E h => ?_) (fun cdv A outer s H vs Q E hr h => ?_)
  · obtain ⟨x, e, rfl, _⟩ := h
    rfl
  · obtain ⟨x, e, rfl, hx, he, k⟩ := h
    refine wrapX (pssx_one (psx_of (ps_ret (pe_call GR hr (by rfl) mR kR bR .nil pass22 (pa_cons pe_str (pa_cons (pv 0) (pa_cons (pv 1) pa_nil))))))) ?_
    exact ⟨_, rfl, _, rfl, "far", x, e, rfl, by decide, hx, he, k⟩
end
end My


set_option Elab.async false
set_option linter.all false
set_option maxRecDepth 100000
set_option maxHeartbeats 4000000
namespace My
open PySem L2
theorem mem_join {c : Nat} : ∀ {ps : List Str} {p : Str}, p ∈ ps → ∀ d ∈ p.cps.toList, d ∈ (Str.join ⟨#[c]⟩ ps).cps.toList
  | [], p, h, _, _ => by cases h
  | [x], p, h, d, hd => by rw [List.mem_singleton.mp h] at hd; exact hd
  | x :: y :: r, p, h, d, hd => by
    rw [join_list]
    rcases List.mem_cons.mp h with rfl | h
    · exact List.mem_append_left _ hd
    · exact List.mem_append_right _ (List.mem_cons_of_mem _ (mem_join h d hd))
theorem len_join {c : Nat} : ∀ {ps : List Str} {p : Str}, p ∈ ps → p.cps.size ≤ (Str.join ⟨#[c]⟩ ps).cps.size
  | [], p, h => by cases h
  | [x], p, h => by rw [List.mem_singleton.mp h]; exact Nat.le_refl _
  | x :: y :: r, p, h => by
    have e := congrArg List.length (join_list (c := c) x y r)
    rw [List.length_append, List.length_cons] at e
    simp only [Array.length_toList] at e
    rcases List.mem_cons.mp h with rfl | h
    · omega
    · have := len_join (c := c) h
      omega
theorem cnt_join {c : Nat} : ∀ {ps : List Str}, ps.length ≤ (Str.join ⟨#[c]⟩ ps).cps.size + 1
  | [] => by simp
  | [x] => by simp
  | x :: y :: r => by
    have e := congrArg List.length (join_list (c := c) x y r)
    rw [List.length_append, List.length_cons] at e
    simp only [Array.length_toList] at e
    have := cnt_join (c := c) (ps := y :: r)
    rw [List.length_cons]
    omega
theorem split_mem {c : Nat} {x p : Str} (h : p ∈ Txt.split x ⟨#[c]⟩) : (∀ d ∈ p.cps.toList, d ∈ x.cps.toList) ∧ p.cps.size ≤ x.cps.size := by
  have e : Str.join ⟨#[c]⟩ (Txt.split x ⟨#[c]⟩) = x := StrLaws.join_split x ⟨#[c]⟩
  have h1 := mem_join (c := c) h
  have h2 := len_join (c := c) h
  rw [e] at h1 h2
  exact ⟨h1, h2⟩
theorem split_cnt {c : Nat} (x : Str) : (Txt.split x ⟨#[c]⟩).length ≤ x.cps.size + 1 := by
  have e : Str.join ⟨#[c]⟩ (Txt.split x ⟨#[c]⟩) = x := StrLaws.join_split x ⟨#[c]⟩
  have h := cnt_join (c := c) (ps := Txt.split x ⟨#[c]⟩)
  rw [e] at h
  exact h
theorem split_asc {c : Nat} {x p : Str} (hx : x.cps.all (· < 128) = true) (h : p ∈ Txt.split x ⟨#[c]⟩) : p.cps.all (· < 128) = true := by
  rw [Array.all_eq_true_iff_forall_mem] at hx ⊢
  intro d hd
  exact hx d (Array.mem_def.mpr ((split_mem h).1 d (Array.mem_def.mp hd)))
/-- what a line's words show: a row, or none -/
theorem rdNum_none {kd x : Str} (h : rdN kd x = none) : rdNum kd x = none := by unfold rdNum; rw [h]; rfl
theorem rdNum_some {kd x : Str} {n : Int} (h : rdN kd x = some n) : rdNum kd x = some (.int n) := by unfold rdNum; rw [h]; rfl
section
variable {P : Program} {w : World} {K : PySem.W.Frag} {mg : Str → Option Value} {base : Heap}
variable {cNT R fI : Addr} {fdI : FuncData}
theorem scRc : FnScope ["word", "at", "numbers"] ["word", "at"] (defScope s_read_count) := ⟨rfl, rfl, rfl, by decide +kernel, rfl, by decide +kernel, by decide +kernel⟩
theorem ok_read_count {f fR : Addr} {fd fdR : FuncData} (F : Fun K "read_count" "read_count" s_read_count f fd) (T : Txt K w.params mg) (GR : FnOk P w K mg base (CX2 P w) 3 fR fdR ["kind", "word", "at"] (spRno cNT)) (kR : PySem.W.keepIn K (.ref fR) = true) (bR : Binds K fdR ["kind", "word", "at"] []) (mR : mg "read_number_of" = some (.ref fR)) (cx : XIni K cNT R fI) (kC : PySem.W.keepIn K (.ref cNT) = true) (GI : FnOk P w K mg base CX0 1 fI fdI ["self", "at"] (spXI cNT)) (bI : Binds K fdI ["self", "at"] []) (mNT : mg "NoText" = some (.ref cNT)) : FnOk P w K mg base (CX2 P w) 4 f fd ["word", "at"] (spRd cNT rdCount) := by
  refine F.okX scRc (fun vs H Q E h => ?_) (fun cdv A outer s H vs Q E hr h => ?_)
  · obtain ⟨x, e, rfl, _⟩ := h
    rfl
  · obtain ⟨x, e, rfl, hx, he, k⟩ := h
    have hrI : Room 2 (A.deeper (PyProof.Rows.envOfC "read_count" (defScope s_read_count) s.heap.objs.size f cdv)) := hr.mono (by decide)
    have hasc : ∀ p ∈ Txt.split x ":", Asc p := fun p hp => ⟨split_asc (c := 58) hx.1 hp, Nat.le_trans (split_mem (c := 58) hp).2 hx.2⟩
    have hcnt : (Txt.split x ":").length ≤ 3001 := Nat.le_trans (split_cnt (c := 58) x) (Nat.succ_le_succ hx.2)
    refine wrapX (pssx_cons (psx_of (ps_set (i := 2) scRc.nd rfl (Or.inl rfl) (pe_bm PySem.F.plainAttrs_str PySem.F.slot_str_split PySem.F.type_str_split mt_split (pv 0) (pa_cons pe_str pa_nil))))
      (pssx_cons (psx_if (pt_cmpR op_ne (pe_callB call_len_seq (by rfl) T.len bt_len (pa_cons (pv 2) pa_nil)) pe_int (nomark _)) (pssx_one (psx_of (ps_raiseC cx kC GI bI hrI mNT (by rfl) (pa_cons (pv 1) pa_nil)))) (pssx_nil pss_nil))
      (pssx_one (psx_of (ps_ret (pe_tup (pa_cons (pe_call GR hr (by rfl) mR kR bR .nil pass22 (pa_cons pe_str (pa_cons (pe_ix ix_list (pv 2) pe_int (fun _ _ => rfl)) (pa_cons (pv 1) pa_nil)))) (pa_cons (pe_call GR hr (by rfl) mR kR bR .nil pass22 (pa_cons pe_str (pa_cons (pe_ix ix_list (pv 2) pe_int (fun _ _ => rfl)) (pa_cons (pv 1) pa_nil)))) pa_nil)))))))) ?_
    refine ⟨_, rfl, rfl, x, ":", rfl, rfl, by decide, Nat.lt_of_le_of_lt hx.2 (by decide), fun lw nw => ?_⟩
    unfold rdCount at k
    generalize Txt.split x ":" = ws at nw hasc hcnt k ⊢
    have s1 := same_new (o := .lst (ws.map V.str)) nw
    have h1 : upd H lw (.lst (ws.map V.str)) lw = _ := upd_same
    generalize upd H lw (.lst (ws.map V.str)) = H1 at s1 h1 ⊢
    refine ⟨_, rfl, lw, _, rfl, .inl (SqL.of h1), rfl, _, rfl, ?_⟩
    by_cases c : ws.length = 2
    · obtain ⟨a, b, rfl⟩ : ∃ a b, ws = [a, b] := by
        match ws, c with
        | [a, b], _ => exact ⟨a, b, rfl⟩
      refine iteN (by show ¬ (!decide (V.int 2 = V.int 2)) = true; decide) ?_
      have k : RRes cNT e (match rdN "number" a with | none => none | some n => match rdN "aside" b with | none => none | some m => some (.tup [.int n, .int m])) H Q E := k
      refine ⟨_, rfl, lw, _, 0, .str a, rfl, rfl, SqL.of h1, at0 _ _, _, rfl, "number", a, e, rfl, by decide, hasc a (by simp), he, ?_⟩
      cases hn : rdN "number" a with
      | none =>
        rw [hn] at k
        rw [rdNum_none hn]
        exact fun H2 d s2 => k H2 d (s1.trans s2)
      | some n =>
        rw [hn] at k
        rw [rdNum_some hn]
        intro v2 H2 s2 hv2
        cases hv2
        refine ⟨_, rfl, lw, _, 1, .str b, rfl, rfl, SqL.of (s2 _ _ h1), at1 _ _ _, _, rfl, "aside", b, e, rfl, by decide, hasc b (by simp), he, ?_⟩
        have k : RRes cNT e (match rdN "aside" b with | none => none | some m => some (.tup [.int n, .int m])) H Q E := k
        cases hm : rdN "aside" b with
        | none =>
          rw [hm] at k
          rw [rdNum_none hm]
          exact fun H3 d s3 => k H3 d ((s1.trans s2).trans s3)
        | some m =>
          rw [hm] at k
          rw [rdNum_some hm]
          intro v3 H3 s3 hv3
          cases hv3
          refine ⟨Nat.le_of_ble_eq_true rfl, fun t nt => ?_⟩
          exact k _ _ (((s1.trans s2).trans s3).trans (same_new nt)) (.tupS upd_same (.cons (.int n) (.cons (.int m) .nil)))
    · have k : ErrT cNT e H E := by
        match ws, c, k with
        | [], _, k => exact k
        | [a], _, k => exact k
        | [a, b], c, _ => exact absurd rfl c
        | a :: b :: d :: l, _, k => exact k
      refine iteP ?_ ?_
      · rw [decide_eq_false (fun z => c (by have := V.int.inj z; rw [List.length_map] at this; omega))]
        rfl
      · exact ⟨_, rfl, _, rfl, by omega, fun d nd => k _ d (s1.trans (same_new nd)) upd_same⟩
end
end My


set_option Elab.async false
set_option linter.all false
set_option maxRecDepth 100000
set_option maxHeartbeats 4000000
namespace My
open PySem L2
def RisesTo (ms : List Int) (p : Int → Prop) : Prop := ms.Pairwise (· ≤ ·) ∧ ms.Nodup ∧ ∀ j, j ∈ ms ↔ p j
theorem RisesTo.eq {p : Int → Prop} : ∀ {ms ns : List Int}, RisesTo ms p → RisesTo ns p → ms = ns := by
  intro ms ns a b
  have hp : ms.Perm ns := (List.perm_ext_iff_of_nodup a.2.1 b.2.1).mpr fun j => (a.2.2 j).trans (b.2.2 j).symm
  exact hp.eq_of_pairwise (le := (· ≤ ·)) (fun x y _ _ h1 h2 => Int.le_antisymm h1 h2) a.1 b.1
theorem len_leB : ∀ (a b : List Int), a.Nodup → (∀ x ∈ a, x ∈ b) → a.length ≤ b.length
  | [], _, _, _ => Nat.zero_le _
  | x :: a, b, hn, h => by
    rw [List.nodup_cons] at hn
    have hx := h x (by simp)
    have := len_leB a (b.erase x) hn.2 fun y hy => (List.mem_erase_of_ne (show y ≠ x from fun e => hn.1 (by rw [← e]; exact hy))).mpr (h y (by simp [hy]))
    rw [List.length_erase_of_mem hx] at this
    have : 0 < b.length := List.length_pos_of_mem hx
    simp only [List.length_cons]
    omega
def rdSg : List Nat → Option (List Int)
  | [] => some []
  | c :: l => match rdN "box" ⟨#[c]⟩ with
    | none => none
    | some n => (rdSg l).map (n :: ·)
def Rise (ns : List Int) : Prop := ns.Pairwise (· ≤ ·) ∧ ns.Nodup
instance (ns : List Int) : Decidable (Rise ns) := inferInstanceAs (Decidable (_ ∧ _))
def rdBoxes (x : Str) : Option Da := if x = "-" then some (.tup []) else match rdSg x.cps.toList with
  | none => none
  | some ns => if ns ≠ [] ∧ Rise ns then some (.tup (ns.map Da.int)) else none
theorem rdN_box {x : Str} {n : Int} (h : rdN "box" x = some n) : 0 ≤ n ∧ n ≤ 7 := by
  unfold rdN at h
  cases hn : readN 10 x with
  | none => rw [hn] at h; cases h
  | some m =>
    rw [hn] at h
    have h : (if (bdK "box").1 ≤ m ∧ m ≤ (bdK "box").2 then some m else none) = some n := h
    rw [show bdK "box" = ((0 : Int), (7 : Int)) by decide +kernel] at h
    split at h
    · rename_i c
      cases h
      exact c
    · cases h
theorem hds_intsB {H : Hp} : ∀ is : List Int, HDs H (is.map V.int) (is.map Da.int)
  | [] => .nil
  | i :: is => .cons (.int i) (hds_intsB is)
section
variable {P : Program} {w : World} {K : PySem.W.Frag} {mg : Str → Option Value} {base : Heap}
variable {cNT R fI : Addr} {fdI : FuncData}
theorem scRb : FnScope ["word", "at", "boxes"] ["word", "at"] (defScope s_read_boxes) := ⟨rfl, rfl, rfl, by decide +kernel, rfl, by decide +kernel, by decide +kernel⟩
def csRbC1 : Scope := { kind := .function, names := [(".0", .local), ("sign", .local), ("read_number_of", .globalImplicit), ("at", .free)], isGenerator := false, isCoroutine := false, more := [] }
theorem scRbC1 : CompSc (defScope s_read_boxes) csRbC1 ["word", "at", "boxes"] ["sign", "at"] [none, some 1] := ⟨rfl, by decide +kernel, by decide +kernel, by decide +kernel, by decide +kernel, by decide +kernel⟩
theorem ok_read_boxes {f fR : Addr} {fd fdR : FuncData} (F : Fun K "read_boxes" "read_boxes" s_read_boxes f fd) (T : Txt K w.params mg) (GR : FnOk P w K mg base (CX2 P w) 3 fR fdR ["kind", "word", "at"] (spRno cNT)) (kR : PySem.W.keepIn K (.ref fR) = true) (bR : Binds K fdR ["kind", "word", "at"] []) (mR : mg "read_number_of" = some (.ref fR)) (cx : XIni K cNT R fI) (kC : PySem.W.keepIn K (.ref cNT) = true) (GI : FnOk P w K mg base CX0 1 fI fdI ["self", "at"] (spXI cNT)) (bI : Binds K fdI ["self", "at"] []) (mNT : mg "NoText" = some (.ref cNT)) : FnOk P w K mg base (CX2 P w) 4 f fd ["word", "at"] (spRd cNT rdBoxes) := by
  refine F.okX scRb (fun vs H Q E h => ?_) (fun cdv A outer s H vs Q E hr h => ?_)
  · obtain ⟨x, e, rfl, _⟩ := h
    rfl
  · obtain ⟨x, e, rfl, hx, he, k⟩ := h
    have hrI : Room 2 (A.deeper (PyProof.Rows.envOfC "read_boxes" (defScope s_read_boxes) s.heap.objs.size f cdv)) := hr.mono (by decide)
    have hu0 : (A.deeper (PyProof.Rows.envOfC "read_boxes" (defScope s_read_boxes) s.heap.objs.size f cdv)).units < cLine := Nat.lt_of_le_of_lt (Nat.le_add_right _ 64) hr.units
    obtain ⟨tn, hno⟩ := T.g_NOTHING
    refine wrapX (pssx_cons (psx_if (pt_cmpR op_eq (pv 0) (pe_glob (v := .str "-") (by rfl) hno ⟨_, rfl⟩) (nomark _)) (pssx_one (psx_of (ps_ret (pe_tup pa_nil)))) (pssx_nil pss_nil))
      (pssx_cons (psx_of (ps_compX (i := 2) (N' := ["sign", "at"]) (fr := [none, some 1]) scRb.nd rfl rfl scRbC1 (pi_str (pv 0)) (fun C s0 H0 fp => (pg_name (i := 0) scRbC1.nd rfl (Or.inl rfl))) (fun C s0 H0 fp => pts_nil) (fun C s0 H0 fp => (pe_call GR hr (by rfl) mR kR bR .nil passX (pa_cons pe_str (pa_cons (pv 0) (pa_cons (pv 1) pa_nil)))))))
      (pssx_cons (psx_if (pw_or (pt_cmpR op_eq (pe_callB call_len_seq (by rfl) T.len bt_len (pa_cons (pv 2) pa_nil)) pe_int (nomark _)) (pw_or1 (pt_cmpR (op_neL hu0) (pv 2) (pe_callB (call_sorted_of rfl) (by rfl) T.sorted bt_sorted (pa_cons (pe_callTy (call_set_of rfl) (by rfl) T.set bt_set (pa_cons (pv 2) pa_nil)) pa_nil)) (nomark _)))).pt (pssx_one (psx_of (ps_raiseC cx kC GI bI hrI mNT (by rfl) (pa_cons (pv 1) pa_nil)))) (pssx_nil pss_nil))
      (pssx_one (psx_of (ps_ret (pe_callTy call_tuple_of (by rfl) T.tuple bt_tuple (pa_cons (pv 2) pa_nil)))))))) ?_
    unfold rdBoxes at k
    refine ⟨_, rfl, rfl, _, rfl, ?_⟩
    by_cases c : x = "-"
    · rw [if_pos c] at k
      exact iteP (decide_eq_true (by rw [c])) ⟨Nat.le_of_ble_eq_true rfl, fun t nt => k _ _ (same_new nt) (.tupS upd_same .nil)⟩
    rw [if_neg c] at k
    refine iteN (fun z => c (V.str.inj (of_decide_eq_true z))) ?_
    refine ⟨_, rfl, x, rfl, hx.1, fun D nD => comp_str (x := x) (fun i σ ys G => ∃ (v : Option V) (ns : List Int), σ = [v, some (.int (e : Int))] ∧ ys = ns.map V.int ∧ ns.length = i ∧ i ≤ x.cps.size ∧ (∀ n ∈ ns, 0 ≤ n ∧ n ≤ 7) ∧ rdSg x.cps.toList = (rdSg (x.cps.toList.drop i)).map (ns ++ ·) ∧ Same H G ∧ G D = some (.lst ys)) ?_ ?_ ?_⟩
    · refine ⟨none, [], rfl, rfl, rfl, Nat.zero_le _, fun n hn => absurd hn List.not_mem_nil, ?_, same_new nD, upd_same⟩
      rw [List.drop_zero]
      cases rdSg x.cps.toList <;> rfl
    · rintro i v σ ys G hv ⟨v0, ns, rfl, rfl, hil, _, h07, hrd, s2, hD⟩
      unfold chV at hv
      obtain ⟨ch, hc, rfl⟩ := Option.map_eq_some_iff.mp hv
      have hi : i < x.cps.size := (Array.getElem?_eq_some_iff.mp hc).1
      have hi' : i < x.cps.toList.length := by rw [Array.length_toList]; exact hi
      have hdr : x.cps.toList.drop i = ch :: x.cps.toList.drop (i + 1) := by
        rw [List.drop_eq_getElem_cons hi']
        congr 1
        rw [Array.getElem_toList]
        exact (Array.getElem?_eq_some_iff.mp hc).2
      have h128 : ch < 128 := by
        have := (Array.all_eq_true.mp hx.1) i hi
        rw [(Array.getElem?_eq_some_iff.mp hc).2] at this
        exact of_decide_eq_true this
      rw [hdr] at hrd
      have hrd : rdSg x.cps.toList = (match rdN "box" ⟨#[ch]⟩ with | none => none | some n => (rdSg (x.cps.toList.drop (i + 1))).map (n :: ·)).map (ns ++ ·) := hrd
      refine ⟨_, rfl, _, rfl, "box", ⟨#[ch]⟩, e, rfl, by decide, ⟨by simp [h128], (show 1 ≤ 3000 by decide)⟩, he, ?_⟩
      cases hn : rdN "box" ⟨#[ch]⟩ with
      | none =>
        rw [hn] at hrd
        have hrd : rdSg x.cps.toList = none := hrd
        rw [hrd] at k
        rw [rdNum_none hn]
        exact fun H2 d s3 => k H2 d (s2.trans s3)
      | some n =>
        rw [hn] at hrd
        rw [rdNum_some hn]
        intro v2 H2 s3 hv2
        cases hv2
        have hb := rdN_box hn
        refine ⟨s3 _ _ hD, small_lt (by rw [List.length_map]; have := hx.2; omega), _, ns ++ [n], rfl, by rw [List.map_append]; rfl, by rw [List.length_append, hil]; rfl, hi, fun m hm => ?_, ?_, same_put (s2.trans s3) nD, upd_same⟩
        · rcases List.mem_append.mp hm with z | z
          · exact h07 m z
          · rw [List.mem_singleton.mp z]; exact hb
        · rw [hrd]
          show Option.map (ns ++ ·) ((rdSg (x.cps.toList.drop (i + 1))).map (n :: ·)) = _
          cases rdSg (x.cps.toList.drop (i + 1)) with
          | none => rfl
          | some l => show some (ns ++ (n :: l)) = some (ns ++ [n] ++ l); rw [List.append_assoc]; rfl
    · rintro σ ys G ⟨v0, ns, rfl, rfl, hil, _, h07, hrd, s2, hD⟩
      rw [List.drop_of_length_le (by rw [Array.length_toList]; exact Nat.le_refl _)] at hrd
      have hrd : rdSg x.cps.toList = some (ns ++ []) := hrd
      rw [List.append_nil] at hrd
      rw [hrd] at k
      have k : RRes cNT e (if ns ≠ [] ∧ Rise ns then some (.tup (ns.map Da.int)) else none) H Q E := k
      have hsz := hx.2
      refine ⟨_, rfl, D, _, rfl, .inl (SqL.of hD), rfl, _, rfl, ?_⟩
      by_cases c0 : ns = []
      · rw [if_neg (fun z => z.1 c0)] at k
        have k : ErrT cNT e H E := k
        refine iteP (by rw [c0]; rfl) ?_
        exact ⟨_, rfl, _, rfl, by omega, fun d nd => k _ d (s2.trans (same_new nd)) upd_same⟩
      refine iteN (fun z => c0 (by have := V.int.inj (of_decide_eq_true z); rw [List.length_map] at this; exact List.length_eq_zero_iff.mp (by omega))) ?_
      refine ⟨_, rfl, _, rfl, D, ns, rfl, SqL.of hD, by omega, fun l2 us nl2 hul hnd hmem => ⟨l2, us, rfl, upd_same, ?_, fun l3 ss nl3 hperm hpw => ?_⟩⟩
      · have := len_leB us [0, 1, 2, 3, 4, 5, 6, 7] hnd fun j hj => by
          have := h07 j ((hmem j).mp hj)
          simp
          omega
        exact Nat.lt_of_le_of_lt this (by decide)
      have z3 := (same_new (o := setO P w l2 us) nl2).trans (same_new (o := .lst (ss.map V.int)) nl3)
      refine ⟨D, l3, _, _, rfl, rfl, SqL.of (z3 _ _ hD), SqL.of upd_same, fun i a b ha hb => ?_, _, rfl, ?_⟩
      · rw [List.getElem?_map] at ha hb
        cases h1 : ns[i]? with
        | none => rw [h1] at ha; cases ha
        | some x =>
          cases h2 : ss[i]? with
          | none => rw [h2] at hb; cases hb
          | some y =>
            rw [h1] at ha
            rw [h2] at hb
            cases ha
            cases hb
            exact .inr (.inl ⟨_, _, rfl, rfl⟩)
      have e1 : decide (ns.map V.int = ss.map V.int) = decide (Rise ns) := by
        refine decide_eq_decide.mpr ⟨fun z => ?_, fun z => ?_⟩
        · have z2 : ns = ss := (List.map_inj_right (fun _ _ h => V.int.inj h)).mp z
          rw [z2]
          exact ⟨hpw, hperm.nodup_iff.mpr hnd⟩
        · have r1 : RisesTo ns (· ∈ ns) := ⟨z.1, z.2, fun j => Iff.rfl⟩
          have r2 : RisesTo ss (· ∈ ns) := ⟨hpw, hperm.nodup_iff.mpr hnd, fun j => by rw [hperm.mem_iff, hmem]⟩
          rw [RisesTo.eq r1 r2]
      rw [e1]
      have s4 := s2.trans z3
      have hD4 := z3 _ _ hD
      by_cases cr : Rise ns
      · rw [if_pos ⟨c0, cr⟩] at k
        refine iteN (by rw [decide_eq_true cr]; decide) ?_
        refine ⟨_, rfl, D, _, rfl, .inl ⟨SqL.of hD4, fun l nl => ?_⟩⟩
        exact k _ _ (s4.trans (same_new nl)) (.tupS upd_same (hds_intsB ns))
      · rw [if_neg (fun z => cr z.2)] at k
        have k : ErrT cNT e H E := k
        refine iteP (by rw [decide_eq_false cr]; rfl) ?_
        exact ⟨_, rfl, _, rfl, by omega, fun d nd => k _ d (s4.trans (same_new nd)) upd_same⟩
end
end My


set_option Elab.async false
set_option linter.all false
set_option maxRecDepth 100000
set_option maxHeartbeats 4000000
namespace My
open PySem L2
inductive Nl : Da → Prop
  | non : Nl .non
  | bl (b : Bool) : Nl (.bl b)
  | int (i : Int) : Nl (.int i)
  | str (s : Str) : Nl (.str s)
  | tup {ds : List Da} (h : ∀ d ∈ ds, Nl d) : Nl (.tup ds)
theorem HD.putN {H : Hp} {v : V} {d : Da} {l : Addr} {xs : List V} {o : HO} (h : HD H v d) (hl : H l = some (.lst xs)) (n : Nl d) : HD (upd H l o) v d := by
  induction h with
  | non => exact .non
  | bl b => exact .bl b
  | int i => exact .int i
  | str x => exact .str x
  | @tup p ys ds h e g ih =>
    cases n with
    | tup n =>
    refine .tup (by rw [upd_ne (fun z => by rw [z, hl] at h; cases h)]; exact h) e fun i x d a b => ih i x d a b (n d (List.mem_of_getElem? b))
  | lst h e g ih => cases n
theorem HDs.putN {H : Hp} {xs : List V} {ds : List Da} {l : Addr} {ys : List V} {o : HO} (h : HDs H xs ds) (hl : H l = some (.lst ys)) (n : ∀ d ∈ ds, Nl d) : HDs (upd H l o) xs ds := by
  induction h with
  | nil => exact .nil
  | cons h r ih => exact .cons (HD.putN h hl (n _ (List.mem_cons_self ..))) (ih fun d hd => n d (List.mem_cons_of_mem _ hd))
theorem cut1 (a : V) (l : List V) : cutV (a :: l) (some 1) none = l := by
  unfold cutV
  simp [HT.sIx]
def nameK : Nat → Str
  | 0 => "leads"
  | 1 => "forms"
  | 2 => "free"
  | _ => "counts"
def rdK : Nat → Str → Option Da
  | 0 => rdLead
  | 1 => rdForm
  | 2 => rdBoxes
  | _ => rdCount
def rdAll (rd : Str → Option Da) : List Str → Option (List Da)
  | [] => some []
  | w :: l => match rd w with
    | none => none
    | some d => (rdAll rd l).map (d :: ·)
def rdLine (i : Nat) (x : Str) : Option Da := match Txt.split x " " with
  | [] => none
  | u :: ws => if u = nameK i then (rdAll (rdK i) ws).map Da.lst else none
theorem nl_ints (ns : List Int) : Nl (.tup (ns.map Da.int)) := .tup fun d hd => by
  obtain ⟨n, _, rfl⟩ := List.mem_map.mp hd
  exact .int _
theorem num_nl {kd x : Str} {d : Da} (h : rdNum kd x = some d) : Nl d := by
  unfold rdNum at h
  obtain ⟨n, _, rfl⟩ := Option.map_eq_some_iff.mp h
  exact .int _
theorem rdK_nl {i : Nat} {x : Str} {d : Da} (h : rdK i x = some d) : Nl d := by
  unfold rdK at h
  split at h
  · unfold rdLead at h
    split at h
    · cases h; exact .non
    · exact num_nl h
  · exact num_nl h
  · unfold rdBoxes at h
    split at h
    · cases h; exact nl_ints []
    · cases hs : rdSg x.cps.toList with
      | none => rw [hs] at h; cases h
      | some ns =>
        rw [hs] at h
        have h : (if ns ≠ [] ∧ Rise ns then some (Da.tup (ns.map Da.int)) else none) = some d := h
        split at h
        · cases h; exact nl_ints ns
        · cases h
  · unfold rdCount at h
    split at h
    · rename_i a b _
      cases ha : rdN "number" a with
      | none => rw [ha] at h; cases h
      | some n =>
        rw [ha] at h
        have h : (match rdN "aside" b with | none => none | some m => some (Da.tup [.int n, .int m])) = some d := h
        cases hb : rdN "aside" b with
        | none => rw [hb] at h; cases h
        | some m =>
          rw [hb] at h
          cases h
          exact nl_ints [n, m]
    · cases h
section
variable {P : Program} {w : World} {K : PySem.W.Frag} {mg : Str → Option Value} {base : Heap}
variable {cNT R fI : Addr} {fdI : FuncData}
def THRes (cNT : Addr) (e : Nat) (r : Option Da) (H : Hp) (Q : VK) (E : XK) : Prop := match r with
  | none => ErrT cNT e H E
  | some d => ∀ (l : Addr) (H' : Hp), Same H H' → H l = none → HD H' (.ref l) d → Q (.ref l) H'
def spTh (cNT : Addr) : Sp := fun vs H Q E => ∃ (x : Str) (e : Nat), vs = [.str x, .int (e : Int)] ∧ Asc x ∧ e < 4 ∧ THRes cNT e (rdLine e x) H Q E
theorem scRt : FnScope ["line", "at", "name", "words"] ["line", "at"] (defScope s_read_things) := ⟨rfl, rfl, rfl, by decide +kernel, rfl, by decide +kernel, by decide +kernel⟩
def csRtC1 : Scope := { kind := .function, names := [(".0", .local), ("word", .local), ("READERS", .globalImplicit), ("at", .free), ("name", .free)], isGenerator := false, isCoroutine := false, more := [] }
theorem scRtC1 : CompSc (defScope s_read_things) csRtC1 ["line", "at", "name", "words"] ["word", "at", "name"] [none, some 1, some 2] := ⟨rfl, by decide +kernel, by decide +kernel, by decide +kernel, by decide +kernel, by decide +kernel⟩
theorem ok_read_things {f fL fF fB fN : Addr} {fd fdL fdF fdB fdN : FuncData} (F : Fun K "read_things" "read_things" s_read_things f fd) (T : Txt K w.params mg) (GL : FnOk P w K mg base (CX2 P w) 4 fL fdL ["word", "at"] (spRd cNT rdLead)) (kL : PySem.W.keepIn K (.ref fL) = true) (bL : Binds K fdL ["word", "at"] []) (mL : mg "read_lead" = some (.ref fL)) (GF : FnOk P w K mg base (CX2 P w) 4 fF fdF ["word", "at"] (spRd cNT rdForm)) (kF : PySem.W.keepIn K (.ref fF) = true) (bF : Binds K fdF ["word", "at"] []) (mF : mg "read_form" = some (.ref fF)) (GB : FnOk P w K mg base (CX2 P w) 4 fB fdB ["word", "at"] (spRd cNT rdBoxes)) (kB : PySem.W.keepIn K (.ref fB) = true) (bB : Binds K fdB ["word", "at"] []) (mB : mg "read_boxes" = some (.ref fB)) (GN : FnOk P w K mg base (CX2 P w) 4 fN fdN ["word", "at"] (spRd cNT rdCount)) (kN : PySem.W.keepIn K (.ref fN) = true) (bN : Binds K fdN ["word", "at"] []) (mN : mg "read_count" = some (.ref fN)) (cx : XIni K cNT R fI) (kC : PySem.W.keepIn K (.ref cNT) = true) (GI : FnOk P w K mg base CX0 1 fI fdI ["self", "at"] (spXI cNT)) (bI : Binds K fdI ["self", "at"] []) (mNT : mg "NoText" = some (.ref cNT)) : FnOk P w K mg base (CX2 P w) 5 f fd ["line", "at"] (spTh cNT) := by
  refine F.okX scRt (fun vs H Q E h => ?_) (fun cdv A outer s H vs Q E hr h => ?_)
  · obtain ⟨x, e, rfl, _⟩ := h
    rfl
  · obtain ⟨x, e, rfl, hx, he, k⟩ := h
    have hrI : Room 2 (A.deeper (PyProof.Rows.envOfC "read_things" (defScope s_read_things) s.heap.objs.size f cdv)) := hr.mono (by decide)
    obtain ⟨pn, hpn, hN⟩ := T.g_NAMES
    obtain ⟨pq, hpq, _, ⟨q0, e0, r0⟩, ⟨q1, e1, r1⟩, ⟨q2, e2, r2⟩, ⟨q3, e3, r3⟩⟩ := T.g_READERS
    rw [mL] at e0
    cases e0
    rw [mF] at e1
    cases e1
    rw [mB] at e2
    cases e2
    rw [mN] at e3
    cases e3
    have hasc : ∀ p ∈ Txt.split x " ", Asc p := fun p hp => ⟨split_asc (c := 32) hx.1 hp, Nat.le_trans (split_mem (c := 32) hp).2 hx.2⟩
    have hcnt : (Txt.split x " ").length ≤ 3001 := Nat.le_trans (split_cnt (c := 32) x) (Nat.succ_le_succ hx.2)
    have hne := split_ne x " "
    refine wrapX (pssx_cons (psx_of (ps_set (i := 2) scRt.nd rfl (Or.inr rfl) (pe_ix ix_tup (pe_glob (v := .ref pn) (by rfl) hpn rfl) (pv 1) (fun _ _ => rfl))))
      (pssx_cons (psx_of (ps_set (i := 3) scRt.nd rfl (Or.inl rfl) (pe_bm PySem.F.plainAttrs_str PySem.F.slot_str_split PySem.F.type_str_split mt_split (pv 0) (pa_cons pe_str pa_nil))))
      (pssx_cons (psx_if (pt_cmpR op_ne (pe_ix ix_list (pv 3) pe_int (fun _ _ => rfl)) (pv 2) (nomark _)) (pssx_one (psx_of (ps_raiseC cx kC GI bI hrI mNT (by rfl) (pa_cons (pv 1) pa_nil)))) (pssx_nil pss_nil))
      (pssx_one (psx_of (ps_ret (pe_compX (N' := ["word", "at", "name"]) (fr := [none, some 1, some 2]) scRtC1 (pi_list (pe_slice sl_list (pv 3) (po_some pe_int) po_none)) (fun C s0 H0 fp => (pg_name (i := 0) scRtC1.nd rfl (Or.inl rfl))) (fun C s0 H0 fp => pts_nil) (fun C s0 H0 fp => (pe_callEC (P := P) (w := w) (K := K) (mg := mg) (base := base) (C := CX2 P w) (E := E) (k := 4) (pe_kgetK (K := K) (pr := w.params) (pe_glob (v := .ref pq) (by rfl) hpq rfl) (pv 2) (fun _ _ => rfl)) hr passX (pa_cons (pv 0) (pa_cons (pv 1) pa_nil))))))))))) ?_
    have hat : [V.str "leads", .str "forms", .str "free", .str "counts"][e]? = some (.str (nameK e)) := by
      match e, he with
      | 0, _ => rfl
      | 1, _ => rfl
      | 2, _ => rfl
      | 3, _ => rfl
    have hrd : ∃ (fX : Addr) (fdX : FuncData), KHas K w.params pq (nameK e) (some (.ref fX)) ∧ FnOk P w K mg base (CX2 P w) 4 fX fdX ["word", "at"] (spRd cNT (rdK e)) ∧ Binds K fdX ["word", "at"] [] ∧ PySem.W.keepIn K (.ref fX) = true := by
      match e, he with
      | 0, _ => exact ⟨_, _, r0, GL, bL, kL⟩
      | 1, _ => exact ⟨_, _, r1, GF, bF, kF⟩
      | 2, _ => exact ⟨_, _, r2, GB, bB, kB⟩
      | 3, _ => exact ⟨_, _, r3, GN, bN, kN⟩
    obtain ⟨fX, fdX, hKH, GX, bX, kX⟩ := hrd
    refine ⟨_, rfl, pn, _, _, .str (nameK e), rfl, rfl, hN _, atI_nat hat, ?_⟩
    refine ⟨_, rfl, rfl, x, " ", rfl, rfl, by decide, Nat.lt_of_le_of_lt hx.2 (by decide), fun lw nw => ?_⟩
    unfold rdLine at k
    generalize Txt.split x " " = ws at nw hasc hcnt k hne ⊢
    have s1 := same_new (o := .lst (ws.map V.str)) nw
    have h1 : upd H lw (.lst (ws.map V.str)) lw = _ := upd_same
    generalize upd H lw (.lst (ws.map V.str)) = H1 at s1 h1 ⊢
    cases ws with
    | nil => exact absurd rfl hne
    | cons u ws =>
    have k : THRes cNT e (if u = nameK e then (rdAll (rdK e) ws).map Da.lst else none) H Q E := k
    refine ⟨_, rfl, lw, _, 0, _, rfl, rfl, SqL.of h1, at0 _ _, _, rfl, rfl, _, rfl, ?_⟩
    by_cases c : u = nameK e
    rotate_left
    · rw [if_neg c] at k
      have k : ErrT cNT e H E := k
      refine iteP (by rw [decide_eq_false (fun z => c (V.str.inj z))]; rfl) ?_
      exact ⟨_, rfl, _, rfl, by omega, fun d nd => k _ d (s1.trans (same_new nd)) upd_same⟩
    rw [if_pos c] at k
    refine iteN (by rw [decide_eq_true (by rw [c])]; decide) ?_
    refine ⟨_, rfl, _, rfl, lw, _, rfl, SqL.of h1, fun lc nlc => ?_⟩
    rw [show cutV ((u :: ws).map V.str) (some 1) none = ws.map V.str from cut1 _ _]
    have s2 := s1.trans (same_new (o := .lst (ws.map V.str)) nlc)
    have hlc : upd H1 lc (.lst (ws.map V.str)) lc = _ := upd_same
    generalize upd H1 lc (.lst (ws.map V.str)) = G1 at s2 hlc ⊢
    refine ⟨lc, rfl, ⟨_, SqL.of hlc⟩, fun D nD => comp_list (K := K) (a := lc) (xs := ws.map V.str) (fun i σ ys G => ∃ (v : Option V) (ds : List Da), σ = [v, some (.int (e : Int)), some (.str (nameK e))] ∧ HDs G ys ds ∧ ds.length = i ∧ (∀ d ∈ ds, Nl d) ∧ rdAll (rdK e) ws = (rdAll (rdK e) (ws.drop i)).map (ds ++ ·) ∧ Same G1 G ∧ G D = some (.lst ys)) ?_ ?_ ?_ ?_⟩
    · refine ⟨none, [], rfl, .nil, rfl, fun n hn => absurd hn List.not_mem_nil, ?_, same_new nD, upd_same⟩
      rw [List.drop_zero]
      cases rdAll (rdK e) ws <;> rfl
    · rintro i σ ys G _ ⟨v, ds, rfl, _, _, _, _, s3, _⟩
      exact SqL.of (s3 _ _ hlc)
    · rintro i y σ ys G hy ⟨v, ds, rfl, hys, hil, hnl, hrd, s3, hD⟩
      rw [List.getElem?_map] at hy
      obtain ⟨wd, hwd, rfl⟩ := Option.map_eq_some_iff.mp hy
      have hi : i < ws.length := (List.getElem?_eq_some_iff.mp hwd).1
      have hdr : ws.drop i = wd :: ws.drop (i + 1) := by
        rw [List.drop_eq_getElem_cons hi, (List.getElem?_eq_some_iff.mp hwd).2]
      rw [hdr] at hrd
      have hrd : rdAll (rdK e) ws = (match rdK e wd with | none => none | some d => (rdAll (rdK e) (ws.drop (i + 1))).map (d :: ·)).map (ds ++ ·) := hrd
      have hyl := hys.len
      refine ⟨_, rfl, pq, nameK e, .ref fX, rfl, rfl, hKH, fX, fdX, _, _, rfl, GX, bX, kX, _, rfl, _, rfl, wd, e, rfl, hasc wd (List.mem_cons_of_mem _ (List.mem_of_getElem? hwd)), by omega, ?_⟩
      cases hn : rdK e wd with
      | none =>
        rw [hn] at hrd
        have hrd : rdAll (rdK e) ws = none := hrd
        rw [hrd] at k
        have k : ErrT cNT e H E := k
        exact fun H2 d s4 => k H2 d ((s2.trans s3).trans s4)
      | some d =>
        rw [hn] at hrd
        intro v2 H2 s4 hv2
        have hD2 := s4 _ _ hD
        have hdn := rdK_nl hn
        refine ⟨hD2, small_lt (by rw [List.length_cons] at hcnt; omega), _, ds ++ [d], rfl, ?_, by rw [List.length_append, hil]; rfl, fun d' hd' => ?_, ?_, same_put (s3.trans s4) nD, upd_same⟩
        · refine HDs.putN ((hys.same s4).app (.cons hv2 .nil)) hD2 fun d' hd' => ?_
          rcases List.mem_append.mp hd' with z | z
          · exact hnl d' z
          · rw [List.mem_singleton.mp z]; exact hdn
        · rcases List.mem_append.mp hd' with z | z
          · exact hnl d' z
          · rw [List.mem_singleton.mp z]; exact hdn
        · rw [hrd]
          show Option.map (ds ++ ·) ((rdAll (rdK e) (ws.drop (i + 1))).map (d :: ·)) = _
          cases rdAll (rdK e) (ws.drop (i + 1)) with
          | none => rfl
          | some l => show some (ds ++ (d :: l)) = some (ds ++ [d] ++ l); rw [List.append_assoc]; rfl
    · rintro σ ys G ⟨v, ds, rfl, hys, hil, hnl, hrd, s3, hD⟩
      rw [List.drop_of_length_le (by rw [List.length_map]; exact Nat.le_refl _)] at hrd
      have hrd : rdAll (rdK e) ws = some (ds ++ []) := hrd
      rw [List.append_nil] at hrd
      rw [hrd] at k
      exact k _ _ (s2.trans s3) (s2.free nD) (.lstS hD hys)
end
end My


set_option Elab.async false
set_option linter.all false
set_option maxRecDepth 100000
set_option maxHeartbeats 4000000
namespace My
open PySem L2
theorem cut_take (xs : List V) (n : Nat) : cutV xs none (some (n : Int)) = xs.take n := by
  unfold cutV
  have h1 : HT.sIx xs.length 0 none = 0 := rfl
  have h2 : HT.sIx xs.length xs.length (some (n : Int)) = min n xs.length := HT.sIx_nat ..
  rw [h1, h2, List.drop_zero, Nat.sub_zero]
  rcases Nat.le_total n xs.length with h | h
  · rw [Nat.min_eq_left h]
  · rw [Nat.min_eq_right h, List.take_length, List.take_of_length_le h]
theorem HD.putD {H : Hp} {v : V} {d : Da} {l : Addr} {kvs : List (Key × V)} {o : HO} (h : HD H v d) (hl : H l = some (.dK kvs)) : HD (upd H l o) v d := by
  induction h with
  | non => exact .non
  | bl b => exact .bl b
  | int i => exact .int i
  | str x => exact .str x
  | tup h e g ih => exact .tup (by rw [upd_ne (fun z => by rw [z, hl] at h; cases h)]; exact h) e ih
  | lst h e g ih => exact .lst (by rw [upd_ne (fun z => by rw [z, hl] at h; cases h)]; exact h) e ih
theorem HDs.putD {H : Hp} {xs : List V} {ds : List Da} {l : Addr} {kvs : List (Key × V)} {o : HO} (h : HDs H xs ds) (hl : H l = some (.dK kvs)) : HDs (upd H l o) xs ds := by
  induction h with
  | nil => exact .nil
  | cons h r ih => exact .cons (HD.putD h hl) ih
def kvF : Nat → List V → List (Key × V)
  | _, [] => []
  | j, v :: l => (Sum.inr (nameK j), v) :: kvF (j + 1) l
theorem kvF_put : ∀ (vs : List V) (v : V), vs.length < 4 → putK (kvF 0 vs) (Sum.inr (nameK vs.length)) v = kvF 0 (vs ++ [v])
  | [], _, _ => rfl
  | [_], _, _ => rfl
  | [_, _], _, _ => rfl
  | [_, _, _], _, _ => rfl
theorem kvF_len (j : Nat) (vs : List V) : (kvF j vs).length = vs.length := by
  induction vs generalizing j with
  | nil => rfl
  | cons v l ih => show (kvF (j + 1) l).length + 1 = l.length + 1; rw [ih]
def rdLs : Nat → List Str → Except Nat (List Da)
  | _, [] => .ok []
  | i, l :: ls => match rdLine i l with
    | none => .error i
    | some d => match rdLs (i + 1) ls with
      | .error e => .error e
      | .ok ds => .ok (d :: ds)
def appE (ds : List Da) : Except Nat (List Da) → Except Nat (List Da)
  | .error e => .error e
  | .ok l => .ok (ds ++ l)
def rdPaper (x : Str) : Except Nat (List Da) := match rdLs 0 ((Txt.split x "\n").take 4) with
  | .error e => .error e
  | .ok ds => if (Txt.split x "\n").length = 4 then .ok ds else .error (min (Txt.split x "\n").length 4)
def PRes (cNT : Addr) (r : Except Nat (List Da)) (H : Hp) (Q : VK) (E : XK) : Prop := match r with
  | .ok ds => ∀ p vs H', Same H H' → H p = none → H' p = some (.dK (kvF 0 vs)) → HDs H' vs ds → ds.length = 4 → (∀ v ∈ vs, ∃ l, v = .ref l ∧ H l = none) → Q (.ref p) H'
  | .error e => ErrT cNT e H E
section
variable {P : Program} {w : World} {K : PySem.W.Frag} {mg : Str → Option Value} {base : Heap}
variable {cNT R fI : Addr} {fdI : FuncData}
def spRp (cNT : Addr) : Sp := fun vs H Q E => ∃ v : V, vs = [v] ∧ ((∃ t, TyOf K H v t ∧ PySem.W.kitOne K t (.type "str") = some false ∧ ErrT cNT 0 H E) ∨ ∃ x : Str, v = .str x ∧ Asc x ∧ PRes cNT (rdPaper x) H Q E)
theorem scRp : FnScope ["text", "lines", "paper", "at", "line"] ["text"] (defScope s_read_paper) := ⟨rfl, rfl, rfl, by decide +kernel, rfl, by decide +kernel, by decide +kernel⟩
theorem ok_read_paper {f fR : Addr} {fd fdR : FuncData} (F : Fun K "read_paper" "read_paper" s_read_paper f fd) (T : Txt K w.params mg) (GR : FnOk P w K mg base (CX2 P w) 5 fR fdR ["line", "at"] (spTh cNT)) (kR : PySem.W.keepIn K (.ref fR) = true) (bR : Binds K fdR ["line", "at"] []) (mR : mg "read_things" = some (.ref fR)) (cx : XIni K cNT R fI) (kC : PySem.W.keepIn K (.ref cNT) = true) (GI : FnOk P w K mg base CX0 1 fI fdI ["self", "at"] (spXI cNT)) (bI : Binds K fdI ["self", "at"] []) (mNT : mg "NoText" = some (.ref cNT)) : FnOk P w K mg base (CX2 P w) 6 f fd ["text"] (spRp (K := K) cNT) := by
  refine F.okX scRp (fun vs H Q E h => ?_) (fun cdv A outer s H vs Q E hr h => ?_)
  · obtain ⟨v, rfl, _⟩ := h
    rfl
  · obtain ⟨v, rfl, h⟩ := h
    have hrI : Room 2 (A.deeper (PyProof.Rows.envOfC "read_paper" (defScope s_read_paper) s.heap.objs.size f cdv)) := hr.mono (by decide)
    have hu1 : (A.deeper (PyProof.Rows.envOfC "read_paper" (defScope s_read_paper) s.heap.objs.size f cdv)).units + 1 < cLine := Nat.lt_of_le_of_lt (Nat.add_le_add_left (by decide : 1 ≤ 64) _) hr.units
    obtain ⟨pn, hpn, hN⟩ := T.g_NAMES
    refine wrapX (pssx_cons (psx_if (pt_not (pt_val (pe_callB call_isinst (by rfl) T.isi bt_isi (pa_cons (pv 0) (pa_cons (pe_bltn (v := .ty "str") (by rfl) T.str bt_str rfl) pa_nil))))) (pssx_one (psx_of (ps_raiseC cx kC GI bI hrI mNT (by rfl) (pa_cons pe_int pa_nil)))) (pssx_nil pss_nil))
      (pssx_cons (psx_of (ps_set (i := 1) scRp.nd rfl (Or.inl rfl) (pe_bm PySem.F.plainAttrs_str PySem.F.slot_str_split PySem.F.type_str_split mt_split (pv 0) (pa_cons pe_str pa_nil))))
      (pssx_cons (psx_of (ps_set (i := 2) scRp.nd rfl (Or.inl rfl) pe_dnewK))
      (pssx_cons (psx_of (ps_for PassesOwn.leaving rfl (pi_enum rfl T.enum (pa_cons (pe_slice sl_list (pv 1) po_none (po_some (pe_callB call_len_seq (by rfl) T.len bt_len (pa_cons (pe_glob (v := .ref pn) (by rfl) hpn rfl) pa_nil)))) pa_nil)) (pg_two (K := K) (i := 3) (j := 4) rfl rfl scRp.nd rfl (Or.inl rfl) rfl (Or.inl rfl)) (pss_one (ps_dput hu1 (pv 2) (pe_ix ix_tup (pe_glob (v := .ref pn) (by rfl) hpn rfl) (pv 3) (fun _ _ => rfl)) (pe_call GR hr (by rfl) mR kR bR .nil pass22 (pa_cons (pv 4) (pa_cons (pv 3) pa_nil))) rfl))))
      (pssx_cons (psx_if (pt_cmpR op_ne (pe_callB call_len_seq (by rfl) T.len bt_len (pa_cons (pv 1) pa_nil)) (pe_callB call_len_seq (by rfl) T.len bt_len (pa_cons (pe_glob (v := .ref pn) (by rfl) hpn rfl) pa_nil)) (nomark _)) (pssx_one (psx_of (ps_raiseC cx kC GI bI hrI mNT (by rfl) (pa_cons (pe_callB (call_min2 rfl) (by rfl) T.min bt_min (pa_cons (pe_callB call_len_seq (by rfl) T.len bt_len (pa_cons (pv 1) pa_nil)) (pa_cons (pe_callB call_len_seq (by rfl) T.len bt_len (pa_cons (pe_glob (v := .ref pn) (by rfl) hpn rfl) pa_nil)) pa_nil))) pa_nil)))) (pssx_nil pss_nil))
      (pssx_one (psx_of (ps_ret (pv 2))))))))) ?_
    rcases h with ⟨t, ht, hk, hE⟩ | ⟨x, rfl, hx, k⟩
    · exact ⟨_, rfl, _, _, _, _, rfl, ht, hk, _, rfl, iteP rfl ⟨_, rfl, by decide, fun d nd => hE _ d (same_new nd) upd_same⟩⟩
    refine ⟨_, rfl, _, _, _, _, rfl, (HD.str x).ty, kD_str (.str x), _, rfl, iteN (by show ¬ (!true) = true; decide) ?_⟩
    have hasc : ∀ p ∈ Txt.split x "\n", Asc p := fun p hp => ⟨split_asc (c := 10) hx.1 hp, Nat.le_trans (split_mem (c := 10) hp).2 hx.2⟩
    have hcnt : (Txt.split x "\n").length ≤ 3001 := Nat.le_trans (split_cnt (c := 10) x) (Nat.succ_le_succ hx.2)
    refine ⟨_, rfl, rfl, x, "\n", rfl, rfl, by decide, Nat.lt_of_le_of_lt hx.2 (by decide), fun lw nw => ?_⟩
    unfold rdPaper at k
    generalize Txt.split x "\n" = ws at nw hasc hcnt k ⊢
    have s1 := same_new (o := .lst (ws.map V.str)) nw
    have h1 : upd H lw (.lst (ws.map V.str)) lw = _ := upd_same
    generalize upd H lw (.lst (ws.map V.str)) = H1 at s1 h1 ⊢
    refine fun p np => ?_
    have npH : H p = none := Option.eq_none_iff_forall_ne_some.mpr fun o ho => by rw [s1 _ _ ho] at np; cases np
    have s2 := s1.trans (same_new (o := .dK []) np)
    have h2 := same_new (o := .dK []) np _ _ h1
    have hp2 : upd H1 p (.dK []) p = _ := upd_same
    generalize upd H1 p (.dK []) = H2 at s2 h2 hp2 ⊢
    refine ⟨_, rfl, pn, _, rfl, .inr (hN _), _, rfl, lw, _, rfl, SqL.of h2, fun lc nlc => ?_⟩
    rw [show cutV (ws.map V.str) none (some (([V.str "leads", .str "forms", .str "free", .str "counts"] : List V).length : Int)) = (ws.map V.str).take 4 from cut_take _ 4]
    have s3 := s2.trans (same_new (o := .lst ((ws.map V.str).take 4)) nlc)
    have t3 := same_new (o := .lst ((ws.map V.str).take 4)) nlc
    have hlc : upd H2 lc (.lst ((ws.map V.str).take 4)) lc = _ := upd_same
    have h3 := t3 _ _ h2
    have hp3 := t3 _ _ hp2
    have npl : H2 lc = none := nlc
    have hne : lc ≠ p := fun z => by rw [z, hp2] at nlc; cases nlc
    have hne2 : lw ≠ p := fun z => by rw [z, hp2] at h2; cases h2
    generalize upd H2 lc (.lst ((ws.map V.str).take 4)) = H3 at s3 hlc h3 hp3 ⊢
    rw [← List.map_take] at hlc
    have h4l : (ws.take 4).length ≤ 4 := by rw [List.length_take]; omega
    have hasc4 : ∀ q ∈ ws.take 4, Asc q := fun q hq => hasc q (List.mem_of_mem_take hq)
    generalize hes : ws.take 4 = es at hlc h4l hasc4 k
    refine ⟨lc, rfl, ⟨_, SqL.of hlc⟩, for_enum (K := K) (xs := es.map V.str) (fun i σ G => ∃ (v3 v4 : Option V) (vs : List V) (ds : List Da), σ = [some (.str x), some (.ref lw), some (.ref p), v3, v4] ∧ Same H G ∧ G lc = some (.lst (es.map V.str)) ∧ G lw = some (.lst (ws.map V.str)) ∧ G p = some (.dK (kvF 0 vs)) ∧ HDs G vs ds ∧ (∀ v ∈ vs, ∃ l, v = .ref l ∧ H l = none) ∧ ds.length = i ∧ i ≤ es.length ∧ rdLs 0 es = appE ds (rdLs i (es.drop i))) ?_ ?_ ?_ ?_⟩
    · refine ⟨none, none, [], [], rfl, s3, hlc, h3, hp3, .nil, (fun v hv => absurd hv List.not_mem_nil), rfl, Nat.zero_le _, ?_⟩
      rw [List.drop_zero]
      cases rdLs 0 es <;> rfl
    · rintro i σ G _ ⟨v3, v4, vs, ds, rfl, _, hG, _⟩
      exact SqL.of hG
    · rintro i y σ G tt hy ntt ⟨v3, v4, vs, ds, rfl, s4, hG, hGw, hGp, hvs, hfr, hil, _, hrd⟩
      rw [List.getElem?_map] at hy
      obtain ⟨wd, hwd, rfl⟩ := Option.map_eq_some_iff.mp hy
      have hi : i < es.length := (List.getElem?_eq_some_iff.mp hwd).1
      have hdr : es.drop i = wd :: es.drop (i + 1) := by
        rw [List.drop_eq_getElem_cons hi, (List.getElem?_eq_some_iff.mp hwd).2]
      rw [hdr] at hrd
      have hrd : rdLs 0 es = appE ds (match rdLine i wd with | none => .error i | some d => match rdLs (i + 1) (es.drop (i + 1)) with | .error e => .error e | .ok ds => .ok (d :: ds)) := hrd
      have t5 := same_new (o := .tup [V.int i, V.str wd]) ntt
      have htt : upd G tt (.tup [V.int i, V.str wd]) tt = _ := upd_same
      generalize upd G tt (.tup [V.int i, V.str wd]) = G5 at t5 htt ⊢
      refine ⟨tt, _, rfl, SqT.of htt, rfl, _, _, rfl, _, _, rfl, rfl, ?_⟩
      refine ⟨_, rfl, _, rfl, wd, i, rfl, hasc4 wd (List.mem_of_getElem? hwd), by omega, ?_⟩
      cases hn : rdLine i wd with
      | none =>
        rw [hn] at hrd
        have hrd : rdLs 0 es = .error i := hrd
        rw [hrd] at k
        have k : ErrT cNT i H E := k
        exact fun H2 d s6 => k H2 d ((s4.trans t5).trans s6)
      | some d =>
        rw [hn] at hrd
        intro l2 G6 t6 nl2 hv2
        have hv2n : H l2 = none := (s4.trans t5).free nl2
        have t6 := t5.trans t6
        have hat : [V.str "leads", .str "forms", .str "free", .str "counts"][i]? = some (.str (nameK i)) := by
          have hi4 : i < 4 := by omega
          match i, hi4 with
          | 0, _ => rfl
          | 1, _ => rfl
          | 2, _ => rfl
          | 3, _ => rfl
        have hG6 := t6 _ _ hGp
        have hvl : vs.length = i := by rw [hvs.len, hil]
        refine ⟨_, rfl, _, rfl, pn, _, _, .str (nameK i), rfl, rfl, hN _, atI_nat hat, p, _, rfl, DPut.k (k := Sum.inr (nameK i)) hG6 (small_lt (by rw [kvF_len]; omega)), ?_⟩
        rw [← hvl, kvF_put vs (.ref l2) (by omega)]
        refine ⟨_, _, vs ++ [.ref l2], ds ++ [d], by rw [hvl]; rfl, same_put (s4.trans t6) npH, ?_, ?_, upd_same, ?_, ?_, by rw [List.length_append, hil, hvl]; rfl, by omega, ?_⟩
        · rw [upd_ne hne]; exact t6 _ _ hG
        · rw [upd_ne hne2]; exact t6 _ _ hGw
        · exact HDs.putD ((hvs.same t6).app (.cons hv2 .nil)) hG6
        · intro v hv
          rcases List.mem_append.mp hv with z | z
          · exact hfr v z
          · exact ⟨l2, List.mem_singleton.mp z, hv2n⟩
        · rw [hrd, hvl]
          cases rdLs (i + 1) (es.drop (i + 1)) with
          | error e => rfl
          | ok l => show Except.ok (ds ++ (d :: l)) = Except.ok (ds ++ [d] ++ l); rw [List.append_assoc]; rfl
    · rintro σ G ⟨v3, v4, vs, ds, rfl, s4, hG, hGw, hGp, hvs, hfr, hil, _, hrd⟩
      rw [List.drop_of_length_le (by rw [List.length_map]; exact Nat.le_refl _)] at hrd
      have hrd : rdLs 0 es = .ok (ds ++ []) := hrd
      rw [List.append_nil] at hrd
      rw [hrd] at k
      have k : PRes cNT (if ws.length = 4 then .ok ds else .error (min ws.length 4)) H Q E := k
      refine ⟨_, rfl, lw, _, rfl, .inl (SqL.of hGw), pn, _, rfl, .inr (hN _), rfl, _, rfl, ?_⟩
      by_cases c : ws.length = 4
      · rw [if_pos c] at k
        refine iteN (by rw [decide_eq_true (by rw [List.length_map, c]; rfl)]; decide) ?_
        refine ⟨_, rfl, k p vs G s4 npH hGp hvs ?_ hfr⟩
        rw [hil, List.length_map, ← hes, List.length_take, c]
        rfl
      · rw [if_neg c] at k
        have k : ErrT cNT (min ws.length 4) H E := k
        refine iteP (by rw [decide_eq_false (fun z => c (by have := V.int.inj z; rw [List.length_map] at this; exact Int.ofNat.inj this))]; rfl) ?_
        refine ⟨_, rfl, lw, _, rfl, .inl (SqL.of hGw), pn, _, rfl, .inr (hN _), _, _, rfl, _, rfl, ?_, fun d nd => k _ d (s4.trans (same_new nd)) ?_⟩
        · show (if (4 : Int) < ((ws.map V.str).length : Int) then (4 : Int) else ((ws.map V.str).length : Int)).natAbs < 10 ^ 12
          rw [List.length_map]
          split <;> omega
        · have e : (if (4 : Int) < ((ws.map V.str).length : Int) then (4 : Int) else ((ws.map V.str).length : Int)) = ((min ws.length 4 : Nat) : Int) := by
            rw [List.length_map]
            split <;> omega
          rw [upd_same]
          exact congrArg (fun z => some (HO.xd [("at", V.int z)])) e
end
end My


set_option Elab.async false
set_option linter.all false
set_option maxRecDepth 100000
set_option maxHeartbeats 4000000
namespace My
open PySem L2
def tos (i : Int) : Str := Str.ofString (toString i)
theorem join_ok {a : Str} {ts : List Str} (h : (ts.map (·.length)).sum + ts.length * a.length ≤ sizeLine) : JoinOk a ts = true := by
  unfold JoinOk
  rw [StrLaws.joinTotal]
  show (!decide (_ > sizeLine)) = true
  rw [decide_eq_false (by omega)]
  rfl
theorem tos_len {i : Int} (h : i.natAbs < 10 ^ 12) : (tos i).length ≤ 13 := by
  unfold tos
  rw [PySem.ofString_length]
  exact PySem.int_text_length_le10 (k := 12) (by decide) h
theorem sum_le {ts : List Str} {n : Nat} (h : ∀ t ∈ ts, t.length ≤ n) : (ts.map (·.length)).sum ≤ ts.length * n := by
  induction ts with
  | nil => simp
  | cons a r ih =>
    have h1 := h a (by simp)
    have h2 := ih fun t ht => h t (List.mem_cons_of_mem _ ht)
    rw [List.map_cons, List.sum_cons, List.length_cons, Nat.succ_mul]
    omega
theorem log_sm {i : Int} (h : i.natAbs < 10 ^ 12) : i.natAbs.log2 < 1920 := by
  by_cases e : i.natAbs = 0
  · rw [e]; decide
  · exact Nat.lt_trans ((Nat.log2_lt e).mpr (Nat.lt_of_lt_of_le h (by decide : 10 ^ 12 ≤ 2 ^ 40))) (by decide)
/-! ### what is shown -/
def leadD : Option Int → Da
  | none => .non
  | some n => .int n
def shLead : Option Int → Str
  | none => "-"
  | some n => tos n
def shBoxes (ns : List Int) : Str := if ns = [] then "-" else Txt.join "" (ns.map tos)
def shCount (ns : List Int) : Str := Txt.join ":" (ns.map tos)
end My


set_option Elab.async false
set_option linter.all false
set_option maxRecDepth 100000
set_option maxHeartbeats 4000000
namespace My
open PySem L2
theorem pe_bmK {X : Cx} {K : PySem.W.Frag} {T : String} {name : Str} {id : String} {r : V → List V → Hp → VK → Prop} {o e : Expr} {es : List Expr} {to : TE} {t : TA} {apos cpos : Pos} (pa : PlainAttrs T) (slot : Slot T name id) (hty : typeOf (.builtin id) = pure (.type "method_descriptor")) (hm : MtR X id r) (ho : PE X o to) (ha : PA X (e :: es) t)
    (hbase : attributeBase o name X.env (eval o X.env) = eval o X.env := by rfl)
    (hfew : ((backTo cpos (starEach (e :: es) X.env)).all (fun x => !x.1) && (backToKw cpos (keywordEach [] X.env)).all (fun x => x.1.isSome)
      && decide ((e :: es).length + ([] : List Keyword).length + (if ([] : List Keyword).isEmpty then 0 else 1) < 30)) = true := by rfl)
    (hline : (apos.endLine == cpos.line) = true := by rfl) (hs : starEach (e :: es) X.env = (false, eval e X.env) :: starEach es X.env := by rfl) (hplain : (backTo cpos (starEach es X.env)).any (·.1) = false := by rfl) (hK : X.K = K := by rfl) :
    PE X (.Call (.Attribute o name apos) (e :: es) [] cpos) (tBM K T r to t) := by
  subst hK
  exact pe_bm pa slot hty hm ho ha hbase hfew hline hs hplain
def tupI (ns : List Int) : Da := .tup (ns.map Da.int)
structure Pap where
  L : List (Option Int)
  F : List Int
  B : List (List Int)
  C : List (List Int)
def Pap.das (q : Pap) : List Da := [.lst (q.L.map leadD), .lst (q.F.map Da.int), .lst (q.B.map tupI), .lst (q.C.map tupI)]
def Pap.wl (q : Pap) : List (List Str) := ["leads" :: q.L.map shLead, "forms" :: q.F.map tos, "free" :: q.B.map shBoxes, "counts" :: q.C.map shCount]
def Pap.ls (q : Pap) : List Str := q.wl.map (Txt.join " ")
def Pap.tx (q : Pap) : Str := Txt.join "\n" q.ls
def Sm (n : Int) : Prop := n.natAbs < 10 ^ 12
structure Pap.Ok (q : Pap) : Prop where
  nL : q.L.length ≤ 30
  nF : q.F.length ≤ 30
  nB : q.B.length ≤ 30
  nC : q.C.length ≤ 30
  bL : ∀ o ∈ q.L, ∀ n, o = some n → Sm n
  bF : ∀ n ∈ q.F, Sm n
  bB : ∀ ns ∈ q.B, ns.length ≤ 8 ∧ ∀ n ∈ ns, Sm n
  bC : ∀ ns ∈ q.C, ns.length ≤ 8 ∧ ∀ n ∈ ns, Sm n
  jo : ∀ ws ∈ q.wl, JoinOk " " ws = true
  jl : JoinOk "\n" q.ls = true
theorem tup_ints {H : Hp} {v : V} {ns : List Int} (h : HD H v (tupI ns)) : ∃ q, v = .ref q ∧ H q = some (.tup (ns.map V.int)) := by
  obtain ⟨q, xs, rfl, hq, hs⟩ := h.tup_inv
  have e : xs = ns.map V.int := by
    clear hq h
    induction ns generalizing xs with
    | nil => cases hs; rfl
    | cons n l ih =>
      obtain ⟨x, r, rfl, hx, hr⟩ := hs.cons_inv
      cases hx
      rw [ih _ hr]
      rfl
  exact ⟨q, rfl, e ▸ hq⟩
end My


set_option Elab.async false
set_option linter.all false
set_option maxRecDepth 100000
set_option maxHeartbeats 4000000
namespace My
open PySem L2
theorem op_fdivB {X : Cx} : OpR X (binaryOp .FloorDiv) (rI (fun _ j => 0 < j ∧ j < 18446744073709551616) fun i j => .int (i / j)) := opI fun i j _ _ _ _ _ hc q => by
  have h1 : (0 : Int) < j := hc.1
  have h2 : j < 18446744073709551616 := hc.2
  refine PyProof.Rows.floordiv_int (by omega) (by rw [Int.fdiv_eq_ediv_of_nonneg i (by omega)]; exact q) (.inl (PyProof.noPylong_of_log2 ?_))
  have h3 : j.natAbs.log2 < 64 := (Nat.log2_lt (by omega)).mpr (by omega)
  omega
section
variable {P : Program} {w : World} {K : PySem.W.Frag} {mg : Str → Option Value} {base : Heap}
def spCell : Sp := fun vs H Q _ => ∃ (a : Addr) (ns : List Int) (k : Int), vs = [.ref a, .int k] ∧ SqL K H a (ns.map V.int) ∧ 0 ≤ k ∧ ∀ c : Int, Q (.int c) H
theorem scCell : FnScope ["_law_script", "_law_k"] ["_law_script", "_law_k"] (defScope s_law_cell_at) := ⟨rfl, rfl, rfl, by decide +kernel, rfl, by decide +kernel, by decide +kernel⟩
theorem ok_law_cell_at {f : Addr} {fd : FuncData} (F : Fun K "_law_cell_at" "_law_cell_at" s_law_cell_at f fd) (T : Txt K w.params mg) : FnOk P w K mg base CX0 1 f fd ["_law_script", "_law_k"] (spCell (K := K)) := by
  refine F.ok scCell (fun vs H Q E h => ?_) (fun cdv A outer s H vs Q E hr h => ?_)
  · obtain ⟨a, ns, k, rfl, _⟩ := h
    rfl
  · obtain ⟨a, ns, k, rfl, hS, hk, q⟩ := h
    refine ⟨_, pss_cons (ps_if (pt_cmpR op_lt (pv 1) (pe_callB call_len_seq (by rfl) T.len bt_len (pa_cons (pv 0) pa_nil)) (nomark _)) (pss_one (ps_ret (pe_ix ix_list (pv 0) (pv 1) (fun _ _ => rfl)))) pss_nil)
      (pss_one (ps_ret pe_int)), ?_⟩
    refine ⟨_, rfl, _, rfl, a, _, rfl, .inl hS, _, _, rfl, rfl, _, rfl, ?_⟩
    refine ite2 (fun h1 => ?_) (fun h1 => ?_)
    · have h1 := of_decide_eq_true h1
      rw [List.length_map] at h1
      obtain ⟨j, rfl⟩ := Int.eq_ofNat_of_zero_le hk
      have hj : j < ns.length := by omega
      refine ⟨_, rfl, _, rfl, a, _, _, .int ns[j], rfl, rfl, hS, atI_nat (j := j) ?_, q _⟩
      rw [List.getElem?_map, List.getElem?_eq_getElem hj]
      rfl
    · exact q 0

def spDr : Sp := fun vs H Q _ => ∃ (c : Int) (kk n : Nat), vs = [.int c, .int (kk : Int), .int (n : Int)] ∧ n ≤ 1000 ∧ kk ≤ 1000 ∧ ∀ (l : Addr) (ms : List Int) (H' : Hp), Same H H' → H l = none → H' l = some (.lst (ms.map V.int)) → ms.length = n → (∀ x ∈ ms, 0 ≤ x ∧ x < 2147483647) → Q (.ref l) H'
theorem scDr : FnScope ["_law_cell", "_law_k", "_law_many", "_law_found", "_law_rest", "_law_j", "_law_number_here"] ["_law_cell", "_law_k", "_law_many"] (defScope s_law_draws) := ⟨rfl, rfl, rfl, by decide +kernel, rfl, by decide +kernel, by decide +kernel⟩
theorem ok_law_draws {f : Addr} {fd : FuncData} (F : Fun K "_law_draws" "_law_draws" s_law_draws f fd) (T : Txt K w.params mg)  : FnOk P w K mg base CX0 1 f fd ["_law_cell", "_law_k", "_law_many"] spDr := by
  refine F.ok scDr (fun vs H Q E h => ?_) (fun cdv A outer s H vs Q E hr h => ?_)
  · obtain ⟨c, kk, n, rfl, _⟩ := h
    rfl
  · obtain ⟨c, kk, n, rfl, hn, hkk, k⟩ := h
    refine wrapX (pssx_cons (psx_of (ps_set (i := 3) scDr.nd rfl (Or.inl rfl) (pe_lst pa_nil)))
      (pssx_cons (psx_if (pt_cmpR op_ge (pv 0) (pe_op op_pow pe_int pe_int) (nomark _)) (pssx_cons (psx_of (ps_set (i := 4) scDr.nd rfl (Or.inl rfl) (pv 0)))
      (pssx_cons (psx_of (ps_for PassesOwn.never rfl (pi_range1 rfl T.range (pa_cons (pv 2) pa_nil)) (pg_name (i := 5) scDr.nd rfl (Or.inl rfl)) (pss_cons (ps_expr (pe_bm PySem.F.plainAttrs_list PySem.F.slot_list_append PySem.F.type_list_append mt_append (pv 3) (pa_cons (pe_op op_mod (pv 4) (pe_op op_pow pe_int pe_int)) pa_nil)))
      (pss_one (ps_set (i := 4) scDr.nd rfl (Or.inl rfl) (pe_op op_fdivB (pv 4) (pe_op op_pow pe_int pe_int)))))))
      (pssx_one (psx_of (ps_ret (pv 3)))))) (pssx_nil pss_nil))
      (pssx_cons (psx_of (ps_set (i := 6) scDr.nd rfl (Or.inl rfl) (pe_op op_mod (pe_op op_mul (pe_op op_add (pe_op op_add (pe_op op_mod (pv 0) pe_int) (pe_op op_mul pe_int (pv 1))) pe_int) pe_int) pe_int)))
      (pssx_cons (psx_of (ps_for PassesOwn.never rfl (pi_range1 rfl T.range (pa_cons (pv 2) pa_nil)) (pg_name (i := 5) scDr.nd rfl (Or.inl rfl)) (pss_cons (ps_set (i := 6) scDr.nd rfl (Or.inl rfl) (pe_op op_mod (pe_op op_mul (pe_op op_add (pv 6) (pv 5)) (pe_op op_add (pe_op op_fdivB (pe_op op_add (pv 6) (pv 5)) pe_int) pe_int)) pe_int))
      (pss_one (ps_expr (pe_bm PySem.F.plainAttrs_list PySem.F.slot_list_append PySem.F.type_list_append mt_append (pv 3) (pa_cons (pe_op op_mod (pe_op op_mul (pv 6) (pe_op op_add (pe_op op_fdivB (pv 6) pe_int) pe_int)) pe_int) pa_nil)))))))
      (pssx_one (psx_of (ps_ret (pv 3)))))))) ?_
    refine ⟨Nat.le_of_ble_eq_true rfl, fun l nl => ?_⟩
    have s0 := same_new (o := .lst []) nl
    have h0 : upd H l (.lst []) l = some (.lst (([] : List Int).map V.int)) := upd_same
    generalize upd H l (.lst []) = G0 at s0 h0 ⊢
    have cp6 : CPow 10 6 := ⟨by decide, by decide, by decide⟩
    have cp18 : CPow 10 18 := ⟨by decide, by decide, by decide⟩
    refine ⟨_, rfl, _, _, rfl, rfl, cp18, _, _, rfl, rfl, _, rfl, ?_⟩
    refine ite2 (fun _ => ?_) (fun _ => ?_)
    · refine ⟨_, rfl, ?_⟩
      refine ⟨_, rfl, _, rfl, by omega, by omega, ?_⟩
      refine for_range (lo := 0) (n := ((n : Nat) : Int).toNat) (fun i σ G => ∃ (x : Int) (v : Option V) (ms : List Int), σ = [some (.int c), some (.int (kk : Int)), some (.int (n : Int)), some (.ref l), some (.int x), v, none] ∧ Same H G ∧ G l = some (.lst (ms.map V.int)) ∧ (∀ y ∈ ms, 0 ≤ y ∧ y < 2147483647) ∧ ms.length = i) ?_ ?_ ?_
      · exact ⟨c, none, [], rfl, s0, h0, fun y hy => (List.not_mem_nil hy).elim, rfl⟩
      · rintro i σ G hi ⟨x, v, ms, rfl, s1, h1, hp, hl⟩
        have hin : i < n := by rw [Int.toNat_natCast] at hi; exact hi
        refine ⟨_, rfl, .inl ⟨rfl, _, SqL.of h1⟩, _, rfl, _, _, rfl, rfl, cp6, _, _, rfl, rfl, (by show (0 : Int) < 10 ^ (6 : Int).toNat; decide), l, _, _, rfl, rfl, h1, small_lt (by rw [List.length_map]; omega), ?_⟩
        refine ⟨_, rfl, _, _, rfl, rfl, cp6, _, _, rfl, rfl, ⟨by show (0 : Int) < 10 ^ (6 : Int).toNat; decide, by show (10 : Int) ^ (6 : Int).toNat < 18446744073709551616; decide⟩, ?_⟩
        refine ⟨_, _, ms ++ [x % 10 ^ (6 : Int).toNat], rfl, same_put s1 nl, by rw [upd_same, List.map_append]; rfl, fun y hy => ?_, by rw [List.length_append, hl]; rfl⟩
        rcases List.mem_append.mp hy with z | z
        · exact hp y z
        · rw [List.mem_singleton.mp z]
          have e6 : (10 : Int) ^ (6 : Int).toNat = 1000000 := by decide
          rw [e6]
          omega
      · rintro σ G ⟨x, v, ms, rfl, s1, h1, hp, hl⟩
        exact ⟨_, rfl, k l ms G s1 nl h1 (by rw [hl, Int.toNat_natCast]) hp⟩
    · refine ⟨_, rfl, _, _, rfl, rfl, (by show (0 : Int) < 2147483647; decide), _, rfl, _, _, rfl, rfl, .inr ⟨by omega, by omega⟩, _, _, rfl, rfl, _, _, rfl, rfl, _, _, rfl, rfl, .inr ⟨by decide, by decide⟩, _, _, rfl, rfl, (by show (0 : Int) < 2147483647; decide), ?_⟩
      have hx0 : 0 ≤ (c % 2147483647 + 7919 * (kk : Int) + 1) * 48271 % 2147483647 ∧ (c % 2147483647 + 7919 * (kk : Int) + 1) * 48271 % 2147483647 < 2147483647 := ⟨Int.emod_nonneg _ (by decide), Int.emod_lt_of_pos _ (by decide)⟩
      refine ⟨_, rfl, _, rfl, by omega, by omega, ?_⟩
      refine for_range (lo := 0) (n := ((n : Nat) : Int).toNat) (fun i σ G => ∃ (x : Int) (v : Option V) (ms : List Int), σ = [some (.int c), some (.int (kk : Int)), some (.int (n : Int)), some (.ref l), none, v, some (.int x)] ∧ 0 ≤ x ∧ x < 2147483647 ∧ Same H G ∧ G l = some (.lst (ms.map V.int)) ∧ (∀ y ∈ ms, 0 ≤ y ∧ y < 2147483647) ∧ ms.length = i) ?_ ?_ ?_
      · exact ⟨_, none, [], rfl, hx0.1, hx0.2, s0, h0, fun y hy => (List.not_mem_nil hy).elim, rfl⟩
      · rintro i σ G hi ⟨x, v, ms, rfl, b1, b2, s1, h1, hp, hl⟩
        have e0 : (0 : Int) + (i : Int) = (i : Int) := by omega
        rw [e0]
        have hin : i < n := by rw [Int.toNat_natCast] at hi; exact hi
        refine ⟨_, rfl, _, rfl, _, _, rfl, rfl, _, rfl, _, rfl, _, _, rfl, rfl, _, _, rfl, rfl, ⟨by show (0 : Int) < 1009; decide, by show (1009 : Int) < _; decide⟩, _, _, rfl, rfl, _, _, rfl, rfl, .inl ⟨by omega, by omega⟩, _, _, rfl, rfl, (by show (0 : Int) < 2147483647; decide), ?_⟩
        have hy0 : 0 ≤ ((x + (i : Int)) * ((x + (i : Int)) / 1009 + 69621) % 2147483647) ∧ ((x + (i : Int)) * ((x + (i : Int)) / 1009 + 69621) % 2147483647) < 2147483647 := ⟨Int.emod_nonneg _ (by decide), Int.emod_lt_of_pos _ (by decide)⟩
        have hy1 : ((x + (i : Int)) * ((x + (i : Int)) / 1009 + 69621) % 2147483647) ≤ 2147483646 := by omega
        refine ⟨_, rfl, .inl ⟨rfl, _, SqL.of h1⟩, _, rfl, _, rfl, _, _, rfl, rfl, ⟨by show (0 : Int) < 1013; decide, by show (1013 : Int) < _; decide⟩, _, _, rfl, rfl, _, _, rfl, rfl, .inl ⟨by show -(2 ^ 64) < ((x + (i : Int)) * ((x + (i : Int)) / 1009 + 69621) % 2147483647); omega, by show ((x + (i : Int)) * ((x + (i : Int)) / 1009 + 69621) % 2147483647) < 2 ^ 64; omega⟩, _, _, rfl, rfl, (by show (0 : Int) < 2147483629; decide), l, _, _, rfl, rfl, h1, small_lt (by rw [List.length_map]; omega), ?_⟩
        refine ⟨_, _, ms ++ [((x + (i : Int)) * ((x + (i : Int)) / 1009 + 69621) % 2147483647) * (((x + (i : Int)) * ((x + (i : Int)) / 1009 + 69621) % 2147483647) / 1013 + 16807) % 2147483629], rfl, hy0.1, hy0.2, same_put s1 nl, by rw [upd_same, List.map_append]; rfl, fun y hy => ?_, by rw [List.length_append, hl]; rfl⟩
        rcases List.mem_append.mp hy with z | z
        · exact hp y z
        · rw [List.mem_singleton.mp z]
          exact ⟨Int.emod_nonneg _ (by decide), Int.lt_trans (Int.emod_lt_of_pos _ (by decide)) (by decide)⟩
      · rintro σ G ⟨x, v, ms, rfl, b1, b2, s1, h1, hp, hl⟩
        exact ⟨_, rfl, k l ms G s1 nl h1 (by rw [hl, Int.toNat_natCast]) hp⟩
end
end My


set_option Elab.async false
set_option linter.all false
set_option maxRecDepth 100000
set_option maxHeartbeats 4000000
namespace My
open PySem L2
section
variable {P : Program} {w : World} {K : PySem.W.Frag} {mg : Str → Option Value} {base : Heap}
def spBx : Sp := fun vs H Q _ => ∃ n : Int, vs = [.int n] ∧ ∀ (t : Addr) (ns : List Int) (H' : Hp), Same H H' → H' t = some (.tup (ns.map V.int)) → (∀ m ∈ ns, 0 ≤ m ∧ m ≤ 7) → Rise ns → ns.length ≤ 8 → Q (.ref t) H'
theorem scBx : FnScope ["_law_number_here"] ["_law_number_here"] (defScope s_law_boxes) := ⟨rfl, rfl, rfl, by decide +kernel, rfl, by decide +kernel, by decide +kernel⟩
def csBxC1 : Scope := { kind := .function, names := [(".0", .local), ("_law_box", .local), ("_law_number_here", .free)], isGenerator := false, isCoroutine := false, more := [] }
theorem scBxC1 : CompSc (defScope s_law_boxes) csBxC1 ["_law_number_here"] ["_law_box", "_law_number_here"] [none, some 0] := ⟨rfl, by decide +kernel, by decide +kernel, by decide +kernel, by decide +kernel, by decide +kernel⟩
theorem ok_law_boxes {f : Addr} {fd : FuncData} (F : Fun K "_law_boxes" "_law_boxes" s_law_boxes f fd) (T : Txt K w.params mg)  : FnOk P w K mg base CX0 1 f fd ["_law_number_here"] spBx := by
  refine F.ok scBx (fun vs H Q E h => ?_) (fun cdv A outer s H vs Q E hr h => ?_)
  · obtain ⟨n, rfl, _⟩ := h
    rfl
  · obtain ⟨n, rfl, k⟩ := h
    refine wrapX (pssx_one (psx_of (ps_ret (pe_callTy call_tuple_of (by rfl) T.tuple bt_tuple (pa_cons (pe_comp (N' := ["_law_box", "_law_number_here"]) (fr := [none, some 0]) scBxC1 rfl (pi_range1 rfl T.range (pa_cons pe_int pa_nil)) (fun C s0 H0 fp => (pg_name (i := 0) scBxC1.nd rfl (Or.inl rfl))) (fun C s0 H0 fp => (pts_one (pt_cmpR op_eq (pe_op op_and (pe_op op_shr (pv 1) (pv 0)) pe_int) pe_int (nomark _)))) (fun C s0 H0 fp => (pv 0))) pa_nil))))) ?_
    refine ⟨_, rfl, by decide, by decide, fun D nD => comp_range (lo := 0) (n := 8) (fun i σ ys G => ∃ (v : Option V) (ns : List Int), σ = [v, some (.int n)] ∧ ys = ns.map V.int ∧ Same H G ∧ G D = some (.lst ys) ∧ (∀ m ∈ ns, 0 ≤ m ∧ m < i) ∧ Rise ns ∧ ns.length ≤ i) ?_ ?_ ?_⟩
    · exact ⟨none, [], rfl, rfl, same_new nD, upd_same, fun m hm => absurd hm List.not_mem_nil, ⟨.nil, .nil⟩, Nat.le_refl _⟩
    · rintro i σ ys G hi ⟨v, ns, rfl, rfl, s1, hD, hb, hr_, hl⟩
      have e0 : (0 : Int) + (i : Int) = (i : Int) := by omega
      rw [e0]
      refine ⟨_, rfl, _, rfl, _, _, rfl, rfl, (by show (0 : Int) ≤ (i : Int); omega), _, _, rfl, rfl, rfl, _, rfl, ?_⟩
      refine ite2 (fun _ => ?_) (fun _ => ⟨_, ns, rfl, rfl, s1, hD, fun m hm => ⟨(hb m hm).1, by have := (hb m hm).2; omega⟩, hr_, by omega⟩)
      refine ⟨_, rfl, hD, small_lt (by rw [List.length_map]; omega), _, ns ++ [(i : Int)], rfl, by rw [List.map_append]; rfl, same_put s1 nD, upd_same, fun m hm => ?_, ⟨?_, ?_⟩, by rw [List.length_append]; exact Nat.succ_le_succ hl⟩
      · rcases List.mem_append.mp hm with z | z
        · exact ⟨(hb m z).1, by have := (hb m z).2; omega⟩
        · rw [List.mem_singleton.mp z]; omega
      · refine List.pairwise_append.mpr ⟨hr_.1, List.pairwise_singleton _ _, fun a ha b hb' => ?_⟩
        rw [List.mem_singleton.mp hb']
        exact Int.le_of_lt (hb a ha).2
      · refine List.nodup_append.mpr ⟨hr_.2, List.nodup_cons.mpr ⟨List.not_mem_nil, .nil⟩, fun a ha b hb' e => ?_⟩
        rw [List.mem_singleton.mp hb'] at e
        have := (hb a ha).2
        omega
    · rintro σ ys G ⟨v, ns, rfl, rfl, s1, hD, hb, hr_, hl⟩
      refine ⟨D, _, rfl, .inl ⟨SqL.of hD, fun t nt => ?_⟩⟩
      exact k t ns _ (s1.trans (same_new nt)) upd_same (fun m hm => ⟨(hb m hm).1, by have := (hb m hm).2; omega⟩) hr_ hl
end
end My


set_option Elab.async false
set_option linter.all false
set_option maxRecDepth 100000
set_option maxHeartbeats 4000000
namespace My
open PySem L2
def lV : Option Int → V
  | none => .non
  | some n => .int n
theorem lV_hd {H : Hp} : ∀ os : List (Option Int), HDs H (os.map lV) (os.map leadD)
  | [] => .nil
  | none :: os => .cons .non (lV_hd os)
  | some n :: os => .cons (.int n) (lV_hd os)
theorem at_ms {ms : List Int} {j : Int} (h0 : 0 ≤ j) (h1 : j < ms.length) : ∃ x, x ∈ ms ∧ atI (ms.map V.int) j = some (.int x) := by
  obtain ⟨n, rfl⟩ := Int.eq_ofNat_of_zero_le h0
  have hn : n < ms.length := by omega
  exact ⟨ms[n], List.getElem_mem hn, atI_nat (by rw [List.getElem?_map, List.getElem?_eq_getElem hn]; rfl)⟩
section
variable {P : Program} {w : World} {K : PySem.W.Frag} {mg : Str → Option Value} {base : Heap}
def spLe : Sp := fun vs H Q _ => ∃ (c : Int) (kk : Nat), vs = [.int c, .int (kk : Int)] ∧ kk ≤ 1000 ∧ ∀ (l : Addr) (os : List (Option Int)) (H' : Hp), Same H H' → H l = none → H' l = some (.lst (os.map lV)) → os.length ≤ 20 → (∀ o ∈ os, ∀ n, o = some n → 0 ≤ n ∧ n ≤ 1000000000) → Q (.ref l) H'
theorem scLe : FnScope ["_law_cell", "_law_k", "_law_xs", "_law_found", "_law_j", "_law_wide"] ["_law_cell", "_law_k"] (defScope s_law_leads) := ⟨rfl, rfl, rfl, by decide +kernel, rfl, by decide +kernel, by decide +kernel⟩
theorem ok_law_leads {f fD : Addr} {fd fdD : FuncData} (F : Fun K "_law_leads" "_law_leads" s_law_leads f fd) (T : Txt K w.params mg) (GD : FnOk P w K mg base CX0 1 fD fdD ["_law_cell", "_law_k", "_law_many"] spDr) (kD : PySem.W.keepIn K (.ref fD) = true) (bD : Binds K fdD ["_law_cell", "_law_k", "_law_many"] []) (mD : mg "_law_draws" = some (.ref fD)) : FnOk P w K mg base CX0 2 f fd ["_law_cell", "_law_k"] spLe := by
  refine F.ok scLe (fun vs H Q E h => ?_) (fun cdv A outer s H vs Q E hr h => ?_)
  · obtain ⟨c, kk, rfl, _⟩ := h
    rfl
  · obtain ⟨c, kk, rfl, hk, k⟩ := h
    refine wrapX (pssx_cons (psx_of (ps_set (i := 2) scLe.nd rfl (Or.inl rfl) (pe_call GD hr (by rfl) mD kD bD .nil pass0 (pa_cons (pv 0) (pa_cons (pv 1) (pa_cons pe_int pa_nil))))))
      (pssx_cons (psx_of (ps_set (i := 3) scLe.nd rfl (Or.inl rfl) (pe_lst pa_nil)))
      (pssx_cons (psx_of (ps_for PassesOwn.never rfl (pi_range1 rfl T.range (pa_cons (pe_op op_mod (pe_ix ix_list (pv 2) pe_int (fun _ _ => rfl)) pe_int) pa_nil)) (pg_name (i := 4) scLe.nd rfl (Or.inl rfl)) (pss_cons (ps_set (i := 5) scLe.nd rfl (Or.inl rfl) (pe_op op_add (pe_op op_mul (pe_ix ix_list (pv 2) (pe_op op_add pe_int (pe_op op_mul pe_int (pv 4))) (fun _ _ => rfl)) (pe_op op_pow pe_int pe_int)) (pe_ix ix_list (pv 2) (pe_op op_add pe_int (pe_op op_mul pe_int (pv 4))) (fun _ _ => rfl))))
      (pss_one (ps_expr (pe_bm PySem.F.plainAttrs_list PySem.F.slot_list_append PySem.F.type_list_append mt_append (pv 3) (pa_cons (pe_ix ix_list (pe_lst (pa_cons pe_non (pa_cons (pe_op op_mod (pv 5) pe_int) (pa_cons (pe_op op_mod (pv 5) (pe_op op_add (pe_op op_pow pe_int pe_int) pe_int)) pa_nil)))) (pe_callB (call_min2 rfl) (by rfl) T.min bt_min (pa_cons pe_int (pa_cons (pe_op op_mod (pe_op op_fdivB (pe_ix ix_list (pv 2) (pe_op op_mul pe_int (pv 4)) (fun _ _ => rfl)) pe_int) pe_int) pa_nil))) (fun _ _ => rfl)) pa_nil)))))))
      (pssx_one (psx_of (ps_ret (pv 3))))))) ?_
    refine ⟨_, rfl, _, rfl, c, kk, 62, rfl, by decide, hk, fun lx ms G1 s1 nlx hlx hml hmp => ?_⟩
    refine ⟨Nat.le_of_ble_eq_true rfl, fun l nl => ?_⟩
    have nH : H l = none := Option.eq_none_iff_forall_ne_some.mpr fun o ho => by rw [s1 _ _ ho] at nl; cases nl
    have s2 := s1.trans (same_new (o := .lst []) nl)
    have hx2 := same_new (o := .lst []) nl _ _ hlx
    have h2 : upd G1 l (.lst []) l = some (.lst (([] : List (Option Int)).map lV)) := upd_same
    generalize upd G1 l (.lst []) = G2 at s2 hx2 h2 ⊢
    obtain ⟨x0, m0, e0⟩ := at_ms (ms := ms) (j := 0) (by decide) (by rw [hml]; decide)
    refine ⟨_, rfl, lx, _, 0, _, rfl, rfl, SqL.of hx2, e0, _, _, rfl, rfl, (by show (0 : Int) < 21; decide), ?_⟩
    have hr0 : 0 ≤ x0 % 21 ∧ x0 % 21 < 21 := ⟨Int.emod_nonneg _ (by decide), Int.emod_lt_of_pos _ (by decide)⟩
    refine ⟨_, rfl, by show -(2 ^ 62) ≤ x0 % 21; omega, by show x0 % 21 < 2 ^ 62; omega, ?_⟩
    refine for_range (lo := 0) (n := (x0 % 21).toNat) (fun i σ G => ∃ (v4 v5 : Option V) (os : List (Option Int)), σ = [some (.int c), some (.int (kk : Int)), some (.ref lx), some (.ref l), v4, v5] ∧ Same H G ∧ G lx = some (.lst (ms.map V.int)) ∧ G l = some (.lst (os.map lV)) ∧ os.length = i ∧ (∀ o ∈ os, ∀ n, o = some n → 0 ≤ n ∧ n ≤ 1000000000)) ?_ ?_ ?_
    · exact ⟨none, none, [], rfl, s2, hx2, h2, rfl, fun o ho => absurd ho List.not_mem_nil⟩
    · rintro i σ G hi ⟨v4, v5, os, rfl, s3, hx3, h3, hl, hb⟩
      have e0 : (0 : Int) + (i : Int) = (i : Int) := by omega
      rw [e0]
      have hi20 : i < 20 := by omega
      obtain ⟨xa, ma, ea⟩ := at_ms (ms := ms) (j := 1 + 3 * (i : Int)) (by omega) (by rw [hml]; omega)
      obtain ⟨xb, mb, eb⟩ := at_ms (ms := ms) (j := 2 + 3 * (i : Int)) (by omega) (by rw [hml]; omega)
      obtain ⟨xc, mc, ec⟩ := at_ms (ms := ms) (j := 3 * (i : Int)) (by omega) (by rw [hml]; omega)
      have ba := hmp xa ma
      have bb := hmp xb mb
      have bc := hmp xc mc
      have cp6 : CPow 10 6 := ⟨by decide, by decide, by decide⟩
      have cp9 : CPow 10 9 := ⟨by decide, by decide, by decide⟩
      refine ⟨_, rfl, _, rfl, _, _, rfl, rfl, .inl ⟨by decide, by decide⟩, _, _, rfl, rfl, lx, _, _, _, rfl, rfl, SqL.of hx3, ea, _, _, rfl, rfl, cp6, _, _, rfl, rfl, .inl ⟨by omega, by omega⟩, _, rfl, _, rfl, _, _, rfl, rfl, .inl ⟨by decide, by decide⟩, _, _, rfl, rfl, lx, _, _, _, rfl, rfl, SqL.of hx3, eb, _, _, rfl, rfl, ?_⟩
      refine ⟨_, rfl, .inl ⟨rfl, _, SqL.of h3⟩, ?_⟩
      refine ⟨_, rfl, _, _, rfl, rfl, (by show (0 : Int) < 40; decide), _, rfl, _, _, rfl, rfl, cp9, _, _, rfl, rfl, _, _, rfl, rfl, (by show (0 : Int) < 10 ^ (9 : Int).toNat + 1; decide), (by show 3 ≤ sizeLine; decide), fun l3 n3 => ?_⟩
      have hd : 0 ≤ xc / 21 % 4 ∧ xc / 21 % 4 < 4 := ⟨Int.emod_nonneg _ (by decide), Int.emod_lt_of_pos _ (by decide)⟩
      have key : ∀ (a b : Int), 0 ≤ a ∧ a ≤ 1000000000 → 0 ≤ b ∧ b ≤ 1000000000 → ∃ o : Option Int, atI [V.non, .int a, .int b] (if xc / 21 % 4 < 2 then xc / 21 % 4 else 2) = some (lV o) ∧ ∀ n, o = some n → 0 ≤ n ∧ n ≤ 1000000000 := fun a b ha hb' => by
        rcases (by omega : xc / 21 % 4 = 0 ∨ xc / 21 % 4 = 1 ∨ 2 ≤ xc / 21 % 4) with e | e | e
        · rw [e]; exact ⟨none, rfl, fun n z => by cases z⟩
        · rw [e]; exact ⟨some a, rfl, fun n z => by cases z; exact ha⟩
        · rw [if_neg (by omega)]; exact ⟨some b, rfl, fun n z => by cases z; exact hb'⟩
      have e9 : (10 : Int) ^ (9 : Int).toNat + 1 = 1000000001 := by decide
      obtain ⟨o, ho, hbo⟩ := key ((xa * 10 ^ (6 : Int).toNat + xb) % 40) ((xa * 10 ^ (6 : Int).toNat + xb) % (10 ^ (9 : Int).toNat + 1)) ⟨Int.emod_nonneg _ (by decide), by have := Int.emod_lt_of_pos (xa * 10 ^ (6 : Int).toNat + xb) (show (0 : Int) < 40 by decide); omega⟩ ⟨Int.emod_nonneg _ (by rw [e9]; decide), by rw [e9]; have := Int.emod_lt_of_pos (xa * 10 ^ (6 : Int).toNat + xb) (show (0 : Int) < 1000000001 by decide); omega⟩
      have z3 := same_new (o := .lst [V.non, .int ((xa * 10 ^ (6 : Int).toNat + xb) % 40), .int ((xa * 10 ^ (6 : Int).toNat + xb) % (10 ^ (9 : Int).toNat + 1))]) n3
      refine ⟨_, rfl, _, rfl, _, _, rfl, rfl, .inl ⟨by decide, by decide⟩, lx, _, _, _, rfl, rfl, SqL.of (z3 _ _ hx3), ec, _, _, rfl, rfl, ⟨by show (0 : Int) < 21; decide, by show (21 : Int) < _; decide⟩, _, _, rfl, rfl, (by show (0 : Int) < 4; decide), _, _, rfl, l3, _, _, _, rfl, rfl, SqL.of upd_same, ho, l, _, _, rfl, rfl, z3 _ _ h3, small_lt (by rw [List.length_map]; omega), ?_⟩
      have hne : lx ≠ l := fun z => by rw [z] at hlx; rw [hlx] at nl; cases nl
      refine ⟨_, _, os ++ [o], rfl, same_put (s3.trans z3) nH, by rw [upd_ne hne]; exact z3 _ _ hx3, by rw [upd_same, List.map_append]; rfl, by rw [List.length_append, hl]; rfl, fun o' ho' => ?_⟩
      rcases List.mem_append.mp ho' with z | z
      · exact hb o' z
      · rw [List.mem_singleton.mp z]; exact hbo
    · rintro σ G ⟨v4, v5, os, rfl, s3, hx3, h3, hl, hb⟩
      exact ⟨_, rfl, k l os G s3 nH h3 (by omega) hb⟩
end
end My


set_option Elab.async false
set_option linter.all false
set_option maxRecDepth 100000
set_option maxHeartbeats 4000000
namespace My
open PySem L2
open PySem.NumText PySem.W.KIN
/-! ### a number's text is read to it, and the other way -/
abbrev dgs (m : Nat) : List Nat := (Nat.toDigits 10 m).map Char.toNat
theorem tos_nat (m : Nat) : (tos (m : Int)).cps.toList = dgs m := signs_num m
theorem tos_neg (m : Nat) : (tos (-((m + 1 : Nat) : Int))).cps.toList = 45 :: dgs (m + 1) := by
  unfold tos
  rw [PyProof.Rows.signs_ofString]
  show (toString (Int.negSucc m)).toList.map Char.toNat = _
  show ("-" ++ Nat.repr (m + 1)).toList.map Char.toNat = _
  rw [String.toList_append, List.map_append, Nat.toList_repr]
  rfl
theorem dgs_all (m : Nat) : AllDigits (dgs m) := by
  intro c hc
  obtain ⟨ch, hch, e⟩ := List.mem_map.mp hc
  have r := PyProof.Rows.digit_range (Nat.isDigit_of_mem_toDigits (by decide) (by decide) hch)
  rw [← e]
  exact r
theorem dgs_ne (m : Nat) : dgs m ≠ [] := by
  intro e
  exact Nat.toDigits_ne_nil (List.map_eq_nil_iff.mp e)
theorem dgs_len {m k : Nat} (h : m < 10 ^ k) (hk : 0 < k) : (dgs m).length ≤ k := by
  rw [List.length_map]
  exact (Nat.length_toDigits_le_iff (by decide) hk).mpr h
theorem dgs_head (m : Nat) : m = 0 ∨ ∃ c r, dgs m = c :: r ∧ c ≠ 48 := by
  induction m using Nat.strongRecOn with
  | _ m ih =>
    by_cases h : m < 10
    · by_cases h0 : m = 0
      · exact .inl h0
      · refine .inr ⟨(Nat.digitChar m).toNat, [], ?_, ?_⟩
        · unfold dgs
          rw [Nat.toDigits_of_lt_base h]
          rfl
        · have := digit_back m h
          intro z
          omega
    · have hm : m % 10 < 10 := Nat.mod_lt m (by decide)
      have t : Nat.toDigits 10 (m / 10) ++ Nat.toDigits 10 (m % 10) = Nat.toDigits 10 (10 * (m / 10) + m % 10) := Nat.toDigits_append_toDigits (by decide) (by omega) hm
      rw [Nat.div_add_mod] at t
      rcases ih (m / 10) (by omega) with z | ⟨c, r, e, hc⟩
      · omega
      · refine .inr ⟨c, r ++ (Nat.toDigits 10 (m % 10)).map Char.toNat, ?_, hc⟩
        unfold dgs at e ⊢
        rw [← t, List.map_append, e]
        rfl
theorem figP_of {x : Str} {m : Nat} (h : x.cps.toList = dgs m) : figP x = true := by
  unfold figP
  rw [Bool.and_eq_true]
  refine ⟨List.all_eq_true.mpr fun c hc => decide_eq_true (dgs_all m c (h ▸ hc)), ?_⟩
  rcases dgs_head m with rfl | ⟨c, r, e, hc⟩
  · have : x = "0" := str_ext (by rw [h]; decide)
    rw [this]
    decide
  · rw [e] at h
    have h1 : ¬ x = "" := fun z => by rw [z] at h; cases h
    have h2 : ¬ x.cps[0]? = some 48 := by
      rw [← Array.getElem?_toList, h]
      intro z
      exact hc (Option.some.inj z)
    rw [decide_eq_true h1, decide_eq_true h2]
    simp
theorem readN_nat {m k : Nat} (h : m < 10 ^ k) (hk : 0 < k) : readN k (tos (m : Int)) = some (m : Int) := by
  have e := tos_nat m
  have hn : negS (tos (m : Int)) = false := by
    unfold negS
    rw [e]
    apply decide_eq_false
    intro z
    cases hd : dgs m with
    | nil => exact dgs_ne m hd
    | cons c r =>
      rw [hd] at z
      have := dgs_all m c (by rw [hd]; simp)
      have : c = 45 := Option.some.inj z
      omega
  have hf : figsOf (tos (m : Int)) = tos (m : Int) := if_neg (by rw [hn]; decide)
  have hl : (tos (m : Int)).length ≤ k := by
    have := dgs_len h hk
    rw [← e] at this
    simpa [Str.length] using this
  unfold readN
  rw [hf, if_neg (fun z => z.elim (fun z => by omega) (fun z => z (figP_of e))), if_neg (fun z => by rw [hn] at z; cases z.1), if_neg (by rw [hn]; decide)]
  unfold numOf
  rw [e, val_back]
theorem readN_neg {m k : Nat} (h : m + 1 < 10 ^ k) (hk : 0 < k) : readN k (tos (-((m + 1 : Nat) : Int))) = some (-((m + 1 : Nat) : Int)) := by
  have e := tos_neg m
  have hn : negS (tos (-((m + 1 : Nat) : Int))) = true := by
    unfold negS
    rw [e]
    rfl
  have hf : figsOf (tos (-((m + 1 : Nat) : Int))) = tailS (tos (-((m + 1 : Nat) : Int))) := if_pos hn
  have e2 : (tailS (tos (-((m + 1 : Nat) : Int)))).cps.toList = dgs (m + 1) := by
    unfold tailS
    rw [e]
    rfl
  have hl : (tailS (tos (-((m + 1 : Nat) : Int)))).length ≤ k := by
    have := dgs_len h hk
    rw [← e2] at this
    simpa [Str.length] using this
  have h0 : ¬ tailS (tos (-((m + 1 : Nat) : Int))) = "0" := fun z => by
    rw [z] at e2
    have := congrArg digitsVal e2
    rw [val_back] at this
    exact absurd this (by rw [show digitsVal ("0" : Str).cps.toList = 0 by decide]; omega)
  unfold readN
  rw [hf, if_neg (fun z => z.elim (fun z => by omega) (fun z => z (figP_of e2))), if_neg (fun z => h0 z.2), if_pos hn]
  unfold numOf
  rw [e2, val_back]
theorem readN_tos {i : Int} {k : Nat} (h : i.natAbs < 10 ^ k) (hk : 0 < k) : readN k (tos i) = some i := by
  rcases Int.le_total 0 i with z | z
  · obtain ⟨m, rfl⟩ := Int.eq_ofNat_of_zero_le z
    exact readN_nat (by simpa using h) hk
  · by_cases h0 : i = 0
    · subst h0
      exact readN_nat (m := 0) (Nat.pow_pos (by decide)) hk
    · obtain ⟨m, hm⟩ : ∃ m : Nat, i = -((m + 1 : Nat) : Int) := ⟨i.natAbs - 1, by omega⟩
      subst hm
      exact readN_neg (by omega) hk
theorem figs_back {x : Str} (h : figP x = true) : x.cps.toList = dgs (digitsVal x.cps.toList) := by
  obtain ⟨hd, hne⟩ := fig_digits h
  cases hx : x.cps.toList with
  | nil => exact absurd hx hne
  | cons c r =>
    have e := toDigits_digitsVal r.length (c :: r) (by simp) (hx ▸ hd) (by
      by_cases hr : r.length = 0
      · exact .inl hr
      · refine .inr ⟨c, r, rfl, ?_⟩
        have hc := hd c (by rw [hx]; simp)
        unfold figP at h
        rw [Bool.and_eq_true, Bool.or_eq_true, Bool.and_eq_true] at h
        rcases h.2 with z | z
        · have := of_decide_eq_true z
          rw [this] at hx
          have := (List.cons.inj hx).2
          rw [← this] at hr
          exact absurd rfl hr
        · have z := of_decide_eq_true z.2
          rw [← Array.getElem?_toList, hx] at z
          have : c ≠ 48 := fun y => z (by rw [y]; rfl)
          omega)
    unfold dgs
    rw [e, List.map_map]
    have : ∀ d ∈ c :: r, (Char.toNat ∘ Char.ofNat) d = d := fun d hd' => by
      have z := hd d (by rw [hx]; exact hd')
      have : ∀ d : Nat, d < 58 → (Char.ofNat d).toNat = d := by decide
      exact this d (by omega)
    rw [List.map_congr_left this, List.map_id']
end My


set_option Elab.async false
set_option linter.all false
set_option maxRecDepth 100000
set_option maxHeartbeats 4000000
namespace My
open PySem L2
theorem rdN_tos {kd : Str} {n : Int} (h : n.natAbs < 10 ^ 10) (hb : (bdK kd).1 ≤ n ∧ n ≤ (bdK kd).2) : rdN kd (tos n) = some n := by
  unfold rdN
  rw [show readN 10 (tos n) = some n from readN_tos (k := 10) h (by decide)]
  exact if_pos hb
theorem tos_dash {n : Int} (h : n.natAbs < 10 ^ 10) : tos n ≠ "-" := fun e => by
  have a : readN 10 (tos n) = some n := readN_tos (k := 10) h (by decide)
  rw [e, show readN 10 "-" = none by decide +kernel] at a
  cases a
theorem rdLead_sh {o : Option Int} (h : ∀ n, o = some n → 0 ≤ n ∧ n ≤ 1000000000) : rdLead (shLead o) = some (leadD o) := by
  unfold rdLead
  cases o with
  | none => rfl
  | some n =>
    have hn := h n rfl
    have hs : n.natAbs < 10 ^ 10 := by omega
    show (if tos n = "-" then some Da.non else rdNum "target" (tos n)) = some (.int n)
    rw [if_neg (tos_dash hs)]
    unfold rdNum
    rw [rdN_tos (kd := "target") hs (by rw [show bdK "target" = ((0 : Int), (1000000000 : Int)) by decide +kernel]; exact hn)]
    rfl
theorem rdForm_sh {n : Int} (h : 0 ≤ n ∧ n ≤ 1) : rdForm (tos n) = some (.int n) := by
  unfold rdForm rdNum
  rw [rdN_tos (kd := "far") (by omega) (by rw [show bdK "far" = ((0 : Int), (1 : Int)) by decide +kernel]; exact h)]
  rfl
end My


set_option Elab.async false
set_option linter.all false
set_option maxRecDepth 100000
set_option maxHeartbeats 4000000
namespace My
open PySem L2
theorem cut_some {ms : List Int} (k : Nat) : ∃ ms' : List Int, cutV (ms.map V.int) (some 1) (some (1 + (k : Int))) = ms'.map V.int ∧ ms'.length ≤ k ∧ ∀ x ∈ ms', x ∈ ms := by
  have h1 : HT.sIx (ms.map V.int).length 0 (some ((1 : Nat) : Int)) = min 1 (ms.map V.int).length := HT.sIx_nat ..
  have h2 : HT.sIx (ms.map V.int).length (ms.map V.int).length (some ((1 + k : Nat) : Int)) = min (1 + k) (ms.map V.int).length := HT.sIx_nat ..
  have e : (1 : Int) + (k : Int) = ((1 + k : Nat) : Int) := by omega
  rw [e]
  unfold cutV
  refine ⟨(ms.drop (HT.sIx (ms.map V.int).length 0 (some 1))).take (HT.sIx (ms.map V.int).length (ms.map V.int).length (some ((1 + k : Nat) : Int)) - HT.sIx (ms.map V.int).length 0 (some 1)), ?_, ?_, ?_⟩
  · rw [List.map_take, List.map_drop]
  · rw [List.length_take, h2, show HT.sIx (ms.map V.int).length 0 (some 1) = _ from h1]
    omega
  · intro x hx
    exact List.mem_of_mem_drop (List.mem_of_mem_take hx)
/-- a paper as drawn -/
structure PapG (q : Pap) : Prop where
  L1 : q.L.length ≤ 20
  L2 : ∀ o ∈ q.L, ∀ n, o = some n → 0 ≤ n ∧ n ≤ 1000000000
  F1 : q.F.length ≤ 24
  F2 : ∀ n ∈ q.F, 0 ≤ n ∧ n ≤ 1
  B1 : q.B.length ≤ 24
  B2 : ∀ ns ∈ q.B, (∀ m ∈ ns, 0 ≤ m ∧ m ≤ 7) ∧ Rise ns ∧ ns.length ≤ 8
  C1 : q.C.length ≤ 6
  C2 : ∀ ns ∈ q.C, ∃ a b, ns = [a, b] ∧ (0 ≤ a ∧ a ≤ 1000000) ∧ 0 ≤ b ∧ b ≤ 1000000
theorem nl_tupI (L : List (List Int)) : ∀ d ∈ L.map tupI, Nl d := fun d hd => by
  obtain ⟨ns, _, rfl⟩ := List.mem_map.mp hd
  exact nl_ints ns
theorem ints_hd {H : Hp} : ∀ ns : List Int, HDs H (ns.map V.int) (ns.map Da.int)
  | [] => .nil
  | n :: ns => .cons (.int n) (ints_hd ns)
section
variable {P : Program} {w : World} {K : PySem.W.Frag} {mg : Str → Option Value} {base : Heap}
def spPa : Sp := fun vs H Q _ => ∃ (a : Addr) (ns : List Int) (at_ : Nat), vs = [.ref a, .int (at_ : Int)] ∧ SqL K H a (ns.map V.int) ∧ at_ ≤ 900 ∧ ∀ (p : Addr) (us : List V) (q : Pap) (H' : Hp), Same H H' → H p = none → H' p = some (.dK (kvF 0 us)) → HDs H' us q.das → PapG q → Q (.ref p) H'
theorem scPa : FnScope ["_law_script", "_law_at", "_law_forms", "_law_free", "_law_counts", "_law_paper_here", "_law_k", "_law_name"] ["_law_script", "_law_at"] (defScope s_law_paper) := ⟨rfl, rfl, rfl, by decide +kernel, rfl, by decide +kernel, by decide +kernel⟩
def csPaC1 : Scope := { kind := .function, names := [(".0", .local), ("_law_form", .local)], isGenerator := false, isCoroutine := false, more := [] }
theorem scPaC1 : CompSc (defScope s_law_paper) csPaC1 ["_law_script", "_law_at", "_law_forms", "_law_free", "_law_counts", "_law_paper_here", "_law_k", "_law_name"] ["_law_form"] [none] := ⟨rfl, by decide +kernel, by decide +kernel, by decide +kernel, by decide +kernel, by decide +kernel⟩
def csPaC2 : Scope := { kind := .function, names := [(".0", .local), ("_law_boxes_here", .local), ("_law_boxes", .globalImplicit)], isGenerator := false, isCoroutine := false, more := [] }
theorem scPaC2 : CompSc (defScope s_law_paper) csPaC2 ["_law_script", "_law_at", "_law_forms", "_law_free", "_law_counts", "_law_paper_here", "_law_k", "_law_name"] ["_law_boxes_here"] [none] := ⟨rfl, by decide +kernel, by decide +kernel, by decide +kernel, by decide +kernel, by decide +kernel⟩
theorem ok_law_paper {f fD fC fL fB : Addr} {fd fdD fdC fdL fdB : FuncData} (F : Fun K "_law_paper" "_law_paper" s_law_paper f fd) (T : Txt K w.params mg) (GD : FnOk P w K mg base CX0 1 fD fdD ["_law_cell", "_law_k", "_law_many"] spDr) (kD : PySem.W.keepIn K (.ref fD) = true) (bD : Binds K fdD ["_law_cell", "_law_k", "_law_many"] []) (mD : mg "_law_draws" = some (.ref fD))(GC : FnOk P w K mg base CX0 1 fC fdC ["_law_script", "_law_k"] (spCell (K := K))) (kC : PySem.W.keepIn K (.ref fC) = true) (bC : Binds K fdC ["_law_script", "_law_k"] []) (mC : mg "_law_cell_at" = some (.ref fC))(GL : FnOk P w K mg base CX0 2 fL fdL ["_law_cell", "_law_k"] spLe) (kL : PySem.W.keepIn K (.ref fL) = true) (bL : Binds K fdL ["_law_cell", "_law_k"] []) (mL : mg "_law_leads" = some (.ref fL))(GB : FnOk P w K mg base CX0 1 fB fdB ["_law_number_here"] spBx) (kB : PySem.W.keepIn K (.ref fB) = true) (bB : Binds K fdB ["_law_number_here"] []) (mB : mg "_law_boxes" = some (.ref fB)) : FnOk P w K mg base CX0 3 f fd ["_law_script", "_law_at"] (spPa (K := K)) := by
  refine F.ok scPa (fun vs H Q E h => ?_) (fun cdv A outer s H vs Q E hr h => ?_)
  · obtain ⟨a, ns, at_, rfl, _⟩ := h
    rfl
  · obtain ⟨a, ns, at_, rfl, hsc, hat, k⟩ := h
    have hu1 : (A.deeper (PyProof.Rows.envOfC "_law_paper" (defScope s_law_paper) s.heap.objs.size f cdv)).units + 1 < cLine := Nat.lt_of_le_of_lt (Nat.add_le_add_left (by decide : 1 ≤ 64) _) hr.units
    refine wrapX (pssx_cons (psx_of (ps_set (i := 2) scPa.nd rfl (Or.inl rfl) (pe_call GD (hr.mono (by decide)) (by rfl) mD kD bD .nil pass0 (pa_cons (pe_call GC (hr.mono (by decide)) (by rfl) mC kC bC .nil pass0 (pa_cons (pv 0) (pa_cons (pe_op op_add (pv 1) pe_int) pa_nil))) (pa_cons (pe_op op_add (pv 1) pe_int) (pa_cons pe_int pa_nil))))))
      (pssx_cons (psx_of (ps_set (i := 3) scPa.nd rfl (Or.inl rfl) (pe_call GD (hr.mono (by decide)) (by rfl) mD kD bD .nil pass0 (pa_cons (pe_call GC (hr.mono (by decide)) (by rfl) mC kC bC .nil pass0 (pa_cons (pv 0) (pa_cons (pe_op op_add (pv 1) pe_int) pa_nil))) (pa_cons (pe_op op_add (pv 1) pe_int) (pa_cons pe_int pa_nil))))))
      (pssx_cons (psx_of (ps_set (i := 4) scPa.nd rfl (Or.inl rfl) (pe_call GD (hr.mono (by decide)) (by rfl) mD kD bD .nil pass0 (pa_cons (pe_call GC (hr.mono (by decide)) (by rfl) mC kC bC .nil pass0 (pa_cons (pv 0) (pa_cons (pe_op op_add (pv 1) pe_int) pa_nil))) (pa_cons (pe_op op_add (pv 1) pe_int) (pa_cons pe_int pa_nil))))))
      (pssx_cons (psx_of (ps_set (i := 5) scPa.nd rfl (Or.inl rfl) (pe_disp (pps_cons pe_str (pe_call GL hr (by rfl) mL kL bL .nil pass0 (pa_cons (pe_call GC (hr.mono (by decide)) (by rfl) mC kC bC .nil pass0 (pa_cons (pv 0) (pa_cons (pv 1) pa_nil))) (pa_cons (pv 1) pa_nil))) (pps_cons pe_str (pe_lst pa_nil) (pps_cons pe_str (pe_lst pa_nil) (pps_cons pe_str (pe_lst pa_nil) pps_nil)))) rfl rfl (List.cons_ne_nil _ _) (Nat.le_of_ble_eq_true rfl))))
      (pssx_cons (psx_of (ps_dput hu1 (pv 5) pe_str (pe_comp (N' := ["_law_form"]) (fr := [none]) scPaC1 rfl (pi_list (pe_slice sl_list (pv 2) (po_some pe_int) (po_some (pe_op op_add pe_int (pe_op op_mod (pe_ix ix_list (pv 2) pe_int (fun _ _ => rfl)) pe_int))))) (fun C s0 H0 fp => (pg_name (i := 0) scPaC1.nd rfl (Or.inl rfl))) (fun C s0 H0 fp => pts_nil) (fun C s0 H0 fp => (pe_op op_mod (pv 0) pe_int))) rfl))
      (pssx_cons (psx_of (ps_dput hu1 (pv 5) pe_str (pe_comp (N' := ["_law_boxes_here"]) (fr := [none]) scPaC2 rfl (pi_list (pe_slice sl_list (pv 3) (po_some pe_int) (po_some (pe_op op_add pe_int (pe_op op_mod (pe_ix ix_list (pv 3) pe_int (fun _ _ => rfl)) pe_int))))) (fun C s0 H0 fp => (pg_name (i := 0) scPaC2.nd rfl (Or.inl rfl))) (fun C s0 H0 fp => pts_nil) (fun C s0 H0 fp => (pe_call GB (hr.mono (by decide)) (by rfl) mB kB bB .nil pass0 (pa_cons (pe_ix (r := rIxL K) ix_list (pe_lst (pa_cons pe_int (pa_cons (pe_op op_mod (pv 0) pe_int) pa_nil))) (pe_op op_mod (pe_op op_fdivB (pv 0) pe_int) pe_int) (fun _ _ => rfl)) pa_nil)))) rfl))
      (pssx_cons (psx_of (ps_for PassesOwn.never rfl (pi_range1 rfl T.range (pa_cons (pe_op op_mod (pe_ix ix_list (pv 4) pe_int (fun _ _ => rfl)) pe_int) pa_nil)) (pg_name (i := 6) scPa.nd rfl (Or.inl rfl)) (pss_cons (ps_set (i := 7) scPa.nd rfl (Or.inl rfl) (pe_ix ix_list (pe_lst (pa_cons (pe_op op_mod (pe_ix ix_list (pv 4) (pe_op op_add pe_int (pe_op op_mul pe_int (pv 6))) (fun _ _ => rfl)) pe_int) (pa_cons (pe_op op_mod (pe_ix ix_list (pv 4) (pe_op op_add pe_int (pe_op op_mul pe_int (pv 6))) (fun _ _ => rfl)) (pe_op op_add (pe_op op_pow pe_int pe_int) pe_int)) pa_nil))) (pe_op op_mod (pe_ix ix_list (pv 4) (pe_op op_add pe_int (pe_op op_mul pe_int (pv 6))) (fun _ _ => rfl)) pe_int) (fun _ _ => rfl)))
      (pss_one (ps_expr (pe_bm PySem.F.plainAttrs_list PySem.F.slot_list_append PySem.F.type_list_append mt_append (pe_dget hu1 (pv 5) pe_str (fun _ _ => rfl)) (pa_cons (pe_tup (pa_cons (pv 7) (pa_cons (pe_op op_mod (pe_ix ix_list (pv 4) (pe_op op_add pe_int (pe_op op_mul pe_int (pv 6))) (fun _ _ => rfl)) (pe_op op_add (pe_op op_pow pe_int pe_int) pe_int)) pa_nil))) pa_nil)))))))
      (pssx_one (psx_of (ps_ret (pv 5))))))))))) ?_
    refine ⟨_, rfl, _, rfl, _, _, rfl, rfl, a, ns, ((at_ + 1 : Nat) : Int), rfl, hsc, by omega, fun c1 => ?_⟩
    refine ⟨_, rfl, _, _, rfl, rfl, c1, at_ + 1, 30, rfl, by decide, by omega, fun x1 m1 G1 t1 n1 h1 l1_ b1 => ?_⟩
    have S1 := t1
    refine ⟨_, rfl, _, rfl, _, _, rfl, rfl, a, ns, ((at_ + 2 : Nat) : Int), rfl, S1.seq hsc, by omega, fun c2 => ?_⟩
    refine ⟨_, rfl, _, _, rfl, rfl, c2, at_ + 2, 30, rfl, by decide, by omega, fun x2 m2 G2 t2 n2 h2 l2_ b2 => ?_⟩
    have S2 := S1.trans t2
    have h1 := t2 _ _ h1
    refine ⟨_, rfl, _, rfl, _, _, rfl, rfl, a, ns, ((at_ + 3 : Nat) : Int), rfl, S2.seq hsc, by omega, fun c3 => ?_⟩
    refine ⟨_, rfl, _, _, rfl, rfl, c3, at_ + 3, 22, rfl, by decide, by omega, fun x3 m3 G3 t3 n3 h3 l3_ b3 => ?_⟩
    have S3 := S2.trans t3
    have h1 := t3 _ _ h1
    have h2 := t3 _ _ h2
    -- the display
    refine fun p np => ?_
    have npH : H p = none := S3.free np
    have S4 := S3.trans (same_new (o := .dK []) np)
    have t4 := same_new (o := .dK []) np
    have h1 := t4 _ _ h1
    have h2 := t4 _ _ h2
    have h3 := t4 _ _ h3
    have hp : upd G3 p (.dK []) p = some (.dK []) := upd_same
    generalize upd G3 p (.dK []) = G4 at S4 t4 h1 h2 h3 hp ⊢
    refine ⟨_, rfl, _, rfl, a, ns, (at_ : Int), rfl, S4.seq hsc, by omega, fun c0 => ?_⟩
    refine ⟨_, rfl, c0, at_, rfl, by omega, fun l0 os G5 t5 nl0 hl0 ol ob => ?_⟩
    have S5 := S4.trans t5
    have h1 := t5 _ _ h1
    have h2 := t5 _ _ h2
    have h3 := t5 _ _ h3
    have hp := t5 _ _ hp
    refine ⟨Nat.le_of_ble_eq_true rfl, fun l1 nl1 => ?_⟩
    have t6 := same_new (o := .lst []) nl1
    have S6 := S5.trans t6
    have h1 := t6 _ _ h1
    have h2 := t6 _ _ h2
    have h3 := t6 _ _ h3
    have hp := t6 _ _ hp
    have hl0 := t6 _ _ hl0
    generalize upd G5 l1 (.lst []) = G6 at S6 t6 h1 h2 h3 hp hl0 ⊢
    refine ⟨Nat.le_of_ble_eq_true rfl, fun l2 nl2 => ?_⟩
    have t7 := same_new (o := .lst []) nl2
    have S7 := S6.trans t7
    have h1 := t7 _ _ h1
    have h2 := t7 _ _ h2
    have h3 := t7 _ _ h3
    have hp := t7 _ _ hp
    have hl0 := t7 _ _ hl0
    generalize upd G6 l2 (.lst []) = G7 at S7 t7 h1 h2 h3 hp hl0 ⊢
    refine ⟨Nat.le_of_ble_eq_true rfl, fun l3 nl3 => ?_⟩
    have t8 := same_new (o := .lst []) nl3
    have S8 := S7.trans t8
    have l3H : H l3 = none := S7.free nl3
    have n10 : x1 ≠ l3 := ne_of_none h1 nl3
    have n20 : x2 ≠ l3 := ne_of_none h2 nl3
    have n30 : x3 ≠ l3 := ne_of_none h3 nl3
    have np3 : p ≠ l3 := ne_of_none hp nl3
    have n00 : l0 ≠ l3 := ne_of_none hl0 nl3
    have h1 := t8 _ _ h1
    have h2 := t8 _ _ h2
    have h3 := t8 _ _ h3
    have hp := t8 _ _ hp
    have hl0 := t8 _ _ hl0
    have hl3 : upd G7 l3 (.lst []) l3 = some (.lst []) := upd_same
    generalize upd G7 l3 (.lst []) = G8 at S8 t8 h1 h2 h3 hp hl0 hl3 ⊢
    refine ⟨hp, [(Sum.inr "leads", .ref l0), (Sum.inr "forms", .ref l1), (Sum.inr "free", .ref l2), (Sum.inr "counts", .ref l3)], rfl, Nat.le_of_ble_eq_true rfl, ?_⟩
    have h1p : x1 ≠ p := fun z => by rw [z, hp] at h1; cases h1
    have h2p : x2 ≠ p := fun z => by rw [z, hp] at h2; cases h2
    have h3p : x3 ≠ p := fun z => by rw [z, hp] at h3; cases h3
    have h0p : l0 ≠ p := fun z => by rw [z, hp] at hl0; cases hl0
    have S9 := same_put (o := .dK (mergeK [] [(Sum.inr "leads", .ref l0), (Sum.inr "forms", .ref l1), (Sum.inr "free", .ref l2), (Sum.inr "counts", .ref l3)])) S8 npH
    have h1 : upd G8 p (.dK (mergeK [] [(Sum.inr "leads", .ref l0), (Sum.inr "forms", .ref l1), (Sum.inr "free", .ref l2), (Sum.inr "counts", .ref l3)])) x1 = _ := (upd_ne h1p).trans h1
    have h2 : upd G8 p (.dK (mergeK [] [(Sum.inr "leads", .ref l0), (Sum.inr "forms", .ref l1), (Sum.inr "free", .ref l2), (Sum.inr "counts", .ref l3)])) x2 = _ := (upd_ne h2p).trans h2
    have h3 : upd G8 p (.dK (mergeK [] [(Sum.inr "leads", .ref l0), (Sum.inr "forms", .ref l1), (Sum.inr "free", .ref l2), (Sum.inr "counts", .ref l3)])) x3 = _ := (upd_ne h3p).trans h3
    have hl0 : upd G8 p (.dK (mergeK [] [(Sum.inr "leads", .ref l0), (Sum.inr "forms", .ref l1), (Sum.inr "free", .ref l2), (Sum.inr "counts", .ref l3)])) l0 = _ := (upd_ne h0p).trans hl0
    have hl3 : upd G8 p (.dK (mergeK [] [(Sum.inr "leads", .ref l0), (Sum.inr "forms", .ref l1), (Sum.inr "free", .ref l2), (Sum.inr "counts", .ref l3)])) l3 = _ := (upd_ne (Ne.symm np3)).trans hl3
    have hp : upd G8 p (.dK (mergeK [] [(Sum.inr "leads", .ref l0), (Sum.inr "forms", .ref l1), (Sum.inr "free", .ref l2), (Sum.inr "counts", .ref l3)])) p = some (.dK (kvF 0 [.ref l0, .ref l1, .ref l2, .ref l3])) := upd_same
    generalize upd G8 p (.dK (mergeK [] [(Sum.inr "leads", .ref l0), (Sum.inr "forms", .ref l1), (Sum.inr "free", .ref l2), (Sum.inr "counts", .ref l3)])) = G9 at S9 h1 h2 h3 hp hl0 hl3 ⊢
    clear S1 S2 S3 S4 S5 S6 S7 S8 t1 t2 t3 t4 t5 t6 t7 t8
    -- forms
    obtain ⟨y0, my0, ey0⟩ := at_ms (ms := m1) (j := 0) (by decide) (by rw [l1_]; decide)
    have hr0 : 0 ≤ y0 % 25 ∧ y0 % 25 < 25 := ⟨Int.emod_nonneg _ (by decide), Int.emod_lt_of_pos _ (by decide)⟩
    obtain ⟨kf, hkf⟩ := Int.eq_ofNat_of_zero_le hr0.1
    refine ⟨_, rfl, _, rfl, _, rfl, x1, _, 0, _, rfl, rfl, SqL.of h1, ey0, _, _, rfl, rfl, (by show (0 : Int) < 25; decide), _, _, rfl, rfl, _, rfl, x1, _, rfl, SqL.of h1, fun lf nlf => ?_⟩
    obtain ⟨mf, emf, lmf, bmf⟩ := cut_some (ms := m1) kf
    rw [hkf, emf]
    have t10 := same_new (o := .lst (mf.map V.int)) nlf
    have S10 := S9.trans t10
    have hlf : upd G9 lf (.lst (mf.map V.int)) lf = _ := upd_same
    have h2 := t10 _ _ h2
    have h3 := t10 _ _ h3
    have hp := t10 _ _ hp
    have hl0 := t10 _ _ hl0
    have hl3 := t10 _ _ hl3
    generalize upd G9 lf (.lst (mf.map V.int)) = G10 at S10 t10 hlf h2 h3 hp hl0 hl3 ⊢
    refine ⟨lf, rfl, ⟨_, SqL.of hlf⟩, fun D1 nD1 => comp_list (K := K) (a := lf) (xs := mf.map V.int) (fun i σ ys G => ∃ (v : Option V), σ = [v] ∧ ys = ((mf.take i).map (· % 2)).map V.int ∧ Same G10 G ∧ G D1 = some (.lst ys)) ?_ ?_ ?_ ?_⟩
    · exact ⟨none, rfl, rfl, same_new nD1, upd_same⟩
    · rintro i σ ys G _ ⟨v, rfl, _, s2, _⟩
      exact SqL.of (s2 _ _ hlf)
    · rintro i x σ ys G hx ⟨v, rfl, rfl, s2, hD⟩
      rw [List.getElem?_map] at hx
      obtain ⟨o, ho, rfl⟩ := Option.map_eq_some_iff.mp hx
      refine ⟨_, rfl, _, _, rfl, rfl, (by show (0 : Int) < 2; decide), hD, small_lt (by rw [List.length_map, List.length_map, List.length_take]; omega), _, rfl, ?_, same_put s2 nD1, upd_same⟩
      rw [List.take_add_one, ho, List.map_append, List.map_append]
      rfl
    rintro σ ys G11 ⟨v, rfl, rfl, t11, hD1⟩
    rw [List.length_map, List.take_length] at hD1
    have S11 := S10.trans t11
    have h2 := t11 _ _ h2
    have h3 := t11 _ _ h3
    have hp := t11 _ _ hp
    have hl0 := t11 _ _ hl0
    have nD13 : D1 ≠ l3 := fun z => by rw [z, hl3] at nD1; cases nD1
    have hl3 := t11 _ _ hl3
    refine ⟨_, rfl, p, _, rfl, DPut.k (k := Sum.inr "forms") hp (small_lt (by rw [kvF_len]; show 4 ≤ _; omega)), ?_⟩
    rw [show putK (kvF 0 [.ref l0, .ref l1, .ref l2, .ref l3]) (Sum.inr "forms") (.ref D1) = kvF 0 [.ref l0, .ref D1, .ref l2, .ref l3] from rfl]
    have n1p : D1 ≠ p := fun z => by rw [z, hp] at hD1; cases hD1
    have S12 := same_put (o := .dK (kvF 0 [.ref l0, .ref D1, .ref l2, .ref l3])) S11 npH
    have h2 : upd G11 p (.dK (kvF 0 [.ref l0, .ref D1, .ref l2, .ref l3])) x2 = _ := (upd_ne h2p).trans h2
    have h3 : upd G11 p (.dK (kvF 0 [.ref l0, .ref D1, .ref l2, .ref l3])) x3 = _ := (upd_ne h3p).trans h3
    have hl0 : upd G11 p (.dK (kvF 0 [.ref l0, .ref D1, .ref l2, .ref l3])) l0 = _ := (upd_ne h0p).trans hl0
    have hl3 : upd G11 p (.dK (kvF 0 [.ref l0, .ref D1, .ref l2, .ref l3])) l3 = _ := (upd_ne (Ne.symm np3)).trans hl3
    have hD1 : upd G11 p (.dK (kvF 0 [.ref l0, .ref D1, .ref l2, .ref l3])) D1 = _ := (upd_ne n1p).trans hD1
    have hp : upd G11 p (.dK (kvF 0 [.ref l0, .ref D1, .ref l2, .ref l3])) p = _ := upd_same
    generalize upd G11 p (.dK (kvF 0 [.ref l0, .ref D1, .ref l2, .ref l3])) = G12 at S12 h2 h3 hp hl0 hl3 hD1 ⊢
    clear S9 S10 S11 t10 t11
    -- free
    obtain ⟨z0, mz0, ez0⟩ := at_ms (ms := m2) (j := 0) (by decide) (by rw [l2_]; decide)
    have hq0 : 0 ≤ z0 % 25 ∧ z0 % 25 < 25 := ⟨Int.emod_nonneg _ (by decide), Int.emod_lt_of_pos _ (by decide)⟩
    obtain ⟨kb, hkb⟩ := Int.eq_ofNat_of_zero_le hq0.1
    refine ⟨_, rfl, _, rfl, _, rfl, x2, _, 0, _, rfl, rfl, SqL.of h2, ez0, _, _, rfl, rfl, (by show (0 : Int) < 25; decide), _, _, rfl, rfl, _, rfl, x2, _, rfl, SqL.of h2, fun lb nlb => ?_⟩
    obtain ⟨mb, emb, lmb, bmb⟩ := cut_some (ms := m2) kb
    rw [hkb, emb]
    have t13 := same_new (o := .lst (mb.map V.int)) nlb
    have S13 := S12.trans t13
    have hlb : upd G12 lb (.lst (mb.map V.int)) lb = _ := upd_same
    have h3 := t13 _ _ h3
    have hp := t13 _ _ hp
    have hl0 := t13 _ _ hl0
    have hl3 := t13 _ _ hl3
    have hD1 := t13 _ _ hD1
    generalize upd G12 lb (.lst (mb.map V.int)) = G13 at S13 t13 hlb h3 hp hl0 hl3 hD1 ⊢
    refine ⟨lb, rfl, ⟨_, SqL.of hlb⟩, fun D2 nD2 => comp_list (K := K) (a := lb) (xs := mb.map V.int) (fun i σ ys G => ∃ (v : Option V) (Bs : List (List Int)), σ = [v] ∧ HDs G ys (Bs.map tupI) ∧ Bs.length = i ∧ (∀ ns ∈ Bs, (∀ m ∈ ns, 0 ≤ m ∧ m ≤ 7) ∧ Rise ns ∧ ns.length ≤ 8) ∧ Same G13 G ∧ G D2 = some (.lst ys)) ?_ ?_ ?_ ?_⟩
    · exact ⟨none, [], rfl, .nil, rfl, fun n hn => absurd hn List.not_mem_nil, same_new nD2, upd_same⟩
    · rintro i σ ys G _ ⟨v, Bs, rfl, _, _, _, s2, _⟩
      exact SqL.of (s2 _ _ hlb)
    · rintro i x σ ys G hx ⟨v, Bs, rfl, hys, hBl, hBg, s2, hD⟩
      rw [List.getElem?_map] at hx
      obtain ⟨o, ho, rfl⟩ := Option.map_eq_some_iff.mp hx
      have hi : i < mb.length := (List.getElem?_eq_some_iff.mp ho).1
      have hsel : ∃ n : Int, atI [V.int 0, .int (o % 256)] (o / 256 % 2) = some (.int n) := by
        rcases (by omega : o / 256 % 2 = 0 ∨ o / 256 % 2 = 1) with e | e
        · rw [e]; exact ⟨0, rfl⟩
        · rw [e]; exact ⟨_, rfl⟩
      obtain ⟨nb, hnb⟩ := hsel
      refine ⟨_, rfl, _, _, rfl, rfl, (by show (0 : Int) < 256; decide), Nat.le_of_ble_eq_true rfl, fun l6 n6 => ?_⟩
      have t6 := same_new (o := .lst [V.int 0, .int (o % 256)]) n6
      have hl6 : upd G l6 (.lst [V.int 0, .int (o % 256)]) l6 = _ := upd_same
      generalize upd G l6 (.lst [V.int 0, .int (o % 256)]) = G6 at t6 hl6 ⊢
      refine ⟨_, rfl, _, _, rfl, rfl, ⟨by show (0 : Int) < 256; decide, by show (256 : Int) < _; decide⟩, _, _, rfl, rfl, (by show (0 : Int) < 2; decide), l6, _, _, _, rfl, rfl, SqL.of hl6, hnb, nb, rfl, fun t bs G7 t7 ht hb7 hri h8 => ?_⟩
      have hD7 := t7 _ _ (t6 _ _ hD)
      have hyl := hys.len
      rw [List.length_map, hBl] at hyl
      refine ⟨hD7, small_lt (by omega), _, Bs ++ [bs], rfl, ?_, by rw [List.length_append, hBl]; rfl, fun ns hns => ?_, same_put ((s2.trans t6).trans t7) nD2, upd_same⟩
      · rw [List.map_append]
        exact HDs.putN (((hys.same t6).same t7).app (.cons (.tupS ht (ints_hd bs)) .nil)) hD7 (by rw [show ([bs].map tupI) = [tupI bs] from rfl, show Bs.map tupI ++ [tupI bs] = (Bs ++ [bs]).map tupI by rw [List.map_append]; rfl]; exact nl_tupI _)
      · rcases List.mem_append.mp hns with z | z
        · exact hBg ns z
        · rw [List.mem_singleton.mp z]; exact ⟨hb7, hri, h8⟩
    rintro σ ys2 G14 ⟨v, Bs, rfl, hys2, hBl, hBg, t14, hD2⟩
    rw [List.length_map] at hBl
    have S14 := S13.trans t14
    have h3 := t14 _ _ h3
    have hp := t14 _ _ hp
    have hl0 := t14 _ _ hl0
    have hD1 := t14 _ _ hD1
    have nD23 : D2 ≠ l3 := fun z => by rw [z, hl3] at nD2; cases nD2
    have hl3 := t14 _ _ hl3
    refine ⟨_, rfl, p, _, rfl, DPut.k (k := Sum.inr "free") hp (small_lt (by rw [kvF_len]; show 4 ≤ _; omega)), ?_⟩
    rw [show putK (kvF 0 [.ref l0, .ref D1, .ref l2, .ref l3]) (Sum.inr "free") (.ref D2) = kvF 0 [.ref l0, .ref D1, .ref D2, .ref l3] from rfl]
    have n2p : D2 ≠ p := fun z => by rw [z, hp] at hD2; cases hD2
    have S15 := same_put (o := .dK (kvF 0 [.ref l0, .ref D1, .ref D2, .ref l3])) S14 npH
    have hys2 := HDs.putD (o := .dK (kvF 0 [.ref l0, .ref D1, .ref D2, .ref l3])) hys2 hp
    have h3 : upd G14 p (.dK (kvF 0 [.ref l0, .ref D1, .ref D2, .ref l3])) x3 = _ := (upd_ne h3p).trans h3
    have hl0 : upd G14 p (.dK (kvF 0 [.ref l0, .ref D1, .ref D2, .ref l3])) l0 = _ := (upd_ne h0p).trans hl0
    have hl3 : upd G14 p (.dK (kvF 0 [.ref l0, .ref D1, .ref D2, .ref l3])) l3 = _ := (upd_ne (Ne.symm np3)).trans hl3
    have hD1 : upd G14 p (.dK (kvF 0 [.ref l0, .ref D1, .ref D2, .ref l3])) D1 = _ := (upd_ne n1p).trans hD1
    have hD2 : upd G14 p (.dK (kvF 0 [.ref l0, .ref D1, .ref D2, .ref l3])) D2 = _ := (upd_ne n2p).trans hD2
    have hp : upd G14 p (.dK (kvF 0 [.ref l0, .ref D1, .ref D2, .ref l3])) p = _ := upd_same
    generalize upd G14 p (.dK (kvF 0 [.ref l0, .ref D1, .ref D2, .ref l3])) = G15 at S15 h3 hp hl0 hl3 hD1 hD2 hys2 ⊢
    clear S12 S13 S14 t13 t14
    -- counts
    obtain ⟨w0, mw0, ew0⟩ := at_ms (ms := m3) (j := 0) (by decide) (by rw [l3_]; decide)
    have hw0 : 0 ≤ w0 % 7 ∧ w0 % 7 < 7 := ⟨Int.emod_nonneg _ (by decide), Int.emod_lt_of_pos _ (by decide)⟩
    refine ⟨_, rfl, x3, _, 0, _, rfl, rfl, SqL.of h3, ew0, _, _, rfl, rfl, (by show (0 : Int) < 7; decide), ?_⟩
    refine ⟨_, rfl, by show -(2 ^ 62) ≤ w0 % 7; omega, by show w0 % 7 < 2 ^ 62; omega, ?_⟩
    refine for_range (lo := 0) (n := (w0 % 7).toNat) (fun i σ G => ∃ (v6 v7 : Option V) (Cs : List (List Int)) (ys3 : List V), σ = [some (.ref a), some (.int (at_ : Int)), some (.ref x1), some (.ref x2), some (.ref x3), some (.ref p), v6, v7] ∧ Same H G ∧ G x3 = some (.lst (m3.map V.int)) ∧ G p = some (.dK (kvF 0 [.ref l0, .ref D1, .ref D2, .ref l3])) ∧ G l0 = some (.lst (os.map lV)) ∧ G D1 = some (.lst ((mf.map (· % 2)).map V.int)) ∧ G D2 = some (.lst ys2) ∧ HDs G ys2 (Bs.map tupI) ∧ G l3 = some (.lst ys3) ∧ HDs G ys3 (Cs.map tupI) ∧ Cs.length = i ∧ ∀ ns ∈ Cs, ∃ a b, ns = [a, b] ∧ (0 ≤ a ∧ a ≤ 1000000) ∧ 0 ≤ b ∧ b ≤ 1000000) ?_ ?_ ?_
    · exact ⟨none, none, [], [], rfl, S15, h3, hp, hl0, hD1, hD2, hys2, hl3, .nil, rfl, fun o ho => absurd ho List.not_mem_nil⟩
    · rintro i σ G hi ⟨v6, v7, Cs, ys3, rfl, s3, h3, hp, hl0, hD1, hD2, hys2, hl3, hys3, hCl, hCg⟩
      have e0 : (0 : Int) + (i : Int) = (i : Int) := by omega
      rw [e0]
      have hi6 : i < 6 := by omega
      obtain ⟨xa, ma, ea⟩ := at_ms (ms := m3) (j := 1 + 3 * (i : Int)) (by omega) (by rw [l3_]; omega)
      obtain ⟨xb, mb', eb⟩ := at_ms (ms := m3) (j := 2 + 3 * (i : Int)) (by omega) (by rw [l3_]; omega)
      obtain ⟨xc, mc, ec⟩ := at_ms (ms := m3) (j := 3 + 3 * (i : Int)) (by omega) (by rw [l3_]; omega)
      have cp6 : CPow 10 6 := ⟨by decide, by decide, by decide⟩
      have e6 : (10 : Int) ^ (6 : Int).toNat + 1 = 1000001 := by decide
      have bsel : ∃ n : Int, atI [V.int (xa % 5), .int (xa % (10 ^ (6 : Int).toNat + 1))] (xc % 2) = some (.int n) ∧ 0 ≤ n ∧ n ≤ 1000000 := by
        rw [e6]
        rcases (by omega : xc % 2 = 0 ∨ xc % 2 = 1) with e | e
        · rw [e]; exact ⟨_, rfl, by omega, by omega⟩
        · rw [e]; exact ⟨_, rfl, by omega, by omega⟩
      obtain ⟨nn, hnn, bnn⟩ := bsel
      refine ⟨_, rfl, _, rfl, _, _, rfl, rfl, .inl ⟨by decide, by decide⟩, _, _, rfl, rfl, x3, _, _, _, rfl, rfl, SqL.of h3, ea, _, _, rfl, rfl, (by show (0 : Int) < 5; decide), _, rfl, _, rfl, _, _, rfl, rfl, .inl ⟨by decide, by decide⟩, _, _, rfl, rfl, x3, _, _, _, rfl, rfl, SqL.of h3, ea, _, _, rfl, rfl, cp6, _, _, rfl, rfl, _, _, rfl, rfl, (by show (0 : Int) < 10 ^ (6 : Int).toNat + 1; decide), Nat.le_of_ble_eq_true rfl, fun l6 n6 => ?_⟩
      have t6 := same_new (o := .lst [V.int (xa % 5), .int (xa % (10 ^ (6 : Int).toNat + 1))]) n6
      have hl6 : upd G l6 (.lst [V.int (xa % 5), .int (xa % (10 ^ (6 : Int).toNat + 1))]) l6 = _ := upd_same
      generalize upd G l6 (.lst [V.int (xa % 5), .int (xa % (10 ^ (6 : Int).toNat + 1))]) = G6 at t6 hl6 ⊢
      refine ⟨_, rfl, _, rfl, _, _, rfl, rfl, .inl ⟨by decide, by decide⟩, _, _, rfl, rfl, x3, _, _, _, rfl, rfl, SqL.of (t6 _ _ h3), ec, _, _, rfl, rfl, (by show (0 : Int) < 2; decide), l6, _, _, _, rfl, rfl, SqL.of hl6, hnn, ?_⟩
      refine ⟨_, rfl, p, _, rfl, DGet.k (k := Sum.inr "counts") (t6 _ _ hp), .inl ⟨rfl, _, SqL.of (t6 _ _ hl3)⟩, ?_⟩
      refine ⟨_, rfl, _, rfl, _, rfl, _, _, rfl, rfl, .inl ⟨by decide, by decide⟩, _, _, rfl, rfl, x3, _, _, _, rfl, rfl, SqL.of (t6 _ _ h3), eb, _, _, rfl, rfl, cp6, _, _, rfl, rfl, _, _, rfl, rfl, (by show (0 : Int) < 10 ^ (6 : Int).toNat + 1; decide), Nat.le_of_ble_eq_true rfl, fun l7 n7 => ?_⟩
      have t7 := t6.trans (same_new (o := .tup [V.int nn, .int (xb % (10 ^ (6 : Int).toNat + 1))]) n7)
      have hl7 : upd G6 l7 (.tup [V.int nn, .int (xb % (10 ^ (6 : Int).toNat + 1))]) l7 = some (.tup (([nn, xb % (10 ^ (6 : Int).toNat + 1)] : List Int).map V.int)) := upd_same
      generalize upd G6 l7 (.tup [V.int nn, .int (xb % (10 ^ (6 : Int).toNat + 1))]) = G7 at t7 hl7 ⊢
      have hyl := hys3.len
      rw [List.length_map, hCl] at hyl
      have hl37 := t7 _ _ hl3
      refine ⟨l3, _, _, rfl, rfl, hl37, small_lt (by omega), ?_⟩
      refine ⟨_, _, Cs ++ [[nn, xb % (10 ^ (6 : Int).toNat + 1)]], ys3 ++ [.ref l7], rfl, same_put (s3.trans t7) l3H, (upd_ne n30).trans (t7 _ _ h3), (upd_ne np3).trans (t7 _ _ hp), (upd_ne n00).trans (t7 _ _ hl0), (upd_ne nD13).trans (t7 _ _ hD1), (upd_ne nD23).trans (t7 _ _ hD2), HDs.putN (hys2.same t7) hl37 (nl_tupI _), upd_same, ?_, by rw [List.length_append, hCl]; rfl, fun ns hns => ?_⟩
      · have e : Cs.map tupI ++ [tupI [nn, xb % (10 ^ (6 : Int).toNat + 1)]] = (Cs ++ [[nn, xb % (10 ^ (6 : Int).toNat + 1)]]).map tupI := by rw [List.map_append]; rfl
        rw [← e]
        exact HDs.putN ((hys3.same t7).app (.cons (.tupS hl7 (ints_hd _)) .nil)) hl37 (by rw [e]; exact nl_tupI _)
      · rcases List.mem_append.mp hns with z | z
        · exact hCg ns z
        · rw [List.mem_singleton.mp z]
          refine ⟨_, _, rfl, bnn, ?_⟩
          rw [e6]
          omega
    · rintro σ G ⟨v6, v7, Cs, ys3, rfl, s3, h3, hp, hl0, hD1, hD2, hys2, hl3, hys3, hCl, hCg⟩
      refine ⟨_, rfl, k p _ ⟨os, mf.map (· % 2), Bs, Cs⟩ G s3 npH hp (.cons (.lstS hl0 (lV_hd os)) (.cons (.lstS hD1 (ints_hd _)) (.cons (.lstS hD2 hys2) (.cons (.lstS hl3 hys3) .nil)))) ⟨ol, ob, ?_, ?_, ?_, hBg, ?_, hCg⟩⟩
      · show (mf.map (· % 2)).length ≤ 24
        rw [List.length_map]; omega
      · intro n hn
        obtain ⟨x, _, rfl⟩ := List.mem_map.mp hn
        show 0 ≤ x % 2 ∧ x % 2 ≤ 1
        omega
      · show Bs.length ≤ 24
        omega
      · show Cs.length ≤ 6
        omega
end
end My


set_option Elab.async false
set_option linter.all false
set_option maxRecDepth 100000
set_option maxHeartbeats 4000000
namespace My
open PySem L2
def cleanC (c : Nat) : Prop := c < 128 ∧ c ≠ 32 ∧ c ≠ 10
def Clean (x : Str) : Prop := ∀ c ∈ x.cps.toList, cleanC c
instance (c : Nat) : Decidable (cleanC c) := by unfold cleanC; infer_instance
instance (x : Str) : Decidable (Clean x) := by unfold Clean; infer_instance
theorem tos_clean (i : Int) : Clean (tos i) := by
  intro c hc
  by_cases h : c = 45 ∨ (48 ≤ c ∧ c ≤ 57)
  · unfold cleanC; omega
  · exact absurd hc (PyProof.Rows.int_text_free' c (by omega) i)
theorem tjoin (c : Nat) (ts : List Str) : Txt.join ⟨#[c]⟩ ts = Str.join ⟨#[c]⟩ ts := StrLaws.glued_eq_join _ _
theorem join_signs {c : Nat} : ∀ {ps : List Str} {d : Nat}, d ∈ (Str.join ⟨#[c]⟩ ps).cps.toList → d = c ∨ ∃ p ∈ ps, d ∈ p.cps.toList
  | [], d, h => by cases h
  | [x], d, h => .inr ⟨x, by simp, h⟩
  | x :: y :: r, d, h => by
    rw [join_list] at h
    rcases List.mem_append.mp h with h | h
    · exact .inr ⟨x, by simp, h⟩
    rcases List.mem_cons.mp h with h | h
    · exact .inl h
    · rcases join_signs h with h | ⟨p, hp, h⟩
      · exact .inl h
      · exact .inr ⟨p, List.mem_cons_of_mem _ hp, h⟩
theorem join_size {c n : Nat} : ∀ {ps : List Str}, (∀ p ∈ ps, p.cps.size ≤ n) → (Str.join ⟨#[c]⟩ ps).cps.size ≤ ps.length * (n + 1)
  | [], _ => Nat.zero_le _
  | [x], h => by have := h x (by simp); show x.cps.size ≤ 1 * (n + 1); omega
  | x :: y :: r, h => by
    have e := congrArg List.length (join_list (c := c) x y r)
    rw [List.length_append, List.length_cons] at e
    simp only [Array.length_toList] at e
    have h1 := h x (by simp)
    have h2 := join_size (c := c) (ps := y :: r) fun p hp => h p (List.mem_cons_of_mem _ hp)
    rw [List.length_cons, Nat.succ_mul]
    omega
/-! ### boxes -/
theorem tos_box {n : Int} (h : 0 ≤ n ∧ n ≤ 7) : tos n = ⟨#[48 + n.toNat]⟩ := by
  rcases (by omega : n = 0 ∨ n = 1 ∨ n = 2 ∨ n = 3 ∨ n = 4 ∨ n = 5 ∨ n = 6 ∨ n = 7) with rfl | rfl | rfl | rfl | rfl | rfl | rfl | rfl <;> decide +kernel
theorem join0 : ∀ ts : List Str, (Txt.join "" ts).cps.toList = ts.flatMap (·.cps.toList) := fun ts => by
  have e : Txt.join "" ts = Str.join ⟨#[]⟩ ts := StrLaws.glued_eq_join _ _
  rw [e]
  clear e
  induction ts with
  | nil => rfl
  | cons x r ih =>
    cases r with
    | nil => show x.cps.toList = _; simp
    | cons y r =>
      show ((x.cps ++ #[]) ++ (Str.join ⟨#[]⟩ (y :: r)).cps).toList = _
      rw [List.flatMap_cons, ← ih]
      simp
theorem box_signs {ns : List Int} (h : ∀ m ∈ ns, 0 ≤ m ∧ m ≤ 7) : (Txt.join "" (ns.map tos)).cps.toList = ns.map fun n => 48 + n.toNat := by
  rw [join0]
  induction ns with
  | nil => rfl
  | cons n l ih =>
    rw [List.map_cons, List.flatMap_cons, ih fun m hm => h m (List.mem_cons_of_mem _ hm), tos_box (h n (by simp))]
    rfl
theorem rdN_box1 {n : Int} (h : 0 ≤ n ∧ n ≤ 7) : rdN "box" ⟨#[48 + n.toNat]⟩ = some n := by
  rw [← tos_box h]
  exact rdN_tos (by omega) (by rw [show bdK "box" = ((0 : Int), (7 : Int)) by decide +kernel]; exact h)
theorem rdSg_box {ns : List Int} (h : ∀ m ∈ ns, 0 ≤ m ∧ m ≤ 7) : rdSg (ns.map fun n => 48 + n.toNat) = some ns := by
  induction ns with
  | nil => rfl
  | cons n l ih =>
    rw [List.map_cons]
    unfold rdSg
    rw [rdN_box1 (h n (by simp)), ih fun m hm => h m (List.mem_cons_of_mem _ hm)]
    rfl
theorem rdBoxes_sh {ns : List Int} (h : ∀ m ∈ ns, 0 ≤ m ∧ m ≤ 7) (hr : Rise ns) : rdBoxes (shBoxes ns) = some (tupI ns) := by
  unfold rdBoxes shBoxes
  by_cases c : ns = []
  · subst c
    rw [if_pos rfl, if_pos rfl]
    rfl
  · rw [if_neg c, if_neg, box_signs h, rdSg_box h]
    · show (if ns ≠ [] ∧ Rise ns then some (Da.tup (ns.map Da.int)) else none) = _
      rw [if_pos ⟨c, hr⟩]
      rfl
    · intro z
      have e := box_signs h
      rw [z] at e
      cases ns with
      | nil => exact c rfl
      | cons n l =>
        have e : [45] = (48 + n.toNat) :: l.map (fun n => 48 + n.toNat) := e
        have := (List.cons.inj e).1
        omega
/-! ### counts -/
theorem tos_free (n : Int) {c : Nat} (h : ¬ (c = 45 ∨ (48 ≤ c ∧ c ≤ 57))) : c ∉ (tos n).cps.toList := PyProof.Rows.int_text_free' c (by omega) n
theorem rdCount_sh {a b : Int} (ha : 0 ≤ a ∧ a ≤ 1000000) (hb : 0 ≤ b ∧ b ≤ 1000000) : rdCount (shCount [a, b]) = some (tupI [a, b]) := by
  have e : Txt.split (shCount [a, b]) ":" = [tos a, tos b] := split_join (c := 58) (ts := [tos a, tos b]) (by simp) fun p hp => by
    rcases List.mem_cons.mp hp with rfl | hp
    · exact tos_free a (by omega)
    · rw [List.mem_singleton.mp hp]; exact tos_free b (by omega)
  unfold rdCount
  rw [e]
  show (match rdN "number" (tos a) with | none => none | some n => match rdN "aside" (tos b) with | none => none | some m => some (Da.tup [.int n, .int m])) = _
  rw [rdN_tos (kd := "number") (n := a) (by omega) (by rw [show bdK "number" = ((0 : Int), (1000000 : Int)) by decide +kernel]; exact ha), rdN_tos (kd := "aside") (n := b) (by omega) (by rw [show bdK "aside" = ((0 : Int), (1000000 : Int)) by decide +kernel]; exact hb)]
  rfl
/-! ### words -/
def Wrd (x : Str) : Prop := Clean x ∧ x.cps.size ≤ 27
theorem tos_wrd {n : Int} (h : n.natAbs < 10 ^ 12) : Wrd (tos n) := ⟨tos_clean n, Nat.le_trans (tos_len h) (by decide)⟩
theorem dash_wrd : Wrd "-" := ⟨by decide +kernel, by decide⟩
theorem wl_wrd {q : Pap} (g : PapG q) : ∀ ws ∈ q.wl, (∀ x ∈ ws, Wrd x) ∧ ws.length ≤ 25 ∧ ws ≠ [] := by
  have nm : ∀ i < 4, Wrd (nameK i) := fun i hi => by
    rcases (by omega : i = 0 ∨ i = 1 ∨ i = 2 ∨ i = 3) with rfl | rfl | rfl | rfl <;> exact ⟨by decide +kernel, by decide⟩
  intro ws hw
  have h1 := g.L1
  have h2 := g.F1
  have h3 := g.B1
  have h4 := g.C1
  rcases List.mem_cons.mp hw with rfl | hw
  · refine ⟨fun x hx => ?_, by simp; omega, by simp⟩
    rcases List.mem_cons.mp hx with rfl | hx
    · exact nm 0 (by decide)
    · obtain ⟨o, ho, rfl⟩ := List.mem_map.mp hx
      cases o with
      | none => exact dash_wrd
      | some n => have := g.L2 _ ho n rfl; exact tos_wrd (by omega)
  rcases List.mem_cons.mp hw with rfl | hw
  · refine ⟨fun x hx => ?_, by simp; omega, by simp⟩
    rcases List.mem_cons.mp hx with rfl | hx
    · exact nm 1 (by decide)
    · obtain ⟨n, ho, rfl⟩ := List.mem_map.mp hx
      have := g.F2 _ ho; exact tos_wrd (by omega)
  rcases List.mem_cons.mp hw with rfl | hw
  · refine ⟨fun x hx => ?_, by simp; omega, by simp⟩
    rcases List.mem_cons.mp hx with rfl | hx
    · exact nm 2 (by decide)
    · obtain ⟨ns, ho, rfl⟩ := List.mem_map.mp hx
      have hb := g.B2 _ ho
      unfold shBoxes
      split
      · exact dash_wrd
      · have e := box_signs hb.1
        refine ⟨fun c hc => ?_, ?_⟩
        · rw [e] at hc
          obtain ⟨n, hn, rfl⟩ := List.mem_map.mp hc
          have := hb.1 n hn
          unfold cleanC
          omega
        · have := congrArg List.length e
          rw [List.length_map, Array.length_toList] at this
          omega
  · rw [List.mem_singleton] at hw
    subst hw
    refine ⟨fun x hx => ?_, by simp; omega, by simp⟩
    rcases List.mem_cons.mp hx with rfl | hx
    · exact nm 3 (by decide)
    · obtain ⟨ns, ho, rfl⟩ := List.mem_map.mp hx
      obtain ⟨a, b, rfl, ha, hb⟩ := g.C2 _ ho
      have e : shCount [a, b] = Str.join ⟨#[58]⟩ [tos a, tos b] := tjoin 58 _
      have ta := tos_len (i := a) (by omega)
      have tb := tos_len (i := b) (by omega)
      rw [e]
      refine ⟨fun c hc => ?_, ?_⟩
      · rcases join_signs hc with rfl | ⟨p, hp, hc⟩
        · decide
        · rcases List.mem_cons.mp hp with rfl | hp
          · exact tos_clean _ c hc
          · rw [List.mem_singleton.mp hp] at hc; exact tos_clean _ c hc
      · have e := congrArg List.length (join_list (c := 58) (tos a) (tos b) [])
        rw [List.length_append, List.length_cons] at e
        simp only [Array.length_toList] at e
        have e2 : (Str.join ⟨#[58]⟩ [tos b]).cps.size = (tos b).length := rfl
        have e1 : (tos a).cps.size = (tos a).length := rfl
        omega
theorem ln_join {ws : List Str} (h : ∀ x ∈ ws, Wrd x) (hl : ws.length ≤ 25) : (∀ c ∈ (Txt.join " " ws).cps.toList, c < 128 ∧ c ≠ 10) ∧ (Txt.join " " ws).cps.size ≤ 700 := by
  have e : Txt.join " " ws = Str.join ⟨#[32]⟩ ws := tjoin 32 _
  rw [e]
  refine ⟨fun c hc => ?_, ?_⟩
  · rcases join_signs hc with rfl | ⟨p, hp, hc⟩
    · decide
    · have := (h p hp).1 c hc
      exact ⟨this.1, this.2.2⟩
  · have := join_size (c := 32) (n := 27) (ps := ws) fun p hp => (h p hp).2
    have : ws.length * 28 ≤ 25 * 28 := Nat.mul_le_mul_right _ hl
    omega
theorem ls_good {q : Pap} (g : PapG q) : ∀ x ∈ q.ls, (∀ c ∈ x.cps.toList, c < 128 ∧ c ≠ 10) ∧ x.cps.size ≤ 700 := fun x hx => by
  obtain ⟨ws, hw, rfl⟩ := List.mem_map.mp hx
  exact ln_join (wl_wrd g ws hw).1 (wl_wrd g ws hw).2.1
theorem tx_asc {q : Pap} (g : PapG q) : Asc q.tx := by
  have e : q.tx = Str.join ⟨#[10]⟩ q.ls := tjoin 10 _
  refine ⟨?_, ?_⟩
  · rw [e, Array.all_eq_true_iff_forall_mem]
    intro d hd
    apply decide_eq_true
    rcases join_signs (Array.mem_def.mp hd) with rfl | ⟨p, hp, hc⟩
    · decide
    · exact ((ls_good g p hp).1 d hc).1
  · rw [e]
    have := join_size (c := 10) (n := 700) (ps := q.ls) fun p hp => (ls_good g p hp).2
    have h4 : q.ls.length = 4 := rfl
    omega
theorem rdAll_sh {A : Type} {rd : Str → Option Da} {sh : A → Str} {dd : A → Da} : ∀ {xs : List A}, (∀ x ∈ xs, rd (sh x) = some (dd x)) → rdAll rd (xs.map sh) = some (xs.map dd)
  | [], _ => rfl
  | x :: xs, h => by
    rw [List.map_cons]
    unfold rdAll
    rw [h x (by simp), rdAll_sh fun y hy => h y (List.mem_cons_of_mem _ hy)]
    rfl
theorem rdLine_sh {i : Nat} {ws : List Str} {ds : List Da} (h : ∀ x ∈ nameK i :: ws, Wrd x) (hr : rdAll (rdK i) ws = some ds) : rdLine i (Txt.join " " (nameK i :: ws)) = some (.lst ds) := by
  have e : Txt.split (Txt.join " " (nameK i :: ws)) " " = nameK i :: ws := split_join (c := 32) (by simp) fun p hp z => absurd rfl ((h p hp).1 32 z).2.1
  unfold rdLine
  rw [e]
  show (if nameK i = nameK i then (rdAll (rdK i) ws).map Da.lst else none) = _
  rw [if_pos rfl, hr]
  rfl
theorem rdPaper_tx {q : Pap} (g : PapG q) : rdPaper q.tx = .ok q.das := by
  have e : Txt.split q.tx "\n" = q.ls := split_join (c := 10) (by exact List.cons_ne_nil _ _) fun p hp z => absurd rfl ((ls_good g p hp).1 10 z).2
  have w := wl_wrd g
  unfold rdPaper
  rw [e]
  have h0 : rdLine 0 (Txt.join " " (("leads" : Str) :: q.L.map shLead)) = some (.lst (q.L.map leadD)) := rdLine_sh (i := 0) (w _ (List.mem_of_getElem? (i := 0) rfl)).1 (rdAll_sh fun o ho => rdLead_sh (g.L2 o ho))
  have h1 : rdLine 1 (Txt.join " " (("forms" : Str) :: q.F.map tos)) = some (.lst (q.F.map Da.int)) := rdLine_sh (i := 1) (w _ (List.mem_of_getElem? (i := 1) rfl)).1 (rdAll_sh fun o ho => rdForm_sh (g.F2 o ho))
  have h2 : rdLine 2 (Txt.join " " (("free" : Str) :: q.B.map shBoxes)) = some (.lst (q.B.map tupI)) := rdLine_sh (i := 2) (w _ (List.mem_of_getElem? (i := 2) rfl)).1 (rdAll_sh fun o ho => rdBoxes_sh (g.B2 o ho).1 (g.B2 o ho).2.1)
  have h3 : rdLine 3 (Txt.join " " (("counts" : Str) :: q.C.map shCount)) = some (.lst (q.C.map tupI)) := rdLine_sh (i := 3) (w _ (List.mem_of_getElem? (i := 3) rfl)).1 (rdAll_sh fun o ho => by
    obtain ⟨a, b, rfl, ha, hb⟩ := g.C2 o ho
    exact rdCount_sh ha hb)
  show (match rdLs 0 [Txt.join " " (("leads" : Str) :: q.L.map shLead), Txt.join " " (("forms" : Str) :: q.F.map tos), Txt.join " " (("free" : Str) :: q.B.map shBoxes), Txt.join " " (("counts" : Str) :: q.C.map shCount)] with
    | .error e => Except.error e
    | .ok ds => if 4 = 4 then .ok ds else .error (min 4 4)) = _
  unfold rdLs rdLs rdLs rdLs rdLs
  rw [h0, h1, h2, h3]
  rfl
theorem pap_ok {q : Pap} (g : PapG q) : q.Ok := by
  have h1 := g.L1
  have h2 := g.F1
  have h3 := g.B1
  have h4 := g.C1
  refine ⟨by omega, by omega, by omega, by omega, fun o ho n e => ?_, fun n hn => ?_, fun ns hn => ?_, fun ns hn => ?_, fun ws hw => ?_, ?_⟩
  · have := g.L2 o ho n e; unfold Sm; omega
  · have := g.F2 n hn; unfold Sm; omega
  · have := g.B2 ns hn
    exact ⟨this.2.2, fun m hm => by have := this.1 m hm; unfold Sm; omega⟩
  · obtain ⟨a, b, rfl, ha, hb⟩ := g.C2 ns hn
    refine ⟨by show 2 ≤ 8; decide, fun m hm => ?_⟩
    unfold Sm
    rcases List.mem_cons.mp hm with rfl | hm
    · omega
    · rw [List.mem_singleton.mp hm]; omega
  · have hw := wl_wrd g ws hw
    refine join_ok (small_len ?_)
    have h1 : (ws.map (·.length)).sum ≤ ws.length * 27 := sum_le fun t ht => (hw.1 t ht).2
    have := hw.2.1
    show _ + _ * 1 ≤ 1000000
    omega
  · refine join_ok (small_len ?_)
    have h1 : (q.ls.map (·.length)).sum ≤ q.ls.length * 700 := sum_le fun t ht => (ls_good g t ht).2
    have h4 : q.ls.length = 4 := rfl
    show _ + _ * 1 ≤ 1000000
    omega
end My


set_option Elab.async false
set_option linter.all false
set_option maxRecDepth 100000
set_option maxHeartbeats 4000000
namespace My
open PySem L2
theorem sapp (a b c : Str) : (a ++ b) ++ c = a ++ (b ++ c) := by
  apply str_ext
  show ((a.cps ++ b.cps) ++ c.cps).toList = (a.cps ++ (b.cps ++ c.cps)).toList
  simp
theorem join_snoc (g w : Str) (ws : List Str) (x : Str) : Txt.join g (w :: (ws ++ [x])) = Txt.join g (w :: ws) ++ g ++ x := by
  show (⟨(ws ++ [x]).foldl (fun acc p => acc ++ g.cps ++ p.cps) w.cps⟩ : Str) = _
  rw [List.foldl_append]
  rfl
theorem take_step {A : Type} {nm : Str} {sh : A → Str} {L : List A} {i : Nat} {o : A} (h : L[i]? = some o) : Txt.join " " (nm :: (L.take (i + 1)).map sh) = Txt.join " " (nm :: (L.take i).map sh) ++ " " ++ sh o := by
  rw [List.take_add_one, h, List.map_append]
  exact join_snoc " " nm _ _
theorem acc_len {A : Type} {nm : Str} {sh : A → Str} {L : List A} (h : ∀ x ∈ nm :: L.map sh, Wrd x) (hl : (nm :: L.map sh).length ≤ 25) (i : Nat) : (Txt.join " " (nm :: (L.take i).map sh)).cps.size ≤ 700 := by
  refine (ln_join (fun x hx => ?_) ?_).2
  · rcases List.mem_cons.mp hx with rfl | hx
    · exact h _ (by simp)
    · obtain ⟨y, hy, rfl⟩ := List.mem_map.mp hx
      exact h _ (List.mem_cons_of_mem _ (List.mem_map_of_mem (List.mem_of_mem_take hy)))
  · rw [List.length_cons, List.length_map] at hl ⊢
    rw [List.length_take]
    omega
theorem slen (a b : Str) : (a ++ b).length = a.length + b.length := by
  show (a.cps ++ b.cps).size = _
  rw [Array.size_append]
  rfl
section
variable {P : Program} {w : World} {K : PySem.W.Frag} {mg : Str → Option Value} {base : Heap}
def spTx : Sp := fun vs H Q _ => ∃ (p : Addr) (us : List V) (q : Pap), vs = [.ref p] ∧ H p = some (.dK (kvF 0 us)) ∧ HDs H us q.das ∧ PapG q ∧ ∀ H', Same H H' → Q (.str q.tx) H'
theorem scTx : FnScope ["_law_paper_here", "_law_rows", "_law_lead", "_law_form", "_law_boxes_here", "_law_name", "_law_aside"] ["_law_paper_here"] (defScope s_law_text) := ⟨rfl, rfl, rfl, by decide +kernel, rfl, by decide +kernel, by decide +kernel⟩
def csTxC1 : Scope := { kind := .function, names := [(".0", .local), ("_law_box", .local), ("str", .globalImplicit)], isGenerator := false, isCoroutine := false, more := [] }
theorem scTxC1 : CompSc (defScope s_law_text) csTxC1 ["_law_paper_here", "_law_rows", "_law_lead", "_law_form", "_law_boxes_here", "_law_name", "_law_aside"] ["_law_box"] [none] := ⟨rfl, by decide +kernel, by decide +kernel, by decide +kernel, by decide +kernel, by decide +kernel⟩
theorem ok_law_text {f : Addr} {fd : FuncData} (F : Fun K "_law_text" "_law_text" s_law_text f fd) (T : Txt K w.params mg)  : FnOk P w K mg base CX0 1 f fd ["_law_paper_here"] spTx := by
  refine F.ok scTx (fun vs H Q E h => ?_) (fun cdv A outer s H vs Q E hr h => ?_)
  · obtain ⟨p, us, q, rfl, _⟩ := h
    rfl
  · obtain ⟨p, us, q, rfl, hp, hus, hok, k⟩ := h
    have hu1 : (A.deeper (PyProof.Rows.envOfC "_law_text" (defScope s_law_text) s.heap.objs.size f cdv)).units + 1 < cLine := Nat.lt_of_le_of_lt (Nat.add_le_add_left (by decide : 1 ≤ 64) _) hr.units
    have hu6 : (A.deeper (PyProof.Rows.envOfC "_law_text" (defScope s_law_text) s.heap.objs.size f cdv)).units + 6 < cLine := Nat.lt_of_le_of_lt (Nat.add_le_add_left (by decide : 6 ≤ 64) _) hr.units
    have w := wl_wrd hok
    obtain ⟨v0, us, rfl, w0, hus⟩ := hus.cons_inv
    obtain ⟨v1, us, rfl, w1, hus⟩ := hus.cons_inv
    obtain ⟨v2, us, rfl, w2, hus⟩ := hus.cons_inv
    obtain ⟨v3, us, rfl, w3, hus⟩ := hus.cons_inv
    cases hus.nil_inv
    obtain ⟨q0, x0, rfl, h0, z0⟩ := w0.lst_inv
    obtain ⟨q1, x1, rfl, h1, z1⟩ := w1.lst_inv
    obtain ⟨q2, x2, rfl, h2, z2⟩ := w2.lst_inv
    obtain ⟨q3, x3, rfl, h3, z3⟩ := w3.lst_inv
    refine wrapX (pssx_cons (psx_of (ps_set (i := 1) scTx.nd rfl (Or.inl rfl) (pe_lst (pa_cons pe_str (pa_cons pe_str (pa_cons pe_str (pa_cons pe_str pa_nil)))))))
      (pssx_cons (psx_of (ps_for PassesOwn.never rfl (pi_list (pe_dget hu1 (pv 0) pe_str (fun _ _ => rfl))) (pg_name (i := 2) scTx.nd rfl (Or.inl rfl)) (pss_one (ps_asg (pe_op op_add_str (pe_ix ix_list (pv 1) pe_int (fun _ _ => rfl)) (pe_ix ix_list (pe_lst (pa_cons pe_str (pa_cons (pe_op op_add_str pe_str (pe_callTy call_strO (by rfl) T.str bt_str (pa_cons (pv 2) pa_nil))) pa_nil))) (pe_callTy call_int1 (by rfl) T.int bt_int (pa_cons (pe_cmpR op_notN (pv 2) pe_non (nomark _)) pa_nil)) (fun _ _ => rfl))) (pg_sub (pv 1) pe_int set_list)))))
      (pssx_cons (psx_of (ps_for PassesOwn.never rfl (pi_list (pe_dget hu1 (pv 0) pe_str (fun _ _ => rfl))) (pg_name (i := 3) scTx.nd rfl (Or.inl rfl)) (pss_one (ps_asg (pe_op op_add_str (pe_op op_add_str (pe_ix ix_list (pv 1) pe_int (fun _ _ => rfl)) pe_str) (pe_callTy call_str_int (by rfl) T.str bt_str (pa_cons (pv 3) pa_nil))) (pg_sub (pv 1) pe_int set_list)))))
      (pssx_cons (psx_of (ps_for PassesOwn.never rfl (pi_list (pe_dget hu1 (pv 0) pe_str (fun _ _ => rfl))) (pg_name (i := 4) scTx.nd rfl (Or.inl rfl)) (pss_one (ps_asg (pe_op op_add_str (pe_op op_add_str (pe_ix ix_list (pv 1) pe_int (fun _ _ => rfl)) pe_str) (pe_ix ix_list (pe_lst (pa_cons pe_str (pa_cons (pe_bm PySem.F.plainAttrs_str PySem.F.slot_str_join PySem.F.type_str_join mt_join pe_str (pa_cons (pe_comp (N' := ["_law_box"]) (fr := [none]) scTxC1 rfl (pi_tup (pv 4)) (fun C s0 H0 fp => (pg_name (i := 0) scTxC1.nd rfl (Or.inl rfl))) (fun C s0 H0 fp => pts_nil) (fun C s0 H0 fp => (pe_callTy call_str_int (by rfl) T.str bt_str (pa_cons (pv 0) pa_nil)))) pa_nil)) pa_nil))) (pe_callTy call_int1 (by rfl) T.int bt_int (pa_cons (pe_cmpR (op_neA hu6) (pv 4) (pe_tup pa_nil) (nomark _)) pa_nil)) (fun _ _ => rfl))) (pg_sub (pv 1) pe_int set_list)))))
      (pssx_cons (psx_of (ps_for PassesOwn.never rfl (pi_list (pe_dget hu1 (pv 0) pe_str (fun _ _ => rfl))) (pg_two (K := K) (i := 5) (j := 6) rfl rfl scTx.nd rfl (Or.inl rfl) rfl (Or.inl rfl)) (pss_one (ps_asg (pe_op op_add_str (pe_op op_add_str (pe_op op_add_str (pe_op op_add_str (pe_ix ix_list (pv 1) pe_int (fun _ _ => rfl)) pe_str) (pe_callTy call_str_int (by rfl) T.str bt_str (pa_cons (pv 5) pa_nil))) pe_str) (pe_callTy call_str_int (by rfl) T.str bt_str (pa_cons (pv 6) pa_nil))) (pg_sub (pv 1) pe_int set_list)))))
      (pssx_one (psx_of (ps_ret (pe_bm PySem.F.plainAttrs_str PySem.F.slot_str_join PySem.F.type_str_join mt_join pe_str (pa_cons (pv 1) pa_nil)))))))))) ?_
    refine ⟨Nat.le_of_ble_eq_true rfl, fun lr nlH => ?_⟩
    have S0 := same_new (o := .lst [V.str "leads", V.str "forms", V.str "free", V.str "counts"]) nlH
    have hr0 : upd H lr (.lst [V.str "leads", V.str "forms", V.str "free", V.str "counts"]) lr = _ := upd_same
    generalize upd H lr (.lst [V.str "leads", V.str "forms", V.str "free", V.str "counts"]) = G0 at S0 hr0 ⊢
    refine ⟨_, rfl, p, _, rfl, (show DGet G0 p (.str "leads") (some (.ref q0)) from DGet.k (k := Sum.inr "leads") (S0 _ _ hp)), q0, rfl, ⟨_, SqL.of (S0 _ _ h0)⟩, for_list (K := K) (a := q0) (xs := x0) (fun i σ G => ∃ (v2 : Option V), σ = [some (.ref p), some (.ref lr), v2, none, none, none, none] ∧ Same H G ∧ G lr = some (.lst [V.str (Txt.join " " (("leads" : Str) :: (q.L.take i).map shLead)), V.str "forms", V.str "free", V.str "counts"])) ?_ ?_ ?_ ?_⟩
    · exact ⟨none, rfl, S0, hr0⟩
    · rintro i σ G _ ⟨v2, rfl, s2, _⟩
      exact SqL.of (s2 _ _ h0)
    · rintro i x σ G hx ⟨v2, rfl, s2, hG⟩
      have hil : i < q.L.length := by have := (List.getElem?_eq_some_iff.mp hx).1; have := z0.len; rw [List.length_map] at this; omega
      have hn : q.L[i]? = some q.L[i] := List.getElem?_eq_getElem hil
      generalize q.L[i] = o at hn
      have hmem := List.mem_of_getElem? hn
      have hv := (z0.get i x _ hx (by rw [List.getElem?_map, hn]; rfl)).same s2
      have hsz := acc_len (L := q.L) (sh := shLead) (w _ (List.mem_of_getElem? (i := 0) rfl)).1 (w _ (List.mem_of_getElem? (i := 0) rfl)).2.1 i
      have hso := ((w _ (List.mem_of_getElem? (i := 0) rfl)).1 (shLead o) (List.mem_cons_of_mem _ (List.mem_map_of_mem hmem))).2
      have hst := take_step (nm := "leads") (sh := shLead) hn
      generalize Txt.join " " (("leads" : Str) :: (q.L.take i).map shLead) = aa at hG hsz hst ⊢
      have hsz : aa.length ≤ 700 := hsz
      have hso : (shLead o).length ≤ 27 := hso
      cases o with
      | none =>
        cases hv
        refine ⟨_, rfl, lr, _, _, _, rfl, rfl, SqL.of hG, at0 _ _, ?_⟩
        refine ⟨_, rfl, .inr ⟨rfl, _, _, rfl, rfl, ?_, Nat.le_of_ble_eq_true rfl, fun l6 n6 => ?_⟩⟩
        · refine small_len ?_
          exact Nat.le_of_ble_eq_true rfl
        have t6 := same_new (o := .lst [V.str " -", .str (" " ++ "None")]) n6
        have hl6 : upd G l6 (.lst [V.str " -", .str (" " ++ "None")]) l6 = _ := upd_same
        generalize upd G l6 (.lst [V.str " -", .str (" " ++ "None")]) = G6 at t6 hl6 ⊢
        refine ⟨_, rfl, rfl, .inr ⟨_, rfl, l6, _, _, _, rfl, rfl, SqL.of hl6, rfl, _, _, rfl, rfl, small_len ?_, ?_⟩⟩
        · show aa.length + 2 ≤ _; omega
        refine ⟨_, rfl, lr, _, _, 0, rfl, rfl, t6 _ _ hG, rfl, _, rfl, same_put (s2.trans t6) nlH, ?_⟩
        rw [upd_same, hst, sapp]
        rfl
      | some n =>
        cases hv
        refine ⟨_, rfl, lr, _, _, _, rfl, rfl, SqL.of hG, at0 _ _, ?_⟩
        refine ⟨_, rfl, .inl ⟨n, rfl, log_sm (by have := hok.L2 _ hmem n rfl; omega), _, _, rfl, rfl, ?_, Nat.le_of_ble_eq_true rfl, fun l6 n6 => ?_⟩⟩
        · refine small_len ?_
          have : (tos n).length ≤ 27 := hso; show 1 + (tos n).length ≤ _; omega
        have t6 := same_new (o := .lst [V.str " -", .str (" " ++ Str.ofString (toString n))]) n6
        have hl6 : upd G l6 (.lst [V.str " -", .str (" " ++ Str.ofString (toString n))]) l6 = _ := upd_same
        generalize upd G l6 (.lst [V.str " -", .str (" " ++ Str.ofString (toString n))]) = G6 at t6 hl6 ⊢
        refine ⟨_, rfl, rfl, .inr ⟨_, rfl, l6, _, _, _, rfl, rfl, SqL.of hl6, (show atI [V.str " -", .str (" " ++ Str.ofString (toString n))] (if (!decide (V.int n = V.non)) = true then 1 else 0) = some (.str (" " ++ Str.ofString (toString n))) by rw [decide_eq_false (fun z => by cases z)]; rfl), _, _, rfl, rfl, small_len ?_, ?_⟩⟩
        · have : (tos n).length ≤ 27 := hso; rw [slen]; show aa.length + (1 + (tos n).length) ≤ _; omega
        refine ⟨_, rfl, lr, _, _, 0, rfl, rfl, t6 _ _ hG, rfl, _, rfl, same_put (s2.trans t6) nlH, ?_⟩
        rw [upd_same, hst, sapp]
        rfl
    rintro σ G1 ⟨v2, rfl, S1, hr1⟩
    have hxl0 := z0.len
    rw [List.length_map] at hxl0
    rw [hxl0, List.take_length] at hr1
    refine ⟨_, rfl, p, _, rfl, (show DGet G1 p (.str "forms") (some (.ref q1)) from DGet.k (k := Sum.inr "forms") (S1 _ _ hp)), q1, rfl, ⟨_, SqL.of (S1 _ _ h1)⟩, for_list (K := K) (a := q1) (xs := x1) (fun i σ G => ∃ (v2 v3 : Option V), σ = [some (.ref p), some (.ref lr), v2, v3, none, none, none] ∧ Same H G ∧ G lr = some (.lst [V.str (Txt.join " " (("leads" : Str) :: q.L.map shLead)), V.str (Txt.join " " (("forms" : Str) :: (q.F.take i).map tos)), V.str "free", V.str "counts"])) ?_ ?_ ?_ ?_⟩
    · exact ⟨_, none, rfl, S1, hr1⟩
    · rintro i σ G _ ⟨v2, v3, rfl, s2, _⟩
      exact SqL.of (s2 _ _ h1)
    · rintro i x σ G hx ⟨v2, v3, rfl, s2, hG⟩
      have hil : i < q.F.length := by have := (List.getElem?_eq_some_iff.mp hx).1; have := z1.len; rw [List.length_map] at this; omega
      have hn : q.F[i]? = some q.F[i] := List.getElem?_eq_getElem hil
      generalize q.F[i] = o at hn
      have hmem := List.mem_of_getElem? hn
      have hv := (z1.get i x _ hx (by rw [List.getElem?_map, hn]; rfl)).same s2
      have hsz := acc_len (L := q.F) (sh := tos) (w _ (List.mem_of_getElem? (i := 1) rfl)).1 (w _ (List.mem_of_getElem? (i := 1) rfl)).2.1 i
      have hso := ((w _ (List.mem_of_getElem? (i := 1) rfl)).1 (tos o) (List.mem_cons_of_mem _ (List.mem_map_of_mem hmem))).2
      have hst := take_step (nm := "forms") (sh := tos) hn
      generalize Txt.join " " (("forms" : Str) :: (q.F.take i).map tos) = aa at hG hsz hst ⊢
      have hsz : aa.length ≤ 700 := hsz
      have hso : (tos o).length ≤ 27 := hso
      cases hv
      have hb := hok.F2 _ hmem
      refine ⟨_, rfl, lr, _, _, _, rfl, rfl, SqL.of hG, rfl, _, _, rfl, rfl, small_len ?_, _, rfl, o, rfl, log_sm (by omega), _, _, rfl, rfl, small_len ?_, ?_⟩
      · show aa.length + 1 ≤ _; omega
      · rw [slen]; show aa.length + 1 + (tos o).length ≤ _; omega
      refine ⟨_, rfl, lr, _, _, 1, rfl, rfl, hG, rfl, _, _, rfl, same_put s2 nlH, ?_⟩
      rw [upd_same, hst]
      rfl
    rintro σ G2 ⟨v2, v3, rfl, S2, hr2⟩
    have hxl1 := z1.len
    rw [List.length_map] at hxl1
    rw [hxl1, List.take_length] at hr2
    refine ⟨_, rfl, p, _, rfl, (show DGet G2 p (.str "free") (some (.ref q2)) from DGet.k (k := Sum.inr "free") (S2 _ _ hp)), q2, rfl, ⟨_, SqL.of (S2 _ _ h2)⟩, for_list (K := K) (a := q2) (xs := x2) (fun i σ G => ∃ (v2 v3 v4 : Option V), σ = [some (.ref p), some (.ref lr), v2, v3, v4, none, none] ∧ Same H G ∧ G lr = some (.lst [V.str (Txt.join " " (("leads" : Str) :: q.L.map shLead)), V.str (Txt.join " " (("forms" : Str) :: q.F.map tos)), V.str (Txt.join " " (("free" : Str) :: (q.B.take i).map shBoxes)), V.str "counts"])) ?_ ?_ ?_ ?_⟩
    · exact ⟨_, _, none, rfl, S2, hr2⟩
    · rintro i σ G _ ⟨v2, v3, v4, rfl, s2, _⟩
      exact SqL.of (s2 _ _ h2)
    · rintro i x σ G hx ⟨v2, v3, v4, rfl, s2, hG⟩
      have hil : i < q.B.length := by have := (List.getElem?_eq_some_iff.mp hx).1; have := z2.len; rw [List.length_map] at this; omega
      have hn : q.B[i]? = some q.B[i] := List.getElem?_eq_getElem hil
      generalize q.B[i] = o at hn
      have hmem := List.mem_of_getElem? hn
      have hv := (z2.get i x _ hx (by rw [List.getElem?_map, hn]; rfl)).same s2
      have hsz := acc_len (L := q.B) (sh := shBoxes) (w _ (List.mem_of_getElem? (i := 2) rfl)).1 (w _ (List.mem_of_getElem? (i := 2) rfl)).2.1 i
      have hso := ((w _ (List.mem_of_getElem? (i := 2) rfl)).1 (shBoxes o) (List.mem_cons_of_mem _ (List.mem_map_of_mem hmem))).2
      have hst := take_step (nm := "free") (sh := shBoxes) hn
      generalize Txt.join " " (("free" : Str) :: (q.B.take i).map shBoxes) = aa at hG hsz hst ⊢
      have hsz : aa.length ≤ 700 := hsz
      have hso : (shBoxes o).length ≤ 27 := hso
      obtain ⟨qq, rfl, hqq⟩ := tup_ints hv
      have hb := hok.B2 _ hmem
      refine ⟨_, rfl, lr, _, _, _, rfl, rfl, SqL.of hG, rfl, _, _, rfl, rfl, small_len ?_, ?_⟩
      · show aa.length + 1 ≤ _; omega
      refine ⟨rfl, _, rfl, qq, rfl, ⟨_, SqT.of hqq⟩, fun D nD => comp_tup (K := K) (a := qq) (xs := o.map V.int) (fun i σ ys G' => ∃ (v : Option V), σ = [v] ∧ ys = ((o.take i).map tos).map V.str ∧ Same G G' ∧ G' D = some (.lst ys)) ?_ ?_ ?_ ?_⟩
      · exact ⟨none, rfl, rfl, same_new nD, upd_same⟩
      · rintro i σ ys G' _ ⟨v, rfl, _, s3, _⟩
        exact SqT.of (s3 _ _ hqq)
      · rintro i x σ ys G' hx ⟨v, rfl, rfl, s3, hD⟩
        rw [List.getElem?_map] at hx
        obtain ⟨n, hn', rfl⟩ := Option.map_eq_some_iff.mp hx
        have hbn := hb.1 n (List.mem_of_getElem? hn')
        refine ⟨_, rfl, n, rfl, log_sm (by omega), hD, small_lt (by rw [List.length_map, List.length_map, List.length_take]; omega), _, rfl, ?_, same_put s3 nD, upd_same⟩
        rw [List.take_add_one, hn', List.map_append, List.map_append]
        rfl
      rintro σ ys G3 ⟨v, rfl, rfl, s3, hD⟩
      rw [List.length_map, List.take_length] at hD
      refine ⟨"", D, o.map tos, rfl, rfl, SqL.of hD, ?_, Nat.le_of_ble_eq_true rfl, fun l6 n6 => ?_⟩
      · refine join_ok (small_len ?_)
        have h1 : ((o.map tos).map (·.length)).sum ≤ (o.map tos).length * 13 := sum_le fun t ht => by
          obtain ⟨n, hn', rfl⟩ := List.mem_map.mp ht
          have hbn := hb.1 n hn'
          exact tos_len (by omega)
        have := hb.2.2
        rw [List.length_map] at h1 ⊢
        show _ + _ * 0 ≤ 1000000
        omega
      have t6 := s3.trans (same_new (o := .lst [V.str "-", .str (Txt.join "" (o.map tos))]) n6)
      have hl6 : upd G3 l6 (.lst [V.str "-", .str (Txt.join "" (o.map tos))]) l6 = _ := upd_same
      generalize upd G3 l6 (.lst [V.str "-", .str (Txt.join "" (o.map tos))]) = G6 at t6 hl6 ⊢
      refine ⟨_, rfl, Nat.le_of_ble_eq_true rfl, fun l7 n7 => ?_⟩
      have t7 := same_new (o := .tup []) n7
      have hl7 : upd G6 l7 (.tup []) l7 = _ := upd_same
      have hqq7 := t7 _ _ (t6 _ _ hqq)
      have hl6 := t7 _ _ hl6
      have t7 := t6.trans t7
      generalize upd G6 l7 (.tup []) = G7 at t7 hl7 hqq7 hl6 ⊢
      refine ⟨1, qq, l7, tupI o, .tup [], rfl, rfl, (HD.tupS hqq7 (ints_hd o)).da K, (HD.tupS hl7 .nil).da K, .tup (fun d hd => by
        obtain ⟨n, _, rfl⟩ := List.mem_map.mp hd
        exact .int), .tup (fun d hd => by cases hd), by decide, .inr ⟨_, rfl, l6, _, _, .str (shBoxes o), rfl, rfl, SqL.of hl6, ?_, _, _, rfl, rfl, small_len ?_, ?_⟩⟩
      · unfold shBoxes
        by_cases c : o = []
        · subst c; rfl
        · rw [if_neg c, decide_eq_false (fun z => c (by
            have z := Da.tup.inj z
            cases o with
            | nil => rfl
            | cons a b => cases z))]
          rfl
      · rw [slen]; show aa.length + 1 + (shBoxes o).length ≤ _; omega
      refine ⟨_, rfl, lr, _, _, 2, rfl, rfl, t7 _ _ hG, rfl, _, _, _, rfl, same_put (s2.trans t7) nlH, ?_⟩
      rw [upd_same, hst]
      rfl
    rintro σ G3 ⟨v2, v3, v4, rfl, S3, hr3⟩
    have hxl2 := z2.len
    rw [List.length_map] at hxl2
    rw [hxl2, List.take_length] at hr3
    refine ⟨_, rfl, p, _, rfl, (show DGet G3 p (.str "counts") (some (.ref q3)) from DGet.k (k := Sum.inr "counts") (S3 _ _ hp)), q3, rfl, ⟨_, SqL.of (S3 _ _ h3)⟩, for_list (K := K) (a := q3) (xs := x3) (fun i σ G => ∃ (v2 v3 v4 v5 v6 : Option V), σ = [some (.ref p), some (.ref lr), v2, v3, v4, v5, v6] ∧ Same H G ∧ G lr = some (.lst [V.str (Txt.join " " (("leads" : Str) :: q.L.map shLead)), V.str (Txt.join " " (("forms" : Str) :: q.F.map tos)), V.str (Txt.join " " (("free" : Str) :: q.B.map shBoxes)), V.str (Txt.join " " (("counts" : Str) :: (q.C.take i).map shCount))])) ?_ ?_ ?_ ?_⟩
    · exact ⟨_, _, _, none, none, rfl, S3, hr3⟩
    · rintro i σ G _ ⟨v2, v3, v4, v5, v6, rfl, s2, _⟩
      exact SqL.of (s2 _ _ h3)
    · rintro i x σ G hx ⟨v2, v3, v4, v5, v6, rfl, s2, hG⟩
      have hil : i < q.C.length := by have := (List.getElem?_eq_some_iff.mp hx).1; have := z3.len; rw [List.length_map] at this; omega
      have hn : q.C[i]? = some q.C[i] := List.getElem?_eq_getElem hil
      generalize q.C[i] = o at hn
      have hmem := List.mem_of_getElem? hn
      have hv := (z3.get i x _ hx (by rw [List.getElem?_map, hn]; rfl)).same s2
      have hsz := acc_len (L := q.C) (sh := shCount) (w _ (List.mem_of_getElem? (i := 3) rfl)).1 (w _ (List.mem_of_getElem? (i := 3) rfl)).2.1 i
      have hso := ((w _ (List.mem_of_getElem? (i := 3) rfl)).1 (shCount o) (List.mem_cons_of_mem _ (List.mem_map_of_mem hmem))).2
      have hst := take_step (nm := "counts") (sh := shCount) hn
      generalize Txt.join " " (("counts" : Str) :: (q.C.take i).map shCount) = aa at hG hsz hst ⊢
      have hsz : aa.length ≤ 700 := hsz
      have hso : (shCount o).length ≤ 27 := hso
      obtain ⟨qq, rfl, hqq⟩ := tup_ints hv
      obtain ⟨a, b, rfl, ha, hb⟩ := hok.C2 _ hmem
      have ta := tos_len (i := a) (by omega)
      have tb := tos_len (i := b) (by omega)
      refine ⟨qq, _, rfl, SqT.of hqq, rfl, _, _, rfl, _, _, rfl, rfl, ?_⟩
      refine ⟨_, rfl, lr, _, _, _, rfl, rfl, SqL.of hG, rfl, _, _, rfl, rfl, small_len ?_, _, rfl, a, rfl, log_sm (by omega), _, _, rfl, rfl, small_len ?_, _, _, rfl, rfl, small_len ?_, _, rfl, b, rfl, log_sm (by omega), _, _, rfl, rfl, small_len ?_, ?_⟩
      · show aa.length + 1 ≤ _; omega
      · rw [slen]; show aa.length + 1 + (tos a).length ≤ _; omega
      · rw [slen, slen]; show aa.length + 1 + (tos a).length + 1 ≤ _; omega
      · rw [slen, slen, slen]; show aa.length + 1 + (tos a).length + 1 + (tos b).length ≤ _; omega
      refine ⟨_, rfl, lr, _, _, 3, rfl, rfl, hG, rfl, _, _, _, _, _, rfl, same_put s2 nlH, ?_⟩
      rw [upd_same, hst]
      rw [show shCount [a, b] = tos a ++ ":" ++ tos b from rfl, ← sapp, ← sapp]
      rfl
    rintro σ G4 ⟨v2, v3, v4, v5, v6, rfl, S4, hr4⟩
    have hxl3 := z3.len
    rw [List.length_map] at hxl3
    rw [hxl3, List.take_length] at hr4
    exact ⟨rfl, _, rfl, "\n", lr, q.ls, rfl, rfl, SqL.of hr4, (pap_ok hok).jl, k _ S4⟩
end
end My


set_option Elab.async false
set_option linter.all false
set_option maxRecDepth 100000
set_option maxHeartbeats 4000000
namespace My
open PySem L2
def numL (m : Int) (x : Str) : Option Int := if figP x = true ∧ x.length ≤ 10 ∧ numOf x ≤ m then some (numOf x) else none
theorem filt_all {l : List Nat} (h : (l.filter isFg).length = l.length) : l.all isFg = true := by
  rw [List.all_eq_true]
  have := List.length_filter_eq_length_iff.mp h
  exact this
theorem figP_nil : figP "" = false := by decide +kernel
theorem figP_cons {x : Str} {c : Nat} {r : List Nat} (hx : x.cps.toList = c :: r) (ha : x.cps.toList.all isFg = true) (h : ¬ (c = 48 ∧ x ≠ "0")) : figP x = true := by
  have h0c : x.cps[0]? = some c := by rw [← Array.getElem?_toList, hx]; rfl
  have h1 : ¬ x = "" := fun z => by rw [z] at hx; cases hx
  unfold figP
  rw [ha, Bool.true_and]
  by_cases z : x = "0"
  · rw [decide_eq_true z]; rfl
  · have hc : ¬ c = 48 := fun y => h ⟨y, z⟩
    rw [decide_eq_true h1, h0c, decide_eq_true (show ¬ some c = some 48 from fun z => hc (Option.some.inj z))]
    simp
theorem figP_zero {x : Str} {r : List Nat} (hx : x.cps.toList = 48 :: r) (h : x ≠ "0") : figP x = false := by
  have h0c : x.cps[0]? = some 48 := by rw [← Array.getElem?_toList, hx]; rfl
  unfold figP
  rw [decide_eq_false h, h0c]
  simp
section
variable {P : Program} {w : World} {K : PySem.W.Frag} {mg : Str → Option Value} {base : Heap}
def spNb : Sp := fun vs H Q _ => ∃ (x : Str) (m : Int), vs = [.str x, .int m] ∧ Asc x ∧ ∀ H', Same H H' → Q (ov (numL m x)) H'
theorem scNb : FnScope ["_law_word", "_law_most", "_law_figures"] ["_law_word", "_law_most"] (defScope s_law_number) := ⟨rfl, rfl, rfl, by decide +kernel, rfl, by decide +kernel, by decide +kernel⟩
def csNbC1 : Scope := { kind := .function, names := [(".0", .local), ("_law_sign", .local)], isGenerator := false, isCoroutine := false, more := [] }
theorem scNbC1 : CompSc (defScope s_law_number) csNbC1 ["_law_word", "_law_most", "_law_figures"] ["_law_sign"] [none] := ⟨rfl, by decide +kernel, by decide +kernel, by decide +kernel, by decide +kernel, by decide +kernel⟩
theorem ok_law_number {f : Addr} {fd : FuncData} (F : Fun K "_law_number" "_law_number" s_law_number f fd) (T : Txt K w.params mg)  : FnOk P w K mg base CX0 1 f fd ["_law_word", "_law_most"] spNb := by
  refine F.ok scNb (fun vs H Q E h => ?_) (fun cdv A outer s H vs Q E hr h => ?_)
  · obtain ⟨x, m, rfl, _⟩ := h
    rfl
  · obtain ⟨x, m, rfl, ⟨ha, hz⟩, k⟩ := h
    have hlen : x.length ≤ 3000 := hz
    refine wrapX (pssx_cons (psx_of (ps_comp (i := 2) (N' := ["_law_sign"]) (fr := [none]) scNb.nd rfl rfl scNbC1 rfl (pi_str (pv 0)) (fun C s0 H0 fp => (pg_name (i := 0) scNbC1.nd rfl (Or.inl rfl))) (fun C s0 H0 fp => (pts_one (pt_cmpR op_in_str (pv 0) pe_str rfl))) (fun C s0 H0 fp => (pv 0))))
      (pssx_cons (psx_if (pw_or (pt_cmpR op_eq (pv 0) pe_str (nomark _)) (pw_or (pt_cmpR op_ne (pe_callB call_len_seq (by rfl) T.len bt_len (pa_cons (pv 2) pa_nil)) (pe_callB call_len_str (by rfl) T.len bt_len (pa_cons (pv 0) pa_nil)) (nomark _)) (pw_or (pt_cmpR op_gt (pe_callB call_len_str (by rfl) T.len bt_len (pa_cons (pv 0) pa_nil)) pe_int (nomark _)) (pw_or1 (pw_and (pt_cmpR op_eq (pe_ix ix_str (pv 0) pe_int (fun _ _ => rfl)) pe_str (nomark _)) (pw_and1 (pt_cmpR op_ne (pv 0) pe_str (nomark _)))).pt)))).pt (pssx_one (psx_of (ps_ret pe_non))) (pssx_nil pss_nil))
      (pssx_one (psx_of (ps_ret (pe_ix ix_list (pe_lst (pa_cons pe_non (pa_cons (pe_callTy call_int_txt (by rfl) T.int bt_int (pa_cons (pv 0) pa_nil)) pa_nil))) (pe_callTy call_int1 (by rfl) T.int bt_int (pa_cons (pe_cmpR op_le (pe_callTy call_int_txt (by rfl) T.int bt_int (pa_cons (pv 0) pa_nil)) (pv 1) (nomark _)) pa_nil)) (fun _ _ => rfl))))))) ?_
    refine ⟨_, rfl, x, rfl, ha, fun D nD => comp_str (x := x) (fun i σ ys H2 => ∃ v : Option V, σ = [v] ∧ ys = ((x.cps.toList.take i).filter isFg).map (fun c : Nat => V.str ⟨#[c]⟩) ∧ Same H H2 ∧ H2 D = some (.lst ys)) ?_ ?_ ?_⟩
    · exact ⟨none, rfl, rfl, same_new nD, upd_same⟩
    · rintro i v σ ys H2 hv ⟨v0, rfl, rfl, s2, hD⟩
      unfold chV at hv
      obtain ⟨c, hc, rfl⟩ := Option.map_eq_some_iff.mp hv
      have hi : i < x.cps.size := (Array.getElem?_eq_some_iff.mp hc).1
      have hc' : x.cps.toList[i]? = some c := by rw [Array.getElem?_toList]; exact hc
      have h128 : c < 128 := by
        have := (Array.all_eq_true.mp ha) i hi
        rw [(Array.getElem?_eq_some_iff.mp hc).2] at this
        exact of_decide_eq_true this
      have tk : x.cps.toList.take (i + 1) = x.cps.toList.take i ++ [c] := by rw [List.take_add_one, hc']; rfl
      refine ⟨_, rfl, _, _, rfl, rfl, _, rfl, ?_⟩
      rw [fig_in c h128]
      refine ite2 (fun e => ?_) (fun e => ?_)
      · refine ⟨_, rfl, hD, ?_, _, rfl, ?_, same_put s2 nD, upd_same⟩
        · rw [List.length_map]
          have := List.length_filter_le isFg (x.cps.toList.take i)
          rw [List.length_take] at this
          exact small_lt (by omega)
        · rw [tk, List.filter_append, List.map_append, List.filter_cons_of_pos (p := isFg) e]
          rfl
      · refine ⟨_, rfl, ?_, s2, hD⟩
        rw [tk, List.filter_append, List.filter_cons_of_neg (p := isFg) e]
        simp
    rintro σ ys G ⟨v0, rfl, rfl, s2, hD⟩
    have et : x.cps.toList.take x.cps.size = x.cps.toList := List.take_of_length_le (by simp)
    rw [et] at hD
    have non : numL m x = none → Q .non G := fun e => by have := k G s2; rw [e] at this; exact this
    have nf : ¬ figP x = true → numL m x = none := fun h => if_neg fun z => h z.1
    by_cases h1 : x = ""
    · exact ⟨_, rfl, rfl, _, rfl, iteP (decide_eq_true (by rw [h1])) (iteP rfl (non (nf (by rw [h1, figP_nil]; decide))))⟩
    have e1 : decide (V.str x = V.str "") = false := decide_eq_false fun z => h1 (V.str.inj z)
    refine ⟨_, rfl, rfl, _, rfl, iteN (by rw [e1]; decide) ?_⟩
    refine ⟨_, rfl, D, _, rfl, .inl (SqL.of hD), _, rfl, x, rfl, small_len (by omega), rfl, _, rfl, ?_⟩
    by_cases h2 : x.cps.toList.all isFg = true
    rotate_left
    · refine iteP ?_ (iteP rfl (non (nf fun z => h2 ?_)))
      · rw [decide_eq_false (fun z => h2 (filt_all (by
          have := V.int.inj z
          rw [List.length_map] at this
          have e : x.cps.toList.length = x.length := by simp [Str.length]
          omega)))]
        rfl
      · unfold figP at z
        rw [Bool.and_eq_true] at z
        exact z.1
    refine iteN ?_ ?_
    · rw [List.filter_eq_self.mpr (List.all_eq_true.mp h2), List.length_map, Array.length_toList]
      rw [decide_eq_true (show V.int (x.cps.size : Int) = V.int (x.length : Int) from rfl)]
      decide
    refine ⟨_, rfl, x, rfl, small_len (by omega), _, _, rfl, rfl, _, rfl, ?_⟩
    by_cases h3 : (10 : Int) < (x.length : Int)
    · exact iteP (decide_eq_true h3) (iteP rfl (non (if_neg fun z => by have := z.2.1; omega)))
    refine iteN (fun z => h3 (of_decide_eq_true z)) ?_
    cases hx : x.cps.toList with
    | nil => exact absurd (str_ext (y := "") hx) h1
    | cons c r =>
    refine ⟨_, rfl, x, 0, c, rfl, rfl, small_len (by omega), (by rw [hx]; exact at0 _ _), rfl, _, rfl, ?_⟩
    have go : figP x = true → ∀ G, Same H G → tRet (tOp (rIxL K) (tLst (tCons (tC .non) (tCons (tCB (fun xs H Q => ∃ (x : Str) (n : Int), xs = [.str x] ∧ x.length ≤ 640 ∧ PySem.intText? x = some n ∧ Q (.int n) H) (tCons (tVar 0) tNil)) tNil))) (tCB (fun xs H Q => (∃ i, xs = [V.int i] ∧ Q (.int i) H) ∨ ∃ k, xs = [V.bl k] ∧ Q (.int (if k then 1 else 0)) H) (tCons (tOp (rI0 fun i j => .bl (decide (i ≤ j))) (tCB (fun xs H Q => ∃ (x : Str) (n : Int), xs = [.str x] ∧ x.length ≤ 640 ∧ PySem.intText? x = some n ∧ Q (.int n) H) (tCons (tVar 0) tNil)) (tVar 1)) tNil))) { nx := fun _ H' => Q .non H', rt := Q } [some (.str x), some (.int m), some (.ref D)] G := fun hf G sG => by
      obtain ⟨hd, hne⟩ := fig_digits hf
      have hn := intText_digits hd hne (by omega)
      have h640 : x.length ≤ 640 := by omega
      refine ⟨_, rfl, x, _, rfl, h640, hn, Nat.le_of_ble_eq_true rfl, fun l nl => ?_⟩
      have t1 := same_new (o := .lst [V.non, .int (numOf x)]) nl
      have kk := k _ (sG.trans t1)
      by_cases c : numOf x ≤ m
      · rw [show numL m x = some (numOf x) from if_pos ⟨hf, by omega, c⟩] at kk
        exact ⟨_, rfl, x, _, rfl, h640, hn, _, rfl, _, _, rfl, rfl, .inr ⟨_, rfl, l, _, _, _, rfl, rfl, SqL.of upd_same, (show atI [V.non, .int (numOf x)] (if decide (numOf x ≤ m) = true then 1 else 0) = some (.int (numOf x)) by rw [decide_eq_true c]; rfl), kk⟩⟩
      · rw [show numL m x = none from if_neg fun z => c z.2.2] at kk
        exact ⟨_, rfl, x, _, rfl, h640, hn, _, rfl, _, _, rfl, rfl, .inr ⟨_, rfl, l, _, _, _, rfl, rfl, SqL.of upd_same, (show atI [V.non, .int (numOf x)] (if decide (numOf x ≤ m) = true then 1 else 0) = some .non by rw [decide_eq_false c]; rfl), kk⟩⟩
    by_cases hc : c = 48
    · subst hc
      refine iteP (by decide) ?_
      refine ⟨_, rfl, rfl, _, rfl, ?_⟩
      by_cases h0 : x = "0"
      · exact iteN (by rw [decide_eq_true (by rw [h0])]; decide) ((go (by rw [h0]; decide +kernel) G s2))
      · exact iteP (by rw [decide_eq_false (fun z => h0 (V.str.inj z))]; rfl) ((non (nf (by rw [figP_zero hx h0]; decide))))
    · refine iteN (fun z => hc ?_) (iteN (by decide) (go (figP_cons hx h2 fun z => hc z.1) G s2))
      have := V.str.inj (of_decide_eq_true z)
      have := congrArg (fun s : Str => s.cps.toList) this
      exact (List.cons.inj this).1
end
end My


set_option Elab.async false
set_option linter.all false
set_option maxRecDepth 100000
set_option maxHeartbeats 4000000
namespace My
open PySem L2
open PySem.NumText PySem.W.KIN
theorem numOf_nn (x : Str) : 0 ≤ numOf x := by unfold numOf; omega
theorem num_zero {x : Str} (h : figP x = true) (z : numOf x = 0) : x = "0" := by
  have e := figs_back h
  have hz : digitsVal x.cps.toList = 0 := by unfold numOf at z; omega
  rw [hz] at e
  refine str_ext ?_
  rw [e, ← tos_nat 0]
  decide +kernel
theorem num_one {x : Str} (h : figP x = true) (z : numOf x = 1) : x = "1" := by
  have e := figs_back h
  have hz : digitsVal x.cps.toList = 1 := by unfold numOf at z; omega
  rw [hz] at e
  refine str_ext ?_
  rw [e, ← tos_nat 1]
  decide +kernel
theorem neg_fig {x : Str} (h : negS x = true) : ¬ figP x = true := fun z => by
  unfold negS at h
  have h := of_decide_eq_true h
  unfold figP at z
  rw [Bool.and_eq_true] at z
  cases hx : x.cps.toList with
  | nil => rw [hx] at h; cases h
  | cons c r =>
    rw [hx] at h
    have : c = 45 := Option.some.inj h
    subst this
    have := (List.all_eq_true.mp z.1) 45 (by rw [hx]; simp)
    revert this
    decide
theorem rdN_num {kd x : Str} {b : Int} (hb : bdK kd = (0, b)) : rdN kd x = numL b x := by
  have h0 := numOf_nn x
  cases hn : negS x with
  | false =>
    have ef : figsOf x = x := if_neg (by rw [hn]; decide)
    have hnn : ¬ negS x = true := by rw [hn]; decide
    unfold rdN numL readN
    rw [ef, hb]
    by_cases c : figP x = true ∧ x.length ≤ 10
    · rw [if_neg (fun z => z.elim (fun y => by have := c.2; omega) (fun y => y c.1)), if_neg (fun z => hnn z.1), if_neg hnn]
      show (if 0 ≤ numOf x ∧ numOf x ≤ b then some (numOf x) else none) = _
      by_cases d : numOf x ≤ b
      · rw [if_pos ⟨h0, d⟩, if_pos ⟨c.1, c.2, d⟩]
      · rw [if_neg (fun z => d z.2), if_neg (fun z => d z.2.2)]
    · have hc : (10 : Int) < (x.length : Int) ∨ ¬ figP x = true := by
        by_cases d : figP x = true
        · exact .inl (by have : ¬ x.length ≤ 10 := fun z => c ⟨d, z⟩; omega)
        · exact .inr d
      rw [if_pos hc, if_neg (fun z => c ⟨z.1, z.2.1⟩)]
  | true =>
    have e2 : numL b x = none := if_neg fun z => neg_fig hn z.1
    rw [e2]
    have ef : figsOf x = tailS x := if_pos hn
    unfold rdN readN
    rw [ef, hb]
    by_cases c : (10 : Int) < ((tailS x).length : Int) ∨ ¬ figP (tailS x) = true
    · rw [if_pos c]
    · rw [if_neg c]
      by_cases d : negS x = true ∧ tailS x = "0"
      · rw [if_pos d]
      · rw [if_neg d, if_pos hn]
        have hf : figP (tailS x) = true := Classical.byContradiction fun z => c (.inr z)
        have h1 := numOf_nn (tailS x)
        have h2 : numOf (tailS x) ≠ 0 := fun z => d ⟨hn, num_zero hf z⟩
        show (if 0 ≤ -numOf (tailS x) ∧ -numOf (tailS x) ≤ b then some (-numOf (tailS x)) else none) = none
        exact if_neg fun z => by omega
theorem rdForm_l (x : Str) : rdForm x = if x = "0" then some (.int 0) else if x = "1" then some (.int 1) else none := by
  by_cases c : x = "0"
  · rw [if_pos c, c]; decide +kernel
  by_cases d : x = "1"
  · rw [if_neg c, if_pos d, d]; decide +kernel
  rw [if_neg c, if_neg d]
  unfold rdForm rdNum
  rw [rdN_num (b := 1) (by decide +kernel)]
  have : numL 1 x = none := if_neg fun z => by
    have h0 := numOf_nn x
    rcases (by have := z.2.2; omega : numOf x = 0 ∨ numOf x = 1) with e | e
    · exact c (num_zero z.1 e)
    · exact d (num_one z.1 e)
  rw [this]
  rfl
theorem rdLead_l {x : Str} (h : x ≠ "-") : rdLead x = (numL 1000000000 x).map Da.int := by
  unfold rdLead rdNum
  rw [if_neg h, rdN_num (b := 1000000000) (by decide +kernel)]
/-! ### boxes -/
def plc (c : Nat) : Int := if 48 ≤ c ∧ c ≤ 55 then (c : Int) - 48 else -1
theorem find_plc : ∀ c : Nat, c < 128 → (Txt.find ("01234567" : Str) ⟨#[c]⟩ : Int) = plc c := by decide +kernel
theorem rdN_plc : ∀ c : Nat, c < 128 → rdN "box" ⟨#[c]⟩ = if plc c = -1 then none else some (plc c) := by decide +kernel
theorem rdSg_plc : ∀ (l : List Nat), (∀ c ∈ l, c < 128) → rdSg l = if (-1 : Int) ∈ l.map plc then none else some (l.map plc)
  | [], _ => rfl
  | c :: l, h => by
    unfold rdSg
    rw [rdN_plc c (h c (by simp)), rdSg_plc l fun d hd => h d (by simp [hd])]
    by_cases e : plc c = -1
    · have hm : (-1 : Int) ∈ (c :: l).map plc := by rw [List.map_cons, e]; simp
      rw [if_pos e, if_pos hm]
    · rw [if_neg e]
      by_cases g : (-1 : Int) ∈ l.map plc
      · rw [if_pos g, if_pos (by rw [List.map_cons]; exact List.mem_cons_of_mem _ g)]
        rfl
      · rw [if_neg g, if_neg (by
          rw [List.map_cons]
          intro z
          rcases List.mem_cons.mp z with z | z
          · exact e z.symm
          · exact g z)]
        rfl
theorem rise_iff (ns : List Int) : Rise ns ↔ ∀ (k : Nat) a b, ns[k]? = some a → ns[k + 1]? = some b → a < b := by
  constructor
  · rintro ⟨h1, h2⟩ k a b ha hb
    obtain ⟨ka, ea⟩ := List.getElem?_eq_some_iff.mp ha
    obtain ⟨kb, eb⟩ := List.getElem?_eq_some_iff.mp hb
    have c1 := List.pairwise_iff_getElem.mp h1 k (k + 1) ka kb (by omega)
    have c2 := List.pairwise_iff_getElem.mp h2 k (k + 1) ka kb (by omega)
    rw [ea, eb] at c1 c2
    omega
  · intro h
    have key : ∀ (d i : Nat) a b, ns[i]? = some a → ns[i + d + 1]? = some b → a < b := by
      intro d
      induction d with
      | zero => intro i a b ha hb; exact h i a b ha hb
      | succ d ih =>
        intro i a b ha hb
        have hl := (List.getElem?_eq_some_iff.mp hb).1
        have hm : ns[i + d + 1]? = some (ns[i + d + 1]'(by omega)) := List.getElem?_eq_getElem _
        have h1 := ih i a _ ha hm
        have h2 := h (i + d + 1) _ b hm hb
        omega
    refine ⟨List.pairwise_iff_getElem.mpr fun i j hi hj hij => ?_, List.pairwise_iff_getElem.mpr fun i j hi hj hij => ?_⟩
    · have := key (j - i - 1) i ns[i] ns[j] (List.getElem?_eq_getElem hi) (by rw [show i + (j - i - 1) + 1 = j by omega]; exact List.getElem?_eq_getElem hj)
      omega
    · have := key (j - i - 1) i ns[i] ns[j] (List.getElem?_eq_getElem hi) (by rw [show i + (j - i - 1) + 1 = j by omega]; exact List.getElem?_eq_getElem hj)
      omega
theorem rdBoxes_l {x : Str} (h : x ≠ "-") (ha : x.cps.all (· < 128) = true) : rdBoxes x = if x ≠ "" ∧ (-1 : Int) ∉ x.cps.toList.map plc ∧ Rise (x.cps.toList.map plc) then some (tupI (x.cps.toList.map plc)) else none := by
  unfold rdBoxes
  rw [if_neg h, rdSg_plc _ fun c hc => by
    rw [Array.all_eq_true_iff_forall_mem] at ha
    exact of_decide_eq_true (ha c (Array.mem_def.mpr hc))]
  have hne : x ≠ "" ↔ x.cps.toList.map plc ≠ [] := by
    constructor
    · intro z y
      exact z (str_ext (by rw [List.map_eq_nil_iff.mp y]; rfl))
    · intro z y
      subst y
      exact z rfl
  by_cases c : (-1 : Int) ∈ x.cps.toList.map plc
  · rw [if_pos c, if_neg (fun z => z.2.1 c)]
  · rw [if_neg c]
    show (if x.cps.toList.map plc ≠ [] ∧ Rise (x.cps.toList.map plc) then some (Da.tup ((x.cps.toList.map plc).map Da.int)) else none) = _
    by_cases d : x ≠ "" ∧ Rise (x.cps.toList.map plc)
    · rw [if_pos ⟨hne.mp d.1, d.2⟩, if_pos ⟨d.1, c, d.2⟩]
      rfl
    · rw [if_neg (fun z => d ⟨hne.mpr z.1, z.2⟩), if_neg (fun z => d ⟨z.1, z.2.2⟩)]
/-! ### counts -/
def oD : Option Int → Da
  | none => .non
  | some n => .int n
theorem rdCount_l (x : Str) : rdCount x = if (Txt.split x ":").length = 2 ∧ none ∉ (Txt.split x ":").map (numL 1000000) then some (.tup (((Txt.split x ":").map (numL 1000000)).map oD)) else none := by
  unfold rdCount
  generalize Txt.split x ":" = ps
  have hA : ∀ y, rdN "number" y = numL 1000000 y := fun y => rdN_num (by decide +kernel)
  have hB : ∀ y, rdN "aside" y = numL 1000000 y := fun y => rdN_num (by decide +kernel)
  match ps with
  | [] => rfl
  | [a] => rw [if_neg (by simp)]
  | a :: b :: c :: r => rw [if_neg (by simp)]
  | [a, b] =>
    show (match rdN "number" a with | none => none | some n => match rdN "aside" b with | none => none | some m => some (Da.tup [.int n, .int m])) = _
    rw [hA, hB]
    cases h1 : numL 1000000 a with
    | none => rw [if_neg (by simp [h1])]
    | some n =>
      cases h2 : numL 1000000 b with
      | none => rw [if_neg (by simp [h2])]
      | some m => rw [if_pos (by simp [h1, h2])]; simp [h1, h2, oD]
end My


set_option Elab.async false
set_option linter.all false
set_option maxRecDepth 100000
set_option maxHeartbeats 4000000
namespace My
open PySem L2
def TgR (r : Option Da) (H : Hp) (Q : VK) : Prop := match r with
  | none => ∀ (l : Addr) (H' : Hp), Same H H' → H l = none → H' l = some (.lst []) → Q (.ref l) H'
  | some d => ∀ (l : Addr) (v : V) (H' : Hp), Same H H' → H l = none → H' l = some (.lst [v]) → HD H' v d → Q (.ref l) H'
theorem rep_go {r : Option Da} {H G : Hp} {Q : VK} {l : Addr} {v : V} {d : Da} {c : Bool} (s : Same H G) (hl : G l = some (.lst [v])) (hv : c = true → HD G v d) (h1 : c = true → r = some d) (h0 : c = false → r = none) (k : TgR r H Q) : rRep (.ref l) (.int (if c = true then 1 else 0)) G Q := by
  cases c with
  | true =>
    rw [h1 rfl] at k
    refine ⟨l, 1, _, rfl, rfl, hl, by decide, by decide, Nat.le_of_ble_eq_true rfl, fun p np => ?_⟩
    exact k p v _ (s.trans (same_new np)) (s.free np) upd_same ((hv rfl).same (same_new np))
  | false =>
    rw [h0 rfl] at k
    refine ⟨l, 0, _, rfl, rfl, hl, by decide, by decide, Nat.le_of_ble_eq_true rfl, fun p np => ?_⟩
    exact k p _ (s.trans (same_new np)) (s.free np) upd_same
theorem ov_hd {H : Hp} (o : Option Int) : HD H (ov o) (oD o) := by
  cases o with
  | none => exact .non
  | some n => exact .int n
theorem ovs_hd {H : Hp} : ∀ os : List (Option Int), HDs H (os.map ov) (os.map oD)
  | [] => .nil
  | o :: os => .cons (ov_hd o) (ovs_hd os)
theorem in_ints (a : Int) : ∀ ns : List Int, inV (.int a) (ns.map V.int) = decide (a ∈ ns)
  | [] => rfl
  | n :: ns => by
    have ih := in_ints a ns
    unfold inV at ih ⊢
    rw [List.map_cons, List.any_cons, ih]
    show ((n == a) || _) = _
    by_cases c : n = a
    · subst c; simp
    · have : ¬ a = n := fun z => c z.symm
      simp [c, this]
theorem in_ovs : ∀ os : List (Option Int), inV .non (os.map ov) = decide (none ∈ os)
  | [] => rfl
  | o :: os => by
    have ih := in_ovs os
    unfold inV at ih ⊢
    rw [List.map_cons, List.any_cons, ih]
    cases o with
    | none => show (true || _) = _; simp
    | some n => show (false || _) = _; simp
theorem flat_ints (ns : List Int) : (ns.map V.int).all flatV = true := by
  rw [List.all_eq_true]
  intro x hx
  obtain ⟨n, _, rfl⟩ := List.mem_map.mp hx
  rfl
theorem flat_ovs (os : List (Option Int)) : (os.map ov).all flatV = true := by
  rw [List.all_eq_true]
  intro x hx
  obtain ⟨n, _, rfl⟩ := List.mem_map.mp hx
  cases n <;> rfl
section
variable {P : Program} {w : World} {K : PySem.W.Frag} {mg : Str → Option Value} {base : Heap}
def spTg : Sp := fun vs H Q _ => ∃ (i : Nat) (x : Str), vs = [.int (i : Int), .str x] ∧ i < 4 ∧ Asc x ∧ TgR (rdK i x) H Q
theorem scTg : FnScope ["_law_row", "_law_word", "_law_number_here", "_law_places", "_law_rising", "_law_parts", "_law_numbers"] ["_law_row", "_law_word"] (defScope s_law_thing) := ⟨rfl, rfl, rfl, by decide +kernel, rfl, by decide +kernel, by decide +kernel⟩
def csTgC1 : Scope := { kind := .function, names := [(".0", .local), ("_law_sign", .local)], isGenerator := false, isCoroutine := false, more := [] }
theorem scTgC1 : CompSc (defScope s_law_thing) csTgC1 ["_law_row", "_law_word", "_law_number_here", "_law_places", "_law_rising", "_law_parts", "_law_numbers"] ["_law_sign"] [none] := ⟨rfl, by decide +kernel, by decide +kernel, by decide +kernel, by decide +kernel, by decide +kernel⟩
def csTgC2 : Scope := { kind := .function, names := [(".0", .local), ("_law_k", .local), ("_law_places", .free)], isGenerator := false, isCoroutine := false, more := [] }
theorem scTgC2 : CompSc (defScope s_law_thing) csTgC2 ["_law_row", "_law_word", "_law_number_here", "_law_places", "_law_rising", "_law_parts", "_law_numbers"] ["_law_k", "_law_places"] [none, some 3] := ⟨rfl, by decide +kernel, by decide +kernel, by decide +kernel, by decide +kernel, by decide +kernel⟩
def csTgC3 : Scope := { kind := .function, names := [(".0", .local), ("_law_part", .local), ("_law_number", .globalImplicit)], isGenerator := false, isCoroutine := false, more := [] }
theorem scTgC3 : CompSc (defScope s_law_thing) csTgC3 ["_law_row", "_law_word", "_law_number_here", "_law_places", "_law_rising", "_law_parts", "_law_numbers"] ["_law_part"] [none] := ⟨rfl, by decide +kernel, by decide +kernel, by decide +kernel, by decide +kernel, by decide +kernel⟩
theorem ok_law_thing {f fN : Addr} {fd fdN : FuncData} (F : Fun K "_law_thing" "_law_thing" s_law_thing f fd) (T : Txt K w.params mg) (GN : FnOk P w K mg base CX0 1 fN fdN ["_law_word", "_law_most"] spNb) (kN : PySem.W.keepIn K (.ref fN) = true) (bN : Binds K fdN ["_law_word", "_law_most"] []) (mN : mg "_law_number" = some (.ref fN)) : FnOk P w K mg base CX0 2 f fd ["_law_row", "_law_word"] spTg := by
  refine F.ok scTg (fun vs H Q E h => ?_) (fun cdv A outer s H vs Q E hr h => ?_)
  · obtain ⟨i, x, rfl, _⟩ := h
    rfl
  · obtain ⟨i, x, rfl, hi, hx, k⟩ := h
    have hu1 : (A.deeper (PyProof.Rows.envOfC "_law_thing" (defScope s_law_thing) s.heap.objs.size f cdv)).units + 1 < cLine := Nat.lt_of_le_of_lt (Nat.add_le_add_left (by decide : 1 ≤ 64) _) hr.units
    have hu6 : (A.deeper (PyProof.Rows.envOfC "_law_thing" (defScope s_law_thing) s.heap.objs.size f cdv)).units + 6 < cLine := Nat.lt_of_le_of_lt (Nat.add_le_add_left (by decide : 6 ≤ 64) _) hr.units
    have hlen : x.length ≤ 3000 := hx.2
    have cp9 : CPow 10 9 := ⟨by decide, by decide, by decide⟩
    have cp6 : CPow 10 6 := ⟨by decide, by decide, by decide⟩
    refine wrapX (pssx_cons (psx_if (pt_cmpR op_eq (pv 0) pe_int (nomark _)) (pssx_one (psx_of (ps_ret (pe_ifExp (pt_cmpR op_in_seq (pv 1) (pe_tup (pa_cons pe_str (pa_cons pe_str pa_nil))) rfl) (pe_lst (pa_cons (pe_dget hu1 (pe_disp (pps_cons pe_str pe_int (pps_cons pe_str pe_int pps_nil)) rfl rfl (List.cons_ne_nil _ _) (Nat.le_of_ble_eq_true rfl)) (pv 1) (fun _ _ => rfl)) pa_nil)) (pe_lst pa_nil))))) (pssx_nil pss_nil))
      (pssx_cons (psx_if (pw_and (pt_cmpR op_lt (pv 0) pe_int (nomark _)) (pw_and1 (pt_cmpR op_eq (pv 1) pe_str (nomark _)))).pt (pssx_one (psx_of (ps_ret (pe_lst (pa_cons (pe_ix ix_list (pe_lst (pa_cons pe_non (pa_cons pe_non (pa_cons (pe_tup pa_nil) pa_nil)))) (pv 0) (fun _ _ => rfl)) pa_nil))))) (pssx_nil pss_nil))
      (pssx_cons (psx_if (pt_cmpR op_eq (pv 0) pe_int (nomark _)) (pssx_cons (psx_of (ps_set (i := 2) scTg.nd rfl (Or.inl rfl) (pe_call GN hr (by rfl) mN kN bN .nil pass0 (pa_cons (pv 1) (pa_cons (pe_op op_pow pe_int pe_int) pa_nil)))))
      (pssx_one (psx_of (ps_ret (pe_op op_rep (pe_lst (pa_cons (pv 2) pa_nil)) (pe_callTy call_int1 (by rfl) T.int bt_int (pa_cons (pe_cmpR op_notN (pv 2) pe_non (nomark _)) pa_nil))))))) (pssx_nil pss_nil))
      (pssx_cons (psx_if (pt_cmpR op_eq (pv 0) pe_int (nomark _)) (pssx_cons (psx_of (ps_set (i := 3) scTg.nd rfl (Or.inr rfl) (pe_comp (N' := ["_law_sign"]) (fr := [none]) scTgC1 rfl (pi_str (pv 1)) (fun C s0 H0 fp => (pg_name (i := 0) scTgC1.nd rfl (Or.inl rfl))) (fun C s0 H0 fp => pts_nil) (fun C s0 H0 fp => (pe_bmK (K := K) PySem.F.plainAttrs_str PySem.F.slot_str_find PySem.F.type_str_find mt_find pe_str (pa_cons (pv 0) pa_nil))))))
      (pssx_cons (psx_of (ps_set (i := 4) scTg.nd rfl (Or.inl rfl) (pe_cmpR (op_eqA hu6) (pe_comp (N' := ["_law_k", "_law_places"]) (fr := [none, some 3]) scTgC2 rfl (pi_range2 rfl T.range (pa_cons pe_int (pa_cons (pe_callB call_len_seq (by rfl) T.len bt_len (pa_cons (pv 3) pa_nil)) pa_nil))) (fun C s0 H0 fp => (pg_name (i := 0) scTgC2.nd rfl (Or.inl rfl))) (fun C s0 H0 fp => (pts_one (pt_cmpR op_le (pe_ix (r := rIxL K) ix_list (pv 1) (pv 0) (fun _ _ => rfl)) (pe_ix (r := rIxL K) ix_list (pv 1) (pe_op op_sub (pv 0) pe_int) (fun _ _ => rfl)) (nomark _)))) (fun C s0 H0 fp => (pv 0))) (pe_lst pa_nil) (nomark _))))
      (pssx_one (psx_of (ps_ret (pe_op op_rep (pe_lst (pa_cons (pe_callTy call_tuple_of (by rfl) T.tuple bt_tuple (pa_cons (pv 3) pa_nil)) pa_nil)) (pe_callTy call_int1 (by rfl) T.int bt_int (pa_cons (pe_and (pe_cmpR op_ne (pv 1) pe_str (nomark _)) (pe_and (pe_cmpR op_notIn_seq (pe_un un_neg pe_int) (pv 3) rfl) (pe_one (pv 4)))) pa_nil)))))))) (pssx_nil pss_nil))
      (pssx_cons (psx_of (ps_set (i := 5) scTg.nd rfl (Or.inl rfl) (pe_bm PySem.F.plainAttrs_str PySem.F.slot_str_split PySem.F.type_str_split mt_split (pv 1) (pa_cons pe_str pa_nil))))
      (pssx_cons (psx_of (ps_comp (i := 6) (N' := ["_law_part"]) (fr := [none]) scTg.nd rfl rfl scTgC3 rfl (pi_list (pv 5)) (fun C s0 H0 fp => (pg_name (i := 0) scTgC3.nd rfl (Or.inl rfl))) (fun C s0 H0 fp => pts_nil) (fun C s0 H0 fp => (pe_call GN hr (by rfl) mN kN bN .nil pass0 (pa_cons (pv 0) (pa_cons (pe_op op_pow pe_int pe_int) pa_nil))))))
      (pssx_one (psx_of (ps_ret (pe_op op_rep (pe_lst (pa_cons (pe_callTy call_tuple_of (by rfl) T.tuple bt_tuple (pa_cons (pv 6) pa_nil)) pa_nil)) (pe_callTy call_int1 (by rfl) T.int bt_int (pa_cons (pe_and (pe_cmpR op_eq (pe_callB call_len_seq (by rfl) T.len bt_len (pa_cons (pv 5) pa_nil)) pe_int (nomark _)) (pe_one (pe_cmpR op_notIn_seq pe_non (pv 6) rfl))) pa_nil)))))))))))) ?_
    match i, hi, k with
    | 1, _, k =>
      have k : TgR (rdForm x) H Q := k
      rw [rdForm_l] at k
      refine ⟨_, rfl, rfl, _, rfl, iteP rfl ?_⟩
      refine ⟨_, rfl, Nat.le_of_ble_eq_true rfl, fun lt nlt => ?_⟩
      have t1 := same_new (o := .tup [V.str "0", .str "1"]) nlt
      have hlt : upd H lt (.tup [V.str "0", .str "1"]) lt = _ := upd_same
      generalize upd H lt (.tup [V.str "0", .str "1"]) = G1 at t1 hlt ⊢
      refine ⟨lt, _, rfl, .inr (SqT.of hlt), rfl, rfl, _, rfl, ?_⟩
      have one : ∀ (n : Int) (y : Str), x = y → valV (mergeK [] [(Sum.inr "0", V.int 0), (Sum.inr "1", V.int 1)]) (Sum.inr y) = some (.int n) → (∀ (l : Addr) (v : V) (H' : Hp), Same H H' → H l = none → H' l = some (.lst [v]) → HD H' v (.int n) → Q (.ref l) H') → tLst (tCons (tDGet (tDisp [(tC (.str "0"), tC (.int 0)), (tC (.str "1"), tC (.int 1))]) (tVar 1)) tNil) [some (.int ((1 : Nat) : Int)), some (.str x), none, none, none, none, none] G1 Q := fun n y e hv k => by
        subst e
        refine fun p np => ?_
        refine ⟨upd_same, [(Sum.inr "0", V.int 0), (Sum.inr "1", V.int 1)], rfl, Nat.le_of_ble_eq_true rfl, ?_⟩
        have t2 := same_put (o := .dK (mergeK [] [(Sum.inr "0", V.int 0), (Sum.inr "1", V.int 1)])) (same_new (o := .dK []) np) np
        have hp : upd (upd G1 p (.dK [])) p (.dK (mergeK [] [(Sum.inr "0", V.int 0), (Sum.inr "1", V.int 1)])) p = _ := upd_same
        generalize upd (upd G1 p (.dK [])) p (.dK (mergeK [] [(Sum.inr "0", V.int 0), (Sum.inr "1", V.int 1)])) = G2 at t2 hp ⊢
        refine ⟨_, rfl, p, .int n, rfl, (by have := DGet.k (k := Sum.inr x) hp; rw [hv] at this; exact this), Nat.le_of_ble_eq_true rfl, fun l nl => ?_⟩
        exact k l _ _ ((t1.trans t2).trans (same_new nl)) ((t1.trans t2).free nl) upd_same (.int n)
      by_cases c : x = "0"
      · rw [if_pos c] at k
        refine iteP (by rw [c]; decide +kernel) (one 0 "0" c rfl k)
      by_cases d : x = "1"
      · rw [if_neg c, if_pos d] at k
        refine iteP (by rw [d]; decide +kernel) (one 1 "1" d rfl k)
      · rw [if_neg c, if_neg d] at k
        refine iteN ?_ ?_
        · show ¬ ((("0" : Str) == x) || ((("1" : Str) == x) || false)) = true
          rw [beq_false_of_ne (fun z => c z.symm), beq_false_of_ne (fun z => d z.symm)]
          decide
        · exact ⟨Nat.le_of_ble_eq_true rfl, fun l nl => k l _ (t1.trans (same_new nl)) (t1.free nl) upd_same⟩
    | 0, _, k =>
      have k : TgR (rdLead x) H Q := k
      refine ⟨_, rfl, rfl, _, rfl, iteN (by decide) ?_⟩
      refine ⟨_, rfl, _, _, rfl, rfl, _, rfl, iteP rfl ⟨_, rfl, rfl, _, rfl, ?_⟩⟩
      by_cases c : x = "-"
      · rw [c] at k
        have k : TgR (some .non) H Q := k
        refine iteP (decide_eq_true (by rw [c])) ?_
        refine ⟨Nat.le_of_ble_eq_true rfl, fun lt nlt => ⟨Nat.le_of_ble_eq_true rfl, fun l nl => ?_⟩⟩
        have t1 := (same_new (o := .tup []) nlt).trans (same_new (o := .lst [V.non, .non, .ref lt]) nl)
        refine ⟨_, rfl, l, _, _, .non, rfl, rfl, SqL.of upd_same, rfl, Nat.le_of_ble_eq_true rfl, fun l2 nl2 => ?_⟩
        exact k l2 _ _ (t1.trans (same_new nl2)) (t1.free nl2) upd_same .non
      rw [rdLead_l c] at k
      refine iteN (fun z => c (V.str.inj (of_decide_eq_true z))) ?_
      refine ⟨_, rfl, rfl, _, rfl, iteP rfl ?_⟩
      refine ⟨_, rfl, _, _, rfl, rfl, cp9, x, _, rfl, hx, fun G1 t1 => ?_⟩
      rw [show (10 : Int) ^ (9 : Int).toNat = 1000000000 by decide]
      refine ⟨_, rfl, Nat.le_of_ble_eq_true rfl, fun l nl => ?_⟩
      have t2 := t1.trans (same_new (o := .lst [ov (numL 1000000000 x)]) nl)
      refine ⟨_, rfl, rfl, .inr ⟨_, rfl, rep_go t2 upd_same (fun _ => ov_hd _) (fun z => ?_) (fun z => ?_) k⟩⟩
      · cases hn : numL 1000000000 x with
        | none => rw [hn] at z; cases z
        | some n => rfl
      · cases hn : numL 1000000000 x with
        | none => rfl
        | some n => rw [hn, show (!decide (ov (some n) = V.non)) = true by rw [decide_eq_false (fun y => by cases y)]; rfl] at z; cases z
    | 2, _, k =>
      have k : TgR (rdBoxes x) H Q := k
      refine ⟨_, rfl, rfl, _, rfl, iteN (by decide) ?_⟩
      refine ⟨_, rfl, _, _, rfl, rfl, _, rfl, iteP rfl ⟨_, rfl, rfl, _, rfl, ?_⟩⟩
      by_cases c : x = "-"
      · rw [c] at k
        have k : TgR (some (.tup [])) H Q := k
        refine iteP (decide_eq_true (by rw [c])) ?_
        refine ⟨Nat.le_of_ble_eq_true rfl, fun lt nlt => ⟨Nat.le_of_ble_eq_true rfl, fun l nl => ?_⟩⟩
        have t1 := (same_new (o := .tup []) nlt).trans (same_new (o := .lst [V.non, .non, .ref lt]) nl)
        have hlt := same_new (o := .lst [V.non, .non, .ref lt]) nl _ _ (upd_same (H := H) (a := lt) (o := .tup []))
        refine ⟨_, rfl, l, _, _, .ref lt, rfl, rfl, SqL.of upd_same, rfl, Nat.le_of_ble_eq_true rfl, fun l2 nl2 => ?_⟩
        exact k l2 _ _ (t1.trans (same_new nl2)) (t1.free nl2) upd_same (.tupS (same_new nl2 _ _ hlt) .nil)
      rw [rdBoxes_l c hx.1] at k
      refine iteN (fun z => c (V.str.inj (of_decide_eq_true z))) ?_
      refine ⟨_, rfl, rfl, _, rfl, iteN (by decide) ?_⟩
      refine ⟨_, rfl, rfl, _, rfl, iteP rfl ?_⟩
      refine ⟨_, rfl, x, rfl, hx.1, fun D nD => comp_str (x := x) (fun i σ ys H2 => ∃ v : Option V, σ = [v] ∧ ys = ((x.cps.toList.take i).map plc).map V.int ∧ Same H H2 ∧ H2 D = some (.lst ys)) ?_ ?_ ?_⟩
      · exact ⟨none, rfl, rfl, same_new nD, upd_same⟩
      · rintro i v σ ys H2 hv ⟨v0, rfl, rfl, s2, hD⟩
        unfold chV at hv
        obtain ⟨c, hc, rfl⟩ := Option.map_eq_some_iff.mp hv
        have hi : i < x.cps.size := (Array.getElem?_eq_some_iff.mp hc).1
        have hc' : x.cps.toList[i]? = some c := by rw [Array.getElem?_toList]; exact hc
        have h128 : c < 128 := by
          have := (Array.all_eq_true.mp hx.1) i hi
          rw [(Array.getElem?_eq_some_iff.mp hc).2] at this
          exact of_decide_eq_true this
        refine ⟨rfl, _, rfl, _, _, rfl, rfl, hD, ?_, _, rfl, ?_, same_put s2 nD, upd_same⟩
        · rw [List.length_map, List.length_map, List.length_take, Array.length_toList]
          have hz : x.cps.size ≤ 3000 := hx.2
          exact small_lt (by omega)
        · rw [find_plc c h128, List.take_add_one, hc', List.map_append, List.map_append]
          rfl
      rintro σ ys G1 ⟨v0, rfl, rfl, t1, hD⟩
      have et : x.cps.toList.take x.cps.size = x.cps.toList := List.take_of_length_le (by simp)
      rw [et] at hD
      have hpl : (x.cps.toList.map plc).length = x.length := by rw [List.length_map, Array.length_toList]; rfl
      generalize x.cps.toList.map plc = ps at hD k hpl
      refine ⟨_, rfl, D, _, rfl, .inl (SqL.of hD), _, _, rfl, ⟨by decide, by decide, ?_, ?_⟩, fun D2 nD2 => ?_⟩
      · show -(2 ^ 62) ≤ (((ps.map V.int).length : Nat) : Int); omega
      · show (((ps.map V.int).length : Nat) : Int) < 2 ^ 62; rw [List.length_map]; omega
      rw [List.length_map]
      refine comp_range (lo := 1) (n := ((ps.length : Int) - 1).toNat) (fun i σ ys G => ∃ (v : Option V) (es : List Int), σ = [v, some (.ref D)] ∧ ys = es.map V.int ∧ es.length ≤ i ∧ (es = [] ↔ ∀ (k : Nat) a b, k < i → ps[k]? = some a → ps[k + 1]? = some b → a < b) ∧ Same G1 G ∧ G D2 = some (.lst ys)) ?_ ?_ ?_
      · exact ⟨none, [], rfl, rfl, Nat.le_refl _, ⟨fun _ k a b hk => absurd hk (Nat.not_lt_zero _), fun _ => rfl⟩, same_new nD2, upd_same⟩
      · rintro i σ ys G hi ⟨v, es, rfl, rfl, hel, hee, s2, hD2⟩
        have hi1 : i + 1 < ps.length := by omega
        have ha : ps[i]? = some ps[i] := List.getElem?_eq_getElem (by omega)
        have hb : ps[i + 1]? = some ps[i + 1] := List.getElem?_eq_getElem hi1
        generalize ps[i] = pa at ha
        generalize ps[i + 1] = pb at hb
        refine ⟨_, rfl, _, rfl, D, _, _, .int pb, rfl, rfl, SqL.of (s2 _ _ hD), ?_, _, rfl, _, rfl, _, _, rfl, rfl, D, _, _, .int pa, rfl, rfl, SqL.of (s2 _ _ hD), ?_, _, _, rfl, rfl, _, rfl, ?_⟩
        · rw [show (1 : Int) + (i : Int) = ((i + 1 : Nat) : Int) by omega]
          exact atI_nat (by rw [List.getElem?_map, hb]; rfl)
        · rw [show (1 : Int) + (i : Int) - 1 = (i : Int) by omega]
          exact atI_nat (by rw [List.getElem?_map, ha]; rfl)
        by_cases cc : pb ≤ pa
        · refine iteP (decide_eq_true cc) ?_
          refine ⟨_, rfl, hD2, small_lt (by rw [List.length_map]; omega), _, es ++ [1 + (i : Int)], rfl, by rw [List.map_append]; rfl, by rw [List.length_append]; exact Nat.succ_le_succ hel, ⟨fun z => by simp at z, fun z => by have := z i pa pb (Nat.lt_succ_self i) ha hb; omega⟩, same_put s2 nD2, upd_same⟩
        · refine iteN (fun z => cc (of_decide_eq_true z)) ?_
          refine ⟨_, es, rfl, rfl, by omega, ⟨fun z k a b hk h1 h2 => ?_, fun z => hee.mpr fun k a b hk h1 h2 => z k a b (by omega) h1 h2⟩, s2, hD2⟩
          rcases Nat.lt_or_ge k i with h | h
          · exact hee.mp z k a b h h1 h2
          · have : k = i := by omega
            subst this
            rw [ha] at h1
            rw [hb] at h2
            cases h1
            cases h2
            omega
      rintro σ ys G2 ⟨v, es, rfl, rfl, hel, hee, t2, hD2⟩
      have hrise : es = [] ↔ Rise ps := by
        rw [rise_iff, hee]
        constructor
        · intro z k a b h1 h2
          have := (List.getElem?_eq_some_iff.mp h2).1
          exact z k a b (by omega) h1 h2
        · intro z k a b _ h1 h2
          exact z k a b h1 h2
      refine ⟨Nat.le_of_ble_eq_true rfl, fun l3 nl3 => ?_⟩
      have t3 := same_new (o := .lst []) nl3
      have hl3 : upd G2 l3 (.lst []) l3 = _ := upd_same
      have hD3 := t3 _ _ (t2 _ _ hD)
      have hD23 := t3 _ _ hD2
      have s3 := (t1.trans t2).trans t3
      generalize upd G2 l3 (.lst []) = G3 at hl3 hD3 hD23 s3 ⊢
      refine ⟨1, D2, l3, .lst (es.map Da.int), .lst [], rfl, rfl, (HD.lstS hD23 (ints_hd es)).da K, (HD.lstS hl3 .nil).da K, .lst (fun d hd => by
        obtain ⟨n, _, rfl⟩ := List.mem_map.mp hd
        exact .int), .lst (fun d hd => by cases hd), by decide, ?_⟩
      have eb : (false ^^ decide (Da.lst (es.map Da.int) = Da.lst [])) = decide (Rise ps) := by
        rw [Bool.false_xor]
        exact decide_eq_decide.mpr ⟨fun z => hrise.mp (List.map_eq_nil_iff.mp (Da.lst.inj z)), fun z => by rw [hrise.mpr z]; rfl⟩
      rw [eb]
      refine ⟨_, rfl, D, _, rfl, .inl ⟨SqL.of hD3, fun tt ntt => ?_⟩⟩
      have t4 := same_new (o := .tup (ps.map V.int)) ntt
      have htt : upd G3 tt (.tup (ps.map V.int)) tt = _ := upd_same
      have hD4 := t4 _ _ hD3
      have s4 := s3.trans t4
      generalize upd G3 tt (.tup (ps.map V.int)) = G4 at htt hD4 s4 ⊢
      refine ⟨Nat.le_of_ble_eq_true rfl, fun l5 nl5 => ?_⟩
      have t5 := same_new (o := .lst [V.ref tt]) nl5
      have hl5 : upd G4 l5 (.lst [V.ref tt]) l5 = _ := upd_same
      have htt5 := t5 _ _ htt
      have hD5 := t5 _ _ hD4
      have s5 := s4.trans t5
      generalize upd G4 l5 (.lst [V.ref tt]) = G5 at hl5 htt5 hD5 s5 ⊢
      have fin : ∀ c : Bool, (c = true ↔ x ≠ "" ∧ (-1 : Int) ∉ ps ∧ Rise ps) → rRep (.ref l5) (.int (if c = true then 1 else 0)) G5 Q := fun c hc =>
        rep_go (d := tupI ps) s5 hl5 (fun _ => .tupS htt5 (ints_hd ps)) (fun z => if_pos (hc.mp z)) (fun z => if_neg fun y => by rw [hc.mpr y] at z; cases z) k
      by_cases c1 : x = ""
      · exact ⟨_, rfl, rfl, _, rfl, iteN (by rw [c1]; decide) (.inr ⟨_, rfl, fin false ⟨(fun z => by cases z), fun z => absurd c1 z.1⟩⟩)⟩
      refine ⟨_, rfl, rfl, _, rfl, iteP (by rw [decide_eq_false (fun z => c1 (V.str.inj z))]; rfl) ?_⟩
      refine ⟨_, rfl, _, rfl, D, _, rfl, .inl (SqL.of hD5), rfl, flat_ints ps, _, rfl, ?_⟩
      have ei : (if true = true then !inV (.int (-1)) (ps.map V.int) else inV (.int (-1)) (ps.map V.int)) = !decide ((-1 : Int) ∈ ps) := by rw [if_pos rfl, in_ints]
      by_cases c2 : (-1 : Int) ∈ ps
      · exact iteN (by rw [ei, decide_eq_true c2]; decide) (.inr ⟨_, rfl, fin false ⟨(fun z => by cases z), fun z => absurd c2 z.2.1⟩⟩)
      · refine iteP (by rw [ei, decide_eq_false c2]; rfl) ⟨_, rfl, .inr ⟨_, rfl, fin (decide (Rise ps)) ⟨fun z => ⟨c1, c2, of_decide_eq_true z⟩, fun z => decide_eq_true z.2.2⟩⟩⟩
    | 3, _, k =>
      have k : TgR (rdCount x) H Q := k
      rw [rdCount_l] at k
      refine ⟨_, rfl, rfl, _, rfl, iteN (by decide) ?_⟩
      refine ⟨_, rfl, _, _, rfl, rfl, _, rfl, iteN (by decide) (iteN (by decide) ?_)⟩
      refine ⟨_, rfl, rfl, _, rfl, iteN (by decide) ?_⟩
      refine ⟨_, rfl, rfl, _, rfl, iteN (by decide) ?_⟩
      have hasc : ∀ p ∈ Txt.split x ":", Asc p := fun p hp => ⟨split_asc (c := 58) hx.1 hp, Nat.le_trans (split_mem (c := 58) hp).2 hx.2⟩
      have hcnt : (Txt.split x ":").length ≤ 3001 := Nat.le_trans (split_cnt (c := 58) x) (Nat.succ_le_succ hx.2)
      refine ⟨_, rfl, rfl, x, ":", rfl, rfl, by decide, Nat.lt_of_le_of_lt hx.2 (by decide), fun lw nw => ?_⟩
      generalize Txt.split x ":" = ws at nw hasc hcnt k ⊢
      have s1 := same_new (o := .lst (ws.map V.str)) nw
      have h1 : upd H lw (.lst (ws.map V.str)) lw = _ := upd_same
      generalize upd H lw (.lst (ws.map V.str)) = G1 at s1 h1 ⊢
      refine ⟨_, rfl, lw, rfl, ⟨_, SqL.of h1⟩, fun D nD => comp_list (K := K) (a := lw) (xs := ws.map V.str) (fun i σ ys G => ∃ v : Option V, σ = [v] ∧ ys = ((ws.take i).map (numL 1000000)).map ov ∧ Same G1 G ∧ G D = some (.lst ys)) ?_ ?_ ?_ ?_⟩
      · exact ⟨none, rfl, rfl, same_new nD, upd_same⟩
      · rintro i σ ys G _ ⟨v, rfl, _, s2, _⟩
        exact SqL.of (s2 _ _ h1)
      · rintro i y σ ys G hy ⟨v, rfl, rfl, s2, hD⟩
        rw [List.getElem?_map] at hy
        obtain ⟨wd, hwd, rfl⟩ := Option.map_eq_some_iff.mp hy
        have hi := (List.getElem?_eq_some_iff.mp hwd).1
        refine ⟨_, rfl, _, _, rfl, rfl, cp6, wd, _, rfl, hasc wd (List.mem_of_getElem? hwd), fun G2 t2 => ?_⟩
        rw [show (10 : Int) ^ (6 : Int).toNat = 1000000 by decide]
        refine ⟨t2 _ _ hD, small_lt (by rw [List.length_map, List.length_map, List.length_take]; omega), _, rfl, ?_, same_put (s2.trans t2) nD, upd_same⟩
        rw [List.take_add_one, hwd, List.map_append, List.map_append]
        rfl
      rintro σ ys G2 ⟨v, rfl, rfl, t2, hD⟩
      rw [List.length_map, List.take_length] at hD
      have hnl : (ws.map (numL 1000000)).length = ws.length := List.length_map _
      generalize ws.map (numL 1000000) = os at hD k hnl
      have h1 := t2 _ _ h1
      have s2 := s1.trans t2
      refine ⟨_, rfl, D, _, rfl, .inl ⟨SqL.of hD, fun tt ntt => ?_⟩⟩
      have t4 := same_new (o := .tup (os.map ov)) ntt
      have htt : upd G2 tt (.tup (os.map ov)) tt = _ := upd_same
      have hD4 := t4 _ _ hD
      have h14 := t4 _ _ h1
      have s4 := s2.trans t4
      generalize upd G2 tt (.tup (os.map ov)) = G4 at htt hD4 h14 s4 ⊢
      refine ⟨Nat.le_of_ble_eq_true rfl, fun l5 nl5 => ?_⟩
      have t5 := same_new (o := .lst [V.ref tt]) nl5
      have hl5 : upd G4 l5 (.lst [V.ref tt]) l5 = _ := upd_same
      have htt5 := t5 _ _ htt
      have hD5 := t5 _ _ hD4
      have h15 := t5 _ _ h14
      have s5 := s4.trans t5
      generalize upd G4 l5 (.lst [V.ref tt]) = G5 at hl5 htt5 hD5 h15 s5 ⊢
      have fin : ∀ c : Bool, (c = true ↔ ws.length = 2 ∧ none ∉ os) → rRep (.ref l5) (.int (if c = true then 1 else 0)) G5 Q := fun c hc =>
        rep_go (d := .tup (os.map oD)) s5 hl5 (fun _ => .tupS htt5 (ovs_hd os)) (fun z => if_pos (hc.mp z)) (fun z => if_neg fun y => by rw [hc.mpr y] at z; cases z) k
      refine ⟨_, rfl, lw, _, rfl, .inl (SqL.of h15), rfl, _, rfl, ?_⟩
      by_cases c1 : ws.length = 2
      · refine iteP (decide_eq_true (by rw [List.length_map, c1]; rfl)) ?_
        refine ⟨_, rfl, D, _, rfl, .inl (SqL.of hD5), rfl, flat_ovs os, .inr ⟨_, rfl, fin _ ?_⟩⟩
        rw [if_pos rfl, in_ovs]
        constructor
        · intro z
          exact ⟨c1, fun y => by rw [decide_eq_true y] at z; cases z⟩
        · intro z
          rw [decide_eq_false z.2]
          rfl
      · refine iteN (fun z => c1 ?_) (.inr ⟨_, rfl, fin false ⟨(fun z => by cases z), fun z => absurd z.1 c1⟩⟩)
        have := V.int.inj (of_decide_eq_true z)
        rw [List.length_map] at this
        exact Int.ofNat.inj this
end
end My


set_option Elab.async false
set_option linter.all false
set_option maxRecDepth 100000
set_option maxHeartbeats 4000000
namespace My
open PySem L2
def dL : Option Da → List Da
  | none => []
  | some d => [d]
theorem rdAll_f {rd : Str → Option Da} : ∀ {ws : List Str}, (∀ w ∈ ws, rd w ≠ none) → rdAll rd ws = some (ws.filterMap rd)
  | [], _ => rfl
  | w :: ws, h => by
    unfold rdAll
    cases hw : rd w with
    | none => exact absurd hw (h w (by simp))
    | some d => rw [rdAll_f fun y hy => h y (List.mem_cons_of_mem _ hy), List.filterMap_cons, hw]; rfl
theorem rdAll_n {rd : Str → Option Da} : ∀ {ws : List Str} {w : Str}, w ∈ ws → rd w = none → rdAll rd ws = none
  | [], _, h, _ => by cases h
  | v :: ws, w, h, hn => by
    unfold rdAll
    rcases List.mem_cons.mp h with rfl | h
    · rw [hn]
    · rw [rdAll_n h hn]
      cases rd v <;> rfl
theorem nb_mono {d : Da} {n m : Nat} (h : d.Nb n) (hm : n ≤ m) : d.Nb m := by
  induction h generalizing m with
  | non => exact .non
  | int => exact .int
  | str => exact .str
  | tup h ih =>
    obtain ⟨m', rfl⟩ : ∃ m', m = m' + 1 := ⟨m - 1, by omega⟩
    exact .tup fun d hd => ih d hd (by omega)
  | lst h ih =>
    obtain ⟨m', rfl⟩ : ∃ m', m = m' + 1 := ⟨m - 1, by omega⟩
    exact .lst fun d hd => ih d hd (by omega)
theorem num_nb {kd x : Str} {d : Da} (h : rdNum kd x = some d) : d.Nb 1 := by
  unfold rdNum at h
  obtain ⟨n, _, rfl⟩ := Option.map_eq_some_iff.mp h
  exact .int
theorem ints_nb (ns : List Int) : (Da.tup (ns.map Da.int)).Nb 1 := .tup fun d hd => by
  obtain ⟨n, _, rfl⟩ := List.mem_map.mp hd
  exact .int
theorem rdK_nb {i : Nat} {x : Str} {d : Da} (h : rdK i x = some d) : d.Nb 1 := by
  match i, h with
  | 0, h =>
    have h : rdLead x = some d := h
    unfold rdLead at h
    split at h
    · cases h; exact .non
    · exact num_nb h
  | 1, h => exact num_nb h
  | 2, h =>
    have h : rdBoxes x = some d := h
    unfold rdBoxes at h
    split at h
    · cases h; exact ints_nb []
    · split at h
      · cases h
      · split at h
        · cases h; exact ints_nb _
        · cases h
  | n + 3, h =>
    have h : rdCount x = some d := h
    unfold rdCount at h
    split at h
    · split at h
      · cases h
      · split at h
        · cases h
        · cases h; exact ints_nb [_, _]
    · cases h
def DuR (r : Except Nat (List Da)) (H : Hp) (Q : VK) : Prop := match r with
  | .ok ds => ∀ p vs H', Same H H' → H p = none → H' p = some (.dK (kvF 0 vs)) → HDs H' vs ds → Q (.ref p) H'
  | .error e => ∀ H', Same H H' → Q (.int (e : Int)) H'
section
variable {P : Program} {w : World} {K : PySem.W.Frag} {mg : Str → Option Value} {base : Heap}
def spDu : Sp := fun vs H Q _ => ∃ x : Str, vs = [.str x] ∧ Asc x ∧ DuR (rdPaper x) H Q
theorem scDu : FnScope ["_law_text_here", "_law_rows", "_law_paper_here", "_law_at", "_law_key", "_law_words", "_law_things"] ["_law_text_here"] (defScope s_law_due) := ⟨rfl, rfl, rfl, by decide +kernel, rfl, by decide +kernel, by decide +kernel⟩
def csDuC1 : Scope := { kind := .function, names := [(".0", .local), ("_law_word", .local), ("_law_thing", .globalImplicit), ("_law_at", .free)], isGenerator := false, isCoroutine := false, more := [] }
theorem scDuC1 : CompSc (defScope s_law_due) csDuC1 ["_law_text_here", "_law_rows", "_law_paper_here", "_law_at", "_law_key", "_law_words", "_law_things"] ["_law_word", "_law_at"] [none, some 3] := ⟨rfl, by decide +kernel, by decide +kernel, by decide +kernel, by decide +kernel, by decide +kernel⟩
def csDuC2 : Scope := { kind := .function, names := [(".0", .local), ("_law_thing_here", .local)], isGenerator := false, isCoroutine := false, more := [] }
theorem scDuC2 : CompSc (defScope s_law_due) csDuC2 ["_law_text_here", "_law_rows", "_law_paper_here", "_law_at", "_law_key", "_law_words", "_law_things"] ["_law_thing_here"] [none] := ⟨rfl, by decide +kernel, by decide +kernel, by decide +kernel, by decide +kernel, by decide +kernel⟩
theorem ok_law_due {f fT_ : Addr} {fd fdT_ : FuncData} (F : Fun K "_law_due" "_law_due" s_law_due f fd) (T : Txt K w.params mg) (GT_ : FnOk P w K mg base CX0 2 fT_ fdT_ ["_law_row", "_law_word"] spTg) (kT_ : PySem.W.keepIn K (.ref fT_) = true) (bT_ : Binds K fdT_ ["_law_row", "_law_word"] []) (mT_ : mg "_law_thing" = some (.ref fT_)) : FnOk P w K mg base CX0 3 f fd ["_law_text_here"] spDu := by
  refine F.ok scDu (fun vs H Q E h => ?_) (fun cdv A outer s H vs Q E hr h => ?_)
  · obtain ⟨x, rfl, _⟩ := h
    rfl
  · obtain ⟨x, rfl, hx, k⟩ := h
    have hu1 : (A.deeper (PyProof.Rows.envOfC "_law_due" (defScope s_law_due) s.heap.objs.size f cdv)).units + 1 < cLine := Nat.lt_of_le_of_lt (Nat.add_le_add_left (by decide : 1 ≤ 64) _) hr.units
    have hu6 : (A.deeper (PyProof.Rows.envOfC "_law_due" (defScope s_law_due) s.heap.objs.size f cdv)).units + 6 < cLine := Nat.lt_of_le_of_lt (Nat.add_le_add_left (by decide : 6 ≤ 64) _) hr.units
    refine wrapX (pssx_cons (psx_of (ps_set (i := 1) scDu.nd rfl (Or.inl rfl) (pe_bm PySem.F.plainAttrs_str PySem.F.slot_str_split PySem.F.type_str_split mt_split (pv 0) (pa_cons pe_str pa_nil))))
      (pssx_cons (psx_of (ps_set (i := 2) scDu.nd rfl (Or.inl rfl) pe_dnewK))
      (pssx_cons (psx_of (ps_for PassesOwn.never rfl (pi_enum rfl T.enum (pa_cons (pe_lst (pa_cons pe_str (pa_cons pe_str (pa_cons pe_str (pa_cons pe_str pa_nil))))) pa_nil)) (pg_two (K := K) (i := 3) (j := 4) rfl rfl scDu.nd rfl (Or.inr rfl) rfl (Or.inl rfl)) (pss_cons (ps_if (pt_cmpR op_eq (pv 3) (pe_callB call_len_seq (by rfl) T.len bt_len (pa_cons (pv 1) pa_nil)) (nomark _)) (pss_one (ps_ret (pv 3))) pss_nil)
      (pss_cons (ps_set (i := 5) scDu.nd rfl (Or.inl rfl) (pe_bm PySem.F.plainAttrs_str PySem.F.slot_str_split PySem.F.type_str_split mt_split (pe_ix ix_list (pv 1) (pv 3) (fun _ _ => rfl)) (pa_cons pe_str pa_nil)))
      (pss_cons (ps_comp (i := 6) (N' := ["_law_word", "_law_at"]) (fr := [none, some 3]) scDu.nd rfl rfl scDuC1 rfl (pi_list (pe_slice sl_list (pv 5) (po_some pe_int) po_none)) (fun C s0 H0 fp => (pg_name (i := 0) scDuC1.nd rfl (Or.inl rfl))) (fun C s0 H0 fp => pts_nil) (fun C s0 H0 fp => (pe_call GT_ hr (by rfl) mT_ kT_ bT_ .nil pass0 (pa_cons (pv 1) (pa_cons (pv 0) pa_nil)))))
      (pss_cons (ps_if (pw_or (pt_cmpR op_ne (pe_ix ix_list (pv 5) pe_int (fun _ _ => rfl)) (pv 4) (nomark _)) (pw_or1 (pt_cmpR (op_inA hu6) (pe_lst pa_nil) (pv 6) rfl))).pt (pss_one (ps_ret (pv 3))) pss_nil)
      (pss_one (ps_dput hu1 (pv 2) (pv 4) (pe_comp (N' := ["_law_thing_here"]) (fr := [none]) scDuC2 rfl (pi_list (pv 6)) (fun C s0 H0 fp => (pg_name (i := 0) scDuC2.nd rfl (Or.inl rfl))) (fun C s0 H0 fp => pts_nil) (fun C s0 H0 fp => (pe_ix (r := rIxL K) ix_list (pv 0) pe_int (fun _ _ => rfl)))) rfl))))))))
      (pssx_one (psx_of (ps_ret (pe_ix ix_list (pe_lst (pa_cons pe_int (pa_cons (pv 2) pa_nil))) (pe_callTy call_int1 (by rfl) T.int bt_int (pa_cons (pe_cmpR op_eq (pe_callB call_len_seq (by rfl) T.len bt_len (pa_cons (pv 1) pa_nil)) pe_int (nomark _)) pa_nil)) (fun _ _ => rfl)))))))) ?_
    have hasc : ∀ p ∈ Txt.split x "\n", Asc p := fun p hp => ⟨split_asc (c := 10) hx.1 hp, Nat.le_trans (split_mem (c := 10) hp).2 hx.2⟩
    have hcnt : (Txt.split x "\n").length ≤ 3001 := Nat.le_trans (split_cnt (c := 10) x) (Nat.succ_le_succ hx.2)
    refine ⟨_, rfl, rfl, x, "\n", rfl, rfl, by decide, Nat.lt_of_le_of_lt hx.2 (by decide), fun lw nw => ?_⟩
    unfold rdPaper at k
    generalize Txt.split x "\n" = ws at nw hasc hcnt k ⊢
    have s1 := same_new (o := .lst (ws.map V.str)) nw
    have h1 : upd H lw (.lst (ws.map V.str)) lw = _ := upd_same
    generalize upd H lw (.lst (ws.map V.str)) = H1 at s1 h1 ⊢
    refine fun p np => ?_
    have npH : H p = none := s1.free np
    have s2 := s1.trans (same_new (o := .dK []) np)
    have h2 := same_new (o := .dK []) np _ _ h1
    have hp2 : upd H1 p (.dK []) p = _ := upd_same
    generalize upd H1 p (.dK []) = H2 at s2 h2 hp2 ⊢
    refine ⟨Nat.le_of_ble_eq_true rfl, fun lc nlc => ?_⟩
    have t3 := same_new (o := .lst [V.str "leads", .str "forms", .str "free", .str "counts"]) nlc
    have s3 := s2.trans t3
    have hlc : upd H2 lc (.lst [V.str "leads", .str "forms", .str "free", .str "counts"]) lc = _ := upd_same
    have h3 := t3 _ _ h2
    have hp3 := t3 _ _ hp2
    have hne : lc ≠ p := fun z => by rw [z, hp2] at nlc; cases nlc
    have hne2 : lw ≠ p := fun z => by rw [z, hp2] at h2; cases h2
    generalize upd H2 lc (.lst [V.str "leads", .str "forms", .str "free", .str "counts"]) = H3 at s3 hlc h3 hp3 ⊢
    refine ⟨lc, rfl, ⟨_, SqL.of hlc⟩, for_enum (K := K) (xs := [V.str "leads", .str "forms", .str "free", .str "counts"]) (fun i σ G => ∃ (v3 v4 v5 v6 : Option V) (vs : List V) (ds : List Da), σ = [some (.str x), some (.ref lw), some (.ref p), v3, v4, v5, v6] ∧ Same H G ∧ G lc = some (.lst [V.str "leads", .str "forms", .str "free", .str "counts"]) ∧ G lw = some (.lst (ws.map V.str)) ∧ G p = some (.dK (kvF 0 vs)) ∧ HDs G vs ds ∧ ds.length = i ∧ i ≤ ws.length ∧ i ≤ 4 ∧ rdLs 0 (ws.take 4) = appE ds (rdLs i ((ws.take 4).drop i))) ?_ ?_ ?_ ?_⟩
    · refine ⟨none, none, none, none, [], [], rfl, s3, hlc, h3, hp3, .nil, rfl, Nat.zero_le _, Nat.zero_le _, ?_⟩
      rw [List.drop_zero]
      cases rdLs 0 (ws.take 4) <;> rfl
    · rintro i σ G _ ⟨v3, v4, v5, v6, vs, ds, rfl, _, hG, _⟩
      exact SqL.of hG
    · rintro i y σ G tt hy ntt ⟨v3, v4, v5, v6, vs, ds, rfl, s4, hG, hGw, hGp, hvs, hil, hiw, _, hrd⟩
      have hi4 : i < 4 := (List.getElem?_eq_some_iff.mp hy).1
      have hyn : y = .str (nameK i) := by
        match i, hi4, hy with
        | 0, _, hy => cases hy; rfl
        | 1, _, hy => cases hy; rfl
        | 2, _, hy => cases hy; rfl
        | 3, _, hy => cases hy; rfl
      subst hyn
      have t5 := same_new (o := .tup [V.int i, V.str (nameK i)]) ntt
      have htt : upd G tt (.tup [V.int i, V.str (nameK i)]) tt = _ := upd_same
      generalize upd G tt (.tup [V.int i, V.str (nameK i)]) = G5 at t5 htt ⊢
      refine ⟨tt, _, rfl, SqT.of htt, rfl, _, _, rfl, _, _, rfl, rfl, ?_⟩
      have s5 := s4.trans t5
      have hG5 := t5 _ _ hG
      have hGw5 := t5 _ _ hGw
      have hGp5 := t5 _ _ hGp
      have hvs5 := hvs.same t5
      clear s4 hG hGw hGp hvs htt
      refine ⟨_, rfl, _, rfl, lw, _, rfl, .inl (SqL.of hGw5), rfl, _, rfl, ?_⟩
      by_cases c : i = ws.length
      · refine iteP (decide_eq_true (by rw [List.length_map, c])) ⟨_, rfl, ?_⟩
        rw [List.drop_of_length_le (by rw [List.length_take]; omega)] at hrd
        have hrd : rdLs 0 (ws.take 4) = .ok (ds ++ []) := hrd
        rw [hrd] at k
        have k : DuR (if ws.length = 4 then .ok (ds ++ []) else .error (min ws.length 4)) H Q := k
        rw [if_neg (by omega)] at k
        have k := k _ s5
        rw [show min ws.length 4 = i by omega] at k
        exact k
      refine iteN (fun z => c ?_) ?_
      · have := V.int.inj (of_decide_eq_true z)
        rw [List.length_map] at this
        exact Int.ofNat.inj this
      have hiw : i < ws.length := by omega
      have hwi : ws[i]? = some ws[i] := List.getElem?_eq_getElem hiw
      have hwm : ws[i] ∈ ws := List.getElem_mem _
      generalize ws[i] = wd at hwi hwm
      have hti : (ws.take 4)[i]? = some wd := by rw [List.getElem?_take, if_pos hi4]; exact hwi
      have htl : i < (ws.take 4).length := (List.getElem?_eq_some_iff.mp hti).1
      have hdr : (ws.take 4).drop i = wd :: (ws.take 4).drop (i + 1) := by
        rw [List.drop_eq_getElem_cons htl, (List.getElem?_eq_some_iff.mp hti).2]
      rw [hdr] at hrd
      have hrd : rdLs 0 (ws.take 4) = appE ds (match rdLine i wd with | none => .error i | some d => match rdLs (i + 1) ((ws.take 4).drop (i + 1)) with | .error e => .error e | .ok ds => .ok (d :: ds)) := hrd
      have bad : rdLine i wd = none → ∀ G, Same H G → Q (.int (i : Int)) G := fun e G sG => by
        rw [e] at hrd
        have hrd : rdLs 0 (ws.take 4) = .error i := hrd
        rw [hrd] at k
        exact k G sG
      have hxw := hasc wd hwm
      have hasc2 : ∀ p ∈ Txt.split wd " ", Asc p := fun p hp => ⟨split_asc (c := 32) hxw.1 hp, Nat.le_trans (split_mem (c := 32) hp).2 hxw.2⟩
      have hcnt2 : (Txt.split wd " ").length ≤ 3001 := Nat.le_trans (split_cnt (c := 32) wd) (Nat.succ_le_succ hxw.2)
      have hne3 := split_ne wd " "
      refine ⟨_, rfl, _, rfl, lw, _, _, .str wd, rfl, rfl, SqL.of hGw5, atI_nat (by rw [List.getElem?_map, hwi]; rfl), rfl, wd, " ", rfl, rfl, by decide, Nat.lt_of_le_of_lt hxw.2 (by decide), fun l6 n6 => ?_⟩
      unfold rdLine at hrd bad
      generalize Txt.split wd " " = us at n6 hasc2 hcnt2 hrd bad hne3 ⊢
      have t6 := same_new (o := .lst (us.map V.str)) n6
      have h6 : upd G5 l6 (.lst (us.map V.str)) l6 = _ := upd_same
      have s6 := s5.trans t6
      have hG6 := t6 _ _ hG5
      have hGw6 := t6 _ _ hGw5
      have hGp6 := t6 _ _ hGp5
      have hvs6 := hvs5.same t6
      generalize upd G5 l6 (.lst (us.map V.str)) = G6 at s6 h6 hG6 hGw6 hGp6 hvs6 ⊢
      clear s5 hG5 hGw5 hGp5 hvs5 t5 t6
      cases us with
      | nil => exact absurd rfl hne3
      | cons u us =>
      have bad : (if u = nameK i then (rdAll (rdK i) us).map Da.lst else none) = none → ∀ G, Same H G → Q (.int (i : Int)) G := bad
      have hrd : rdLs 0 (ws.take 4) = appE ds (match (if u = nameK i then (rdAll (rdK i) us).map Da.lst else none) with | none => .error i | some d => match rdLs (i + 1) ((ws.take 4).drop (i + 1)) with | .error e => .error e | .ok ds => .ok (d :: ds)) := hrd
      refine ⟨_, rfl, _, rfl, l6, _, rfl, SqL.of h6, fun l7 n7 => ?_⟩
      rw [show cutV ((u :: us).map V.str) (some 1) none = us.map V.str from cut1 _ _]
      have t7 := same_new (o := .lst (us.map V.str)) n7
      have h7 : upd G6 l7 (.lst (us.map V.str)) l7 = _ := upd_same
      have s7 := s6.trans t7
      have hG7 := t7 _ _ hG6
      have hGw7 := t7 _ _ hGw6
      have hGp7 := t7 _ _ hGp6
      have hvs7 := hvs6.same t7
      have h67 := t7 _ _ h6
      generalize upd G6 l7 (.lst (us.map V.str)) = G7 at s7 h7 hG7 hGw7 hGp7 hvs7 h67 ⊢
      clear s6 hG6 hGw6 hGp6 hvs6 t7
      have hul : us.length ≤ 3000 := by rw [List.length_cons] at hcnt2; omega
      refine ⟨l7, rfl, ⟨_, SqL.of h7⟩, fun D nD => comp_list (K := K) (a := l7) (xs := us.map V.str) (fun j σ ys G => ∃ (v : Option V), σ = [v, some (.int (i : Int))] ∧ ys.length = j ∧ Same G7 G ∧ G D = some (.lst ys) ∧ ∀ (k : Nat) y w, ys[k]? = some y → us[k]? = some w → ∃ l t, y = .ref l ∧ l ≠ D ∧ G l = some (.lst t) ∧ HDs G t (dL (rdK i w))) ?_ ?_ ?_ ?_⟩
      · exact ⟨none, rfl, rfl, same_new nD, upd_same, fun k y w h => by simp at h⟩
      · rintro j σ ys G _ ⟨v, rfl, _, sG, _⟩
        exact SqL.of (sG _ _ h7)
      · rintro j y σ ys G hy ⟨v, rfl, hyl, sG, hD, hall⟩
        rw [List.getElem?_map] at hy
        obtain ⟨w, hw, rfl⟩ := Option.map_eq_some_iff.mp hy
        have hj := (List.getElem?_eq_some_iff.mp hw).1
        refine ⟨_, rfl, _, rfl, i, w, rfl, hi4, hasc2 w (List.mem_cons_of_mem _ (List.mem_of_getElem? hw)), ?_⟩
        have done : ∀ (l : Addr) (t : List V) (G' : Hp), Same G G' → G l = none → G' l = some (.lst t) → HDs G' t (dL (rdK i w)) → G' D = some (.lst ys) ∧ ys.length < sizeLine ∧ ∃ (v : Option V), [some (V.str w), some (V.int (i : Int))] = [v, some (.int (i : Int))] ∧ (ys ++ [V.ref l]).length = j + 1 ∧ Same G7 (upd G' D (.lst (ys ++ [V.ref l]))) ∧ upd G' D (.lst (ys ++ [V.ref l])) D = some (.lst (ys ++ [V.ref l])) ∧ ∀ (k : Nat) y w, (ys ++ [V.ref l])[k]? = some y → us[k]? = some w → ∃ l' t, y = .ref l' ∧ l' ≠ D ∧ upd G' D (.lst (ys ++ [V.ref l])) l' = some (.lst t) ∧ HDs (upd G' D (.lst (ys ++ [V.ref l]))) t (dL (rdK i w)) := fun l t G' sG' nl hl ht => by
          have hD' := sG' _ _ hD
          have nld : ∀ w : Str, ∀ d ∈ dL (rdK i w), Nl d := fun w d hd => by
            cases hr' : rdK i w with
            | none => rw [hr'] at hd; cases hd
            | some d' =>
              rw [hr'] at hd
              rw [List.mem_singleton.mp hd]
              exact rdK_nl hr'
          refine ⟨hD', small_lt (by omega), _, rfl, by rw [List.length_append, hyl]; rfl, same_put (sG.trans sG') nD, upd_same, fun k y w' h1 h2 => ?_⟩
          rcases Nat.lt_or_ge k j with ck | ck
          · rw [List.getElem?_append_left (by omega)] at h1
            obtain ⟨l', t', e1, e2, e3, e4⟩ := hall k y w' h1 h2
            exact ⟨l', t', e1, e2, (upd_ne e2).trans (sG' _ _ e3), HDs.putN (e4.same sG') hD' (nld w')⟩
          · rw [List.getElem?_append_right (by omega)] at h1
            have ek : k = j := by
              have := (List.getElem?_eq_some_iff.mp h1).1
              rw [List.length_singleton] at this
              omega
            subst ek
            rw [hyl, Nat.sub_self] at h1
            cases h1
            rw [hw] at h2
            cases h2
            have nlD : l ≠ D := fun z => by rw [z, hD] at nl; cases nl
            exact ⟨l, t, rfl, nlD, (upd_ne nlD).trans hl, HDs.putN ht hD' (nld w)⟩
        cases hr' : rdK i w with
        | none =>
          intro l G' sG' nl hl
          exact done l [] G' sG' nl hl (by rw [hr']; exact .nil)
        | some d =>
          intro l v' G' sG' nl hl hv'
          exact done l [v'] G' sG' nl hl (by rw [hr']; exact .cons hv' .nil)
      rintro σ ys G8 ⟨v, rfl, hyl, t8, hD, hall⟩
      rw [List.length_map] at hyl
      have s8 := s7.trans t8
      have hG8 := t8 _ _ hG7
      have hGw8 := t8 _ _ hGw7
      have hGp8 := t8 _ _ hGp7
      have hvs8 := hvs7.same t8
      have h68 := t8 _ _ h67
      clear s7 hG7 hGw7 hGp7 hvs7 h67 t8 h7
      refine ⟨_, rfl, l6, _, 0, _, rfl, rfl, SqL.of h68, at0 _ _, _, rfl, rfl, _, rfl, ?_⟩
      by_cases cu : u = nameK i
      rotate_left
      · refine iteP (by rw [decide_eq_false (fun z => cu (V.str.inj z))]; rfl) (iteP rfl ⟨_, rfl, bad (if_neg cu) _ s8⟩)
      refine iteN (by rw [decide_eq_true (by rw [cu])]; decide) ?_
      rw [if_pos cu] at bad hrd
      have hyw : ∀ (k : Nat) y, ys[k]? = some y → ∃ w, us[k]? = some w := fun k y h => by
        have := (List.getElem?_eq_some_iff.mp h).1
        exact ⟨_, List.getElem?_eq_getElem (by omega)⟩
      have hys : HDs G8 ys (us.map fun w => .lst (dL (rdK i w))) := HDs.of (by rw [List.length_map]; exact hyl) fun k y d h1 h2 => by
        rw [List.getElem?_map] at h2
        obtain ⟨w, hw, rfl⟩ := Option.map_eq_some_iff.mp h2
        obtain ⟨l, t, rfl, _, e3, e4⟩ := hall k y w h1 hw
        exact .lstS e3 e4
      refine ⟨Nat.le_of_ble_eq_true rfl, fun l9 n9 => ?_⟩
      have t9 := same_new (o := .lst []) n9
      have h9 : upd G8 l9 (.lst []) l9 = _ := upd_same
      have s9 := s8.trans t9
      have hG9 := t9 _ _ hG8
      have hGw9 := t9 _ _ hGw8
      have hGp9 := t9 _ _ hGp8
      have hvs9 := hvs8.same t9
      have hD9 := t9 _ _ hD
      have hys9 := hys.same t9
      have hall9 : ∀ (k : Nat) y w, ys[k]? = some y → us[k]? = some w → ∃ l t, y = .ref l ∧ upd G8 l9 (.lst []) l = some (.lst t) ∧ HDs (upd G8 l9 (.lst [])) t (dL (rdK i w)) := fun k y w h1 h2 => by
        obtain ⟨l, t, rfl, _, e3, e4⟩ := hall k y w h1 h2
        exact ⟨l, t, rfl, t9 _ _ e3, e4.same t9⟩
      clear s8 hG8 hGw8 hGp8 hvs8 hD hys hall h68 t9
      generalize upd G8 l9 (.lst []) = G9 at s9 h9 hG9 hGw9 hGp9 hvs9 hD9 hys9 hall9 ⊢
      refine ⟨_, rfl, l9, D, ys, .lst [], _, 3, rfl, rfl, hD9, .lstS h9 .nil, hys9, fun y hy => ?_, .lst (fun d hd => by cases hd), fun e he => ?_, by decide, _, rfl, ?_⟩
      · obtain ⟨k, hk, e⟩ := List.getElem_of_mem hy
        have hyk : ys[k]? = some y := by rw [List.getElem?_eq_getElem hk, e]
        obtain ⟨w, hw⟩ := hyw k y hyk
        obtain ⟨l, t, rfl, _⟩ := hall9 k y w hyk hw
        exact ⟨l, rfl⟩
      · obtain ⟨w, _, rfl⟩ := List.mem_map.mp he
        refine .lst fun d hd => ?_
        cases hr' : rdK i w with
        | none => rw [hr'] at hd; cases hd
        | some d' =>
          rw [hr'] at hd
          rw [List.mem_singleton.mp hd]
          exact nb_mono (rdK_nb hr') (by decide)
      by_cases cn : ∃ w ∈ us, rdK i w = none
      · obtain ⟨w, hwm, hwn⟩ := cn
        refine iteP (decide_eq_true ?_) ⟨_, rfl, bad (by rw [rdAll_n hwm hwn]; rfl) _ s9⟩
        refine List.mem_map.mpr ⟨w, hwm, ?_⟩
        rw [hwn]
        rfl
      refine iteN (fun z => cn ?_) ?_
      · obtain ⟨w, hwm, e⟩ := List.mem_map.mp (of_decide_eq_true z)
        refine ⟨w, hwm, ?_⟩
        cases hr' : rdK i w with
        | none => rfl
        | some d => rw [hr'] at e; cases (Da.lst.inj e)
      have hsome : ∀ w ∈ us, rdK i w ≠ none := fun w hw e => cn ⟨w, hw, e⟩
      rw [rdAll_f hsome] at hrd
      -- the things themselves
      refine ⟨_, rfl, D, rfl, ⟨_, SqL.of hD9⟩, fun D2 nD2 => comp_list (K := K) (a := D) (xs := ys) (fun j σ zs G => ∃ (v : Option V), σ = [v] ∧ HDs G zs ((us.take j).filterMap (rdK i)) ∧ zs.length = j ∧ Same G9 G ∧ G D2 = some (.lst zs)) ?_ ?_ ?_ ?_⟩
      · exact ⟨none, rfl, .nil, rfl, same_new nD2, upd_same⟩
      · rintro j σ zs G _ ⟨v, rfl, _, _, sG, _⟩
        exact SqL.of (sG _ _ hD9)
      · rintro j y σ zs G hy ⟨v, rfl, hzs, hzl, sG, hD2⟩
        obtain ⟨w, hw⟩ := hyw j y hy
        have hjl := (List.getElem?_eq_some_iff.mp hy).1
        obtain ⟨l, t, rfl, e3, e4⟩ := hall9 j y w hy hw
        cases hr' : rdK i w with
        | none => exact absurd hr' (hsome w (List.mem_of_getElem? hw))
        | some d =>
          rw [hr'] at e4
          obtain ⟨v', t', rfl, hv', ht'⟩ := HDs.cons_inv (show HDs G9 t (d :: []) from e4)
          cases ht'.nil_inv
          refine ⟨_, rfl, l, _, 0, v', rfl, rfl, SqL.of (sG _ _ e3), at0 _ _, hD2, small_lt (by omega), _, rfl, ?_, by rw [List.length_append, hzl]; rfl, same_put sG nD2, upd_same⟩
          have ee : (us.take (j + 1)).filterMap (rdK i) = (us.take j).filterMap (rdK i) ++ [d] := by
            rw [List.take_add_one, hw, List.filterMap_append]
            show _ ++ List.filterMap (rdK i) [w] = _
            rw [List.filterMap_cons, hr']
            rfl
          rw [ee]
          refine HDs.putN (hzs.app (.cons (hv'.same sG) .nil)) hD2 fun e he => ?_
          rcases List.mem_append.mp he with z | z
          · obtain ⟨w', _, e'⟩ := List.mem_filterMap.mp z
            exact rdK_nl e'
          · rw [List.mem_singleton.mp z]; exact rdK_nl hr'
      rintro σ zs G10 ⟨v, rfl, hzs, hzl, t10, hD2⟩
      rw [hyl, List.take_length] at hzs
      have hGp10 := t10 _ _ hGp9
      have hvl : vs.length = i := by rw [hvs9.len, hil]
      refine ⟨_, rfl, _, rfl, p, _, rfl, DPut.k (k := Sum.inr (nameK i)) hGp10 (small_lt (by rw [kvF_len]; omega)), ?_⟩
      rw [← hvl, kvF_put vs (.ref D2) (by omega), hvl]
      have hDp : D2 ≠ p := fun z => by rw [z, hGp10] at hD2; cases hD2
      refine ⟨_, _, _, _, vs ++ [.ref D2], ds ++ [.lst (us.filterMap (rdK i))], rfl, same_put (s9.trans t10) npH, (upd_ne hne).trans (t10 _ _ hG9), (upd_ne hne2).trans (t10 _ _ hGw9), upd_same, HDs.putD ((hvs9.same t10).app (.cons (.lstS hD2 hzs) .nil)) hGp10, by rw [List.length_append, hil]; rfl, by omega, by omega, ?_⟩
      rw [hrd]
      show appE ds (match rdLs (i + 1) ((ws.take 4).drop (i + 1)) with | .error e => .error e | .ok l => .ok (Da.lst (us.filterMap (rdK i)) :: l)) = _
      cases rdLs (i + 1) ((ws.take 4).drop (i + 1)) with
      | error e => rfl
      | ok l => show Except.ok (ds ++ (_ :: l)) = Except.ok (ds ++ [_] ++ l); rw [List.append_assoc]; rfl
    · rintro σ G ⟨v3, v4, v5, v6, vs, ds, rfl, s4, hG, hGw, hGp, hvs, hil, hiw, _, hrd⟩
      have hiw : 4 ≤ ws.length := hiw
      have hrd : rdLs 0 (ws.take 4) = appE ds (rdLs 4 ((ws.take 4).drop 4)) := hrd
      rw [List.drop_of_length_le (by rw [List.length_take]; omega)] at hrd
      have hrd : rdLs 0 (ws.take 4) = .ok (ds ++ []) := hrd
      rw [List.append_nil] at hrd
      rw [hrd] at k
      have k : DuR (if ws.length = 4 then .ok ds else .error (min ws.length 4)) H Q := k
      refine ⟨_, rfl, Nat.le_of_ble_eq_true rfl, fun l5 n5 => ?_⟩
      have t5 := same_new (o := .lst [V.int 4, .ref p]) n5
      have h5 : upd G l5 (.lst [V.int 4, .ref p]) l5 = _ := upd_same
      refine ⟨_, rfl, lw, _, rfl, .inl (SqL.of (t5 _ _ hGw)), rfl, .inr ⟨_, rfl, ?_⟩⟩
      by_cases c : ws.length = 4
      · rw [if_pos c] at k
        refine ⟨l5, _, _, .ref p, rfl, rfl, SqL.of h5, ?_, k p vs _ (s4.trans t5) npH (t5 _ _ hGp) (hvs.same t5)⟩
        rw [decide_eq_true (by rw [List.length_map, c]; rfl)]
        rfl
      · rw [if_neg c] at k
        have k := k _ (s4.trans t5)
        rw [show min ws.length 4 = 4 by omega] at k
        refine ⟨l5, _, _, .int 4, rfl, rfl, SqL.of h5, ?_, k⟩
        rw [decide_eq_false (fun z => c (by have := V.int.inj z; rw [List.length_map] at this; exact Int.ofNat.inj this))]
        rfl
end
end My


set_option Elab.async false
set_option linter.all false
set_option maxRecDepth 100000
set_option maxHeartbeats 4000000
namespace My
open PySem L2
def rIsi (K : PySem.W.Frag) : List V → Hp → VK → Prop := fun xs H Q => ∃ (x : V) (n : String) (t : Value) (b : Bool), xs = [x, .ty n] ∧ TyOf K H x t ∧ PySem.W.kitOne K t (.type n) = some b ∧ Q (.bl b) H
/-- what the top tells of the classes of exceptions -/
structure Ys (K : PySem.W.Frag) (mg : Str → Option Value) (cNoText cRowError cNoLine cNoPaper cNoRows fI : Addr) : Prop where
  mNoText : mg "NoText" = some (.ref cNoText)
  mRowError : mg "RowError" = some (.ref cRowError)
  mNoLine : mg "NoLine" = some (.ref cNoLine)
  mNoPaper : mg "NoPaper" = some (.ref cNoPaper)
  mNoRows : mg "NoRows" = some (.ref cNoRows)
  mValueError : mg "ValueError" = none
  cx : XIni K cNoText cRowError fI
  kC : PySem.W.keepIn K (.ref cNoText) = true
  exm : PySem.W.exmOne K (.ref cNoText) (.ref cRowError) = some true
  oth : PySem.W.kitAny K (.ref cNoText) [.ref cNoLine, .ref cNoPaper, .ref cNoRows] = some false
  own : PySem.W.kitOne K (.ref cNoText) (.ref cNoText) = some true
  val : PySem.W.kitOne K (.ref cNoText) (.type "ValueError") = some true
theorem bt_ve : bootBuiltins "ValueError" = some (.type "ValueError") := by decide +kernel
section
variable {P : Program} {w : World} {K : PySem.W.Frag} {mg : Str → Option Value} {base : Heap}
variable {cNoText cRowError cNoLine cNoPaper cNoRows fI : Addr}
def spTo : Sp := fun vs H Q _ => ∃ v : V, vs = [v] ∧ ((∃ t, TyOf K H v t ∧ PySem.W.kitOne K t (.type "str") = some false ∧ ∀ H', Same H H' → Q (.int 0) H') ∨ ∃ x : Str, v = .str x ∧ Asc x ∧ DuR (rdPaper x) H Q)
theorem rp_go {cNT : Addr} {v : V} {H : Hp} {Q Q' : VK} {E' : XK} (err : ∀ n : Nat, (∀ H', Same H H' → Q (.int (n : Int)) H') → ErrT cNT n H E') (ok : ∀ (p : Addr) (H' : Hp), Q (.ref p) H' → Q' (.ref p) H') (h : (∃ t, TyOf K H v t ∧ PySem.W.kitOne K t (.type "str") = some false ∧ ∀ H', Same H H' → Q (.int 0) H') ∨ ∃ x : Str, v = .str x ∧ Asc x ∧ DuR (rdPaper x) H Q) : spRp (K := K) cNT [v] H Q' E' := by
  rcases h with ⟨t, ht, hk, k⟩ | ⟨x, rfl, hx, k⟩
  · exact ⟨v, rfl, .inl ⟨t, ht, hk, err 0 k⟩⟩
  · refine ⟨.str x, rfl, .inr ⟨x, rfl, hx, ?_⟩⟩
    cases hr' : rdPaper x with
    | error e =>
      rw [hr'] at k
      exact err e k
    | ok ds =>
      rw [hr'] at k
      exact fun p vs H' s1 np hp hvs _ _ => ok p H' (k p vs H' s1 np hp hvs)
theorem scTo : FnScope ["_law_thing_here", "e", "_law_others"] ["_law_thing_here"] (defScope s_law_told) := ⟨rfl, rfl, rfl, by decide +kernel, rfl, by decide +kernel, by decide +kernel⟩
theorem ok_law_told {f fF : Addr} {fd fdF : FuncData} (F : Fun K "_law_told" "_law_told" s_law_told f fd) (T : Txt K w.params mg) (GF : FnOk P w K mg base (CX2 P w) 6 fF fdF ["text"] (spRp (K := K) cNoText)) (kF : PySem.W.keepIn K (.ref fF) = true) (bF : Binds K fdF ["text"] []) (mF : mg "read_paper" = some (.ref fF)) (Y : Ys K mg cNoText cRowError cNoLine cNoPaper cNoRows fI) : FnOk P w K mg base CX0 7 f fd ["_law_thing_here"] (spTo (K := K)) := by
  refine F.ok scTo (fun vs H Q E h => ?_) (fun cdv A outer s H vs Q E hr h => ?_)
  · obtain ⟨v, rfl, _⟩ := h
    rfl
  · obtain ⟨v, rfl, h⟩ := h
    refine ⟨_, (pss_cons (ps_tryG (i := 1) (n := "e") (psr_ret (per_call (pa_cons (pv 0) pa_nil) (by rfl) mF kF)) GF hr bF .nil rfl rfl rfl rfl (by rfl) Y.mRowError scTo.nd rfl rfl (fun ea => (pss_cons (ps_set (i := 2) scTo.nd rfl (Or.inl rfl) (pe_callB (r := rIsDT K cNoText) (call_isdT Y.cx.rd PySem.F.attr_ValueError) (by rfl) T.isi bt_isi (pa_cons (pv 1) (pa_cons (pe_tup (pa_cons (pe_glob (v := .ref cNoLine) (by rfl) Y.mNoLine rfl) (pa_cons (pe_glob (v := .ref cNoPaper) (by rfl) Y.mNoPaper rfl) (pa_cons (pe_glob (v := .ref cNoRows) (by rfl) Y.mNoRows rfl) pa_nil)))) pa_nil))))
      (pss_one (ps_if (pw_and (pt_val (pe_callB (r := rIsD K cNoText) (call_isd Y.cx.rd PySem.F.attr_ValueError) (by rfl) T.isi bt_isi (pa_cons (pv 1) (pa_cons (pe_glob (v := .ref cNoText) (by rfl) Y.mNoText rfl) pa_nil)))) (pw_and (pt_val (pe_callB (r := rIsD K cNoText) (call_isd Y.cx.rd PySem.F.attr_ValueError) (by rfl) T.isi bt_isi (pa_cons (pv 1) (pa_cons (pe_bltn (v := .ty "ValueError") (by rfl) Y.mValueError bt_ve rfl) pa_nil)))) (pw_and (pt_not (pt_val (pv 2))) (pw_and1 (pt_not (pt_val (pe_callB (r := rIsi K) call_isinst (by rfl) T.isi bt_isi (pa_cons (pe_xat Y.cx (pv 1)) (pa_cons (pe_bltn (v := .ty "bool") (by rfl) T.bool bt_bool rfl) pa_nil))))))))).pt (pss_one (ps_ret (pe_xat Y.cx (pv 1)))) pss_nil)))))
      (pss_one (ps_ret pe_non))), ?_⟩
    refine ⟨_, rfl, rp_go (fun n k H7 d7 s7 hd => ?_) (fun p H' k => k) h⟩
    refine ⟨Y.exm, fun ea hea => ?_⟩
    have s8 := same_new (o := excD ea (.ref cNoText) (some d7)) hea
    have e8 : upd H7 ea (excD ea (.ref cNoText) (some d7)) ea = _ := upd_same
    have d8 := s8 _ _ hd
    generalize upd H7 ea (excD ea (.ref cNoText) (some d7)) = H8 at s8 e8 d8 ⊢
    refine ⟨_, rfl, Nat.le_of_ble_eq_true rfl, fun tp ntp => ?_⟩
    have s9 := same_new (o := .tup [V.ref cNoLine, V.ref cNoPaper, V.ref cNoRows]) ntp
    have t9 : upd H8 tp (.tup [V.ref cNoLine, V.ref cNoPaper, V.ref cNoRows]) tp = _ := upd_same
    have e9 := s9 _ _ e8
    have d9 := s9 _ _ d8
    generalize upd H8 tp (.tup [V.ref cNoLine, V.ref cNoPaper, V.ref cNoRows]) = H9 at s9 t9 e9 d9 ⊢
    refine ⟨ea, tp, _, _, false, rfl, e9, t9, fun cvs hv => ?_, ?_⟩
    · cases hv with | cons a1 hv => cases hv with | cons a2 hv => cases hv with | cons a3 hv =>
        cases hv
        cases a1
        cases a2
        cases a3
        exact Y.oth
    refine ⟨_, rfl, ea, _, .ref cNoText, true, rfl, e9, (fun cv hc => by cases hc; exact Y.own), _, rfl, iteP rfl ?_⟩
    refine ⟨_, rfl, ea, _, .ty "ValueError", true, rfl, e9, (fun cv hc => by cases hc; exact Y.val), _, rfl, iteP rfl ?_⟩
    refine ⟨_, rfl, _, rfl, iteP rfl ?_⟩
    refine ⟨_, rfl, ea, d7, (n : Int), rfl, e9, d9, _, _, _, _, rfl, .int _, k_int_bool, _, rfl, iteP rfl ?_⟩
    exact ⟨_, rfl, ea, d7, (n : Int), rfl, e9, d9, k _ (s7.trans (s8.trans s9))⟩
end
end My


set_option Elab.async false
set_option linter.all false
set_option maxRecDepth 100000
set_option maxHeartbeats 4000000
namespace My
open PySem L2
def jsz (ws : List Str) : Nat := (ws.map fun w => w.cps.size + 1).sum
theorem jsz_app (a b : List Str) : jsz (a ++ b) = jsz a + jsz b := by unfold jsz; rw [List.map_append, List.sum_append]
theorem jsz_cons (a : Str) (b : List Str) : jsz (a :: b) = a.cps.size + 1 + jsz b := rfl
theorem jsz_join {c : Nat} : ∀ ws : List Str, ws ≠ [] → (Str.join ⟨#[c]⟩ ws).cps.size + 1 = jsz ws
  | [], h => absurd rfl h
  | [x], _ => by show x.cps.size + 1 = x.cps.size + 1 + 0; omega
  | x :: y :: r, _ => by
    have e := congrArg List.length (join_list (c := c) x y r)
    rw [List.length_append, List.length_cons] at e
    simp only [Array.length_toList] at e
    have ih := jsz_join (c := c) (y :: r) (by simp)
    rw [jsz_cons]
    omega
theorem join_le {c : Nat} (ws : List Str) : (Txt.join ⟨#[c]⟩ ws).cps.size ≤ jsz ws := by
  rw [tjoin]
  cases ws with
  | nil => exact Nat.zero_le _
  | cons a r => have := jsz_join (c := c) (a :: r) (by simp); omega
theorem split_jsz {c : Nat} (x : Str) : jsz (Txt.split x ⟨#[c]⟩) = x.cps.size + 1 := by
  rw [← jsz_join (c := c) _ (split_ne x _), StrLaws.join_split]
def AL (x : Str) : Prop := x.cps.all (· < 128) = true
theorem al_iff {x : Str} : AL x ↔ ∀ d ∈ x.cps.toList, d < 128 := by
  unfold AL
  rw [Array.all_eq_true_iff_forall_mem]
  constructor
  · intro h d hd; exact of_decide_eq_true (h d (Array.mem_def.mpr hd))
  · intro h d hd; exact decide_eq_true (h d (Array.mem_def.mp hd))
theorem al_join {c : Nat} (hc : c < 128) {ws : List Str} (h : ∀ w ∈ ws, AL w) : AL (Txt.join ⟨#[c]⟩ ws) := by
  rw [tjoin, al_iff]
  intro d hd
  rcases join_signs hd with rfl | ⟨p, hp, hd⟩
  · exact hc
  · exact al_iff.mp (h p hp) d hd
theorem al_app {a b : Str} (ha : AL a) (hb : AL b) : AL (a ++ b) := by
  rw [al_iff] at ha hb ⊢
  intro d hd
  have hd : d ∈ (a.cps ++ b.cps).toList := hd
  rw [Array.toList_append] at hd
  rcases List.mem_append.mp hd with z | z
  · exact ha d z
  · exact hb d z
theorem sz_app (a b : Str) : (a ++ b).cps.size = a.cps.size + b.cps.size := by
  show (a.cps ++ b.cps).size = _
  rw [Array.size_append]
/-- rows of signs below 128, of at most R each, of M together -/
structure GB (R M L : Nat) (rs : List Str) : Prop where
  al : ∀ r ∈ rs, AL r ∧ r.cps.size ≤ R
  tot : jsz rs ≤ M
  len : rs.length ≤ L
theorem jsz_take (rs : List Str) (n : Nat) : jsz (rs.take n) + jsz (rs.drop n) = jsz rs := by rw [← jsz_app, List.take_append_drop]
theorem jsz_at {rs : List Str} {i : Nat} {r : Str} (h : rs[i]? = some r) : jsz (rs.take i) + (r.cps.size + 1) + jsz (rs.drop (i + 1)) = jsz rs := by
  have hi := (List.getElem?_eq_some_iff.mp h).1
  have e : rs.drop i = r :: rs.drop (i + 1) := by rw [List.drop_eq_getElem_cons hi, (List.getElem?_eq_some_iff.mp h).2]
  have := jsz_take rs i
  rw [e, jsz_cons] at this
  omega
theorem GB.mono {R M L R' M' L' : Nat} {rs : List Str} (h : GB R M L rs) (hR : R ≤ R') (hM : M ≤ M') (hL : L ≤ L') : GB R' M' L' rs := ⟨fun r hr => ⟨(h.al r hr).1, Nat.le_trans (h.al r hr).2 hR⟩, Nat.le_trans h.tot hM, Nat.le_trans h.len hL⟩
theorem GB.take {R M L : Nat} {rs : List Str} (h : GB R M L rs) (n : Nat) : GB R M L (rs.take n) := ⟨fun r hr => h.al r (List.mem_of_mem_take hr), by have := jsz_take rs n; have := h.tot; omega, by have := h.len; rw [List.length_take]; omega⟩
theorem cut_drop (xs : List V) (n : Nat) : cutV xs (some (n : Int)) none = xs.drop n := by
  unfold cutV
  have h1 : HT.sIx xs.length 0 (some (n : Int)) = min n xs.length := HT.sIx_nat ..
  have h2 : HT.sIx xs.length xs.length none = xs.length := rfl
  rw [h1, h2]
  rcases Nat.le_total n xs.length with h | h
  · rw [Nat.min_eq_left h]
    exact List.take_of_length_le (by rw [List.length_drop]; omega)
  · rw [Nat.min_eq_right h, List.drop_of_length_le h, List.drop_of_length_le (Nat.le_refl _), List.take_nil]
theorem set_jsz {rs : List Str} {i : Nat} {r s : Str} (h : rs[i]? = some r) : jsz (rs.set i s) + (r.cps.size + 1) = jsz rs + (s.cps.size + 1) := by
  have hi := (List.getElem?_eq_some_iff.mp h).1
  have e := jsz_at h
  have h2 : (rs.set i s)[i]? = some s := by rw [List.getElem?_set]; simp [hi]
  have e2 := jsz_at h2
  rw [List.take_set_of_le (Nat.le_refl _), List.drop_set_of_lt (by omega)] at e2
  omega
end My


set_option Elab.async false
set_option linter.all false
set_option maxRecDepth 100000
set_option maxHeartbeats 4000000
namespace My
open PySem L2
theorem pei_op {X : Cx} {op : Operator} {a b : Expr} {ta tb : TE} {r : R2} {pos : Pos} (ho : OpR X (binaryOp op) r) (ha : PE X a ta) (hb : PEi X b tb) : PEi X (.BinOp a op b pos) (tOp r ta tb) := by
  unfold PEi at hb ⊢
  exact pe_op ho ha hb
theorem ht_adds {σ : St} {H : Hp} {a b : TE} {i j : Str} (h : HT a σ H (.str i)) (k : HT b σ H (.str j)) (hz : i.length + j.length ≤ sizeLine) : HT (tOp (fun x y H Q => ∃ i j, x = .str i ∧ y = .str j ∧ i.length + j.length ≤ sizeLine ∧ Q (.str (i ++ j)) H) a b) σ H (.str (i ++ j)) := fun G Q s q =>
  h G _ s fun v G1 s1 hv => k G1 _ (s.trans s1) fun u G2 s2 hu => by
    cases hv
    cases hu
    exact ⟨i, j, rfl, rfl, hz, q _ _ (s1.trans s2) (.str _)⟩
theorem ha_strs {σ : St} {H : Hp} : ∀ ss : List Str, HA (tAll (ss.map fun s => tC (.str s))) σ H (ss.map Da.str)
  | [] => ha_nil
  | _ :: ss => ha_cons ht_str (ha_strs ss)
theorem strs_inv {H : Hp} : ∀ {ss : List Str} {xs : List V}, HDs H xs (ss.map Da.str) → xs = ss.map V.str
  | [], xs, h => h.nil_inv
  | s :: ss, xs, h => by
    obtain ⟨x, r, rfl, hx, hr⟩ := h.cons_inv
    cases hx
    rw [strs_inv hr]
    rfl
def odd1 : List Str := ["00", "-1", "-0", "07", "8", "10", "21", "33", "012", "1:", ":1", "1:2:3", "3:4", "1000000:0", "1000001:0"]
def odd2 : List Str := ["0:1000000", "0:1000001", "1000000000", "1000000001", "9999999999", "12345678901", "", "-", "--", "x"]
def odd3 : List Str := ["LEADS", "Free", "+1", "01234567", "0", "1", "2", "1:-2", "counts", "forms", "5 ", "1.0"]
theorem odd_al : ∀ x ∈ odd1 ++ odd2 ++ odd3, AL x ∧ x.cps.size ≤ 11 := by unfold AL; decide +kernel
theorem odd_len : (odd1 ++ odd2 ++ odd3).length = 37 := by decide +kernel
theorem modN (a : Int) {n : Nat} (h : 0 < n) : ∃ k : Nat, a % (n : Int) = (k : Int) ∧ k < n := by
  have h1 := Int.emod_nonneg a (show (n : Int) ≠ 0 by omega)
  have h2 := Int.emod_lt_of_pos a (show (0 : Int) < n by omega)
  obtain ⟨k, hk⟩ := Int.eq_ofNat_of_zero_le h1
  exact ⟨k, hk, by omega⟩
section
variable {P : Program} {w : World} {K : PySem.W.Frag} {mg : Str → Option Value} {base : Heap}
def spBw : Sp := fun vs H Q _ => ∃ (lr lx : Addr) (rs : List Str) (ms : List Int) (R M L : Nat), vs = [.ref lr, .ref lx] ∧ H lr = some (.lst (rs.map V.str)) ∧ H lx = some (.lst (ms.map V.int)) ∧ 4 ≤ ms.length ∧ rs ≠ [] ∧ GB R M L rs ∧ R ≤ 1000 ∧ L ≤ 100 ∧ ∀ (l : Addr) (rs' : List Str) (H' : Hp), Same H H' → H' l = some (.lst (rs'.map V.str)) → rs' ≠ [] → GB (2 * R + 20) (M + R + 20) (L + 1) rs' → Q (.ref l) H'
theorem scBw : FnScope ["_law_rows", "_law_xs", "_law_at", "_law_words", "_law_k", "_law_odd", "_law_one", "_law_here", "_law_more", "_law_bent_here"] ["_law_rows", "_law_xs"] (defScope s_law_by_word) := ⟨rfl, rfl, rfl, by decide +kernel, rfl, by decide +kernel, by decide +kernel⟩
theorem ok_law_by_word {f : Addr} {fd : FuncData} (F : Fun K "_law_by_word" "_law_by_word" s_law_by_word f fd) (T : Txt K w.params mg)  : FnOk P w K mg base CX0 1 f fd ["_law_rows", "_law_xs"] spBw := by
  refine F.ok scBw (fun vs H Q E h => ?_) (fun cdv A outer s H vs Q E hr h => ?_)
  · obtain ⟨lr, lx, rs, ms, R, M, L, rfl, _⟩ := h
    rfl
  · obtain ⟨lr, lx, rs, ms, R, M, L, rfl, hr0, hx0, h4, hne, hg, hR, hL, k⟩ := h
    refine wrapX (pssx_cons (psx_of (ps_set (i := 2) scBw.nd rfl (Or.inl rfl) (pe_op op_mod (pe_ix ix_list (pv 1) pe_int (fun _ _ => rfl)) (pe_callB call_len_seq (by rfl) T.len bt_len (pa_cons (pv 0) pa_nil)))))
      (pssx_cons (psx_of (ps_set (i := 3) scBw.nd rfl (Or.inl rfl) (pe_bm PySem.F.plainAttrs_str PySem.F.slot_str_split PySem.F.type_str_split mt_split (pe_ix ix_list (pv 0) (pv 2) (fun _ _ => rfl)) (pa_cons pe_str pa_nil))))
      (pssx_cons (psx_of (ps_set (i := 4) scBw.nd rfl (Or.inl rfl) (pe_op op_mod (pe_ix ix_list (pv 1) pe_int (fun _ _ => rfl)) (pe_callB call_len_seq (by rfl) T.len bt_len (pa_cons (pv 3) pa_nil)))))
      (pssx_cons (psx_of_i (psi_set (i := 5) scBw.nd rfl (Or.inl rfl) (pei_lst (.cons pe_str (.cons pe_str (.cons pe_str (.cons pe_str (.cons pe_str (.cons pe_str (.cons pe_str (.cons pe_str (.cons pe_str (.cons pe_str (.cons pe_str (.cons pe_str (.cons pe_str (.cons pe_str (.cons pe_str .nil))))))))))))))))))
      (pssx_cons (psx_of_i (psi_set (i := 5) scBw.nd rfl (Or.inl rfl) (pei_op op_cat (pv 5) (pei_lst (.cons pe_str (.cons pe_str (.cons pe_str (.cons pe_str (.cons pe_str (.cons pe_str (.cons pe_str (.cons pe_str (.cons pe_str (.cons pe_str .nil))))))))))))))
      (pssx_cons (psx_of_i (psi_set (i := 5) scBw.nd rfl (Or.inl rfl) (pei_op op_cat (pv 5) (pei_lst (.cons pe_str (.cons pe_str (.cons pe_str (.cons pe_str (.cons pe_str (.cons pe_str (.cons pe_str (.cons pe_str (.cons pe_str (.cons pe_str (.cons pe_str (.cons pe_str .nil))))))))))))))))
      (pssx_cons (psx_of (ps_set (i := 6) scBw.nd rfl (Or.inl rfl) (pe_ix ix_list (pv 5) (pe_op op_mod (pe_ix ix_list (pv 1) pe_int (fun _ _ => rfl)) (pe_callB call_len_seq (by rfl) T.len bt_len (pa_cons (pv 5) pa_nil))) (fun _ _ => rfl))))
      (pssx_cons (psx_of (ps_set (i := 7) scBw.nd rfl (Or.inl rfl) (pe_ix ix_list (pv 3) (pv 4) (fun _ _ => rfl))))
      (pssx_cons (psx_of (ps_set (i := 8) scBw.nd rfl (Or.inl rfl) (pe_ix ix_list (pe_lstS (.cons (pe_lst pa_nil) (.cons (pe_lst (pa_cons (pv 7) (pa_cons (pv 7) pa_nil))) (.cons (pe_lst (pa_cons (pv 6) (pa_cons (pv 7) pa_nil))) (.cons (pe_lst (pa_cons (pv 6) pa_nil)) (.cons (pe_lst (pa_cons (pv 7) (pa_cons (pv 6) pa_nil))) (.cons (pe_lst (pa_cons (pe_op op_add_str (pv 7) (pv 6)) pa_nil)) .nil))))))) (pe_op op_mod (pe_ix ix_list (pv 1) pe_int (fun _ _ => rfl)) pe_int) (fun _ _ => rfl))))
      (pssx_cons (psx_of (ps_set (i := 9) scBw.nd rfl (Or.inl rfl) (pe_op op_cat (pe_op op_cat (pe_slice sl_list (pv 3) po_none (po_some (pv 4))) (pv 8)) (pe_slice sl_list (pv 3) (po_some (pe_op op_add (pv 4) pe_int)) po_none))))
      (pssx_one (psx_of (ps_ret (pe_op op_cat (pe_op op_cat (pe_slice sl_list (pv 0) po_none (po_some (pv 2))) (pe_lst (pa_cons (pe_bm PySem.F.plainAttrs_str PySem.F.slot_str_join PySem.F.type_str_join mt_join pe_str (pa_cons (pv 9) pa_nil)) pa_nil))) (pe_slice sl_list (pv 0) (po_some (pe_op op_add (pv 2) pe_int)) po_none))))))))))))))) ?_
    have hrl : 0 < rs.length := List.length_pos_iff.mpr hne
    obtain ⟨x0, _, e0⟩ := at_ms (ms := ms) (j := 0) (by decide) (by omega)
    obtain ⟨x1, _, e1⟩ := at_ms (ms := ms) (j := 1) (by decide) (by omega)
    obtain ⟨x2, _, e2⟩ := at_ms (ms := ms) (j := 2) (by decide) (by omega)
    obtain ⟨x3, _, e3⟩ := at_ms (ms := ms) (j := 3) (by decide) (by omega)
    obtain ⟨i, hi, hil⟩ := modN x0 hrl
    refine ⟨_, rfl, lx, _, 0, _, rfl, rfl, SqL.of hx0, e0, _, rfl, lr, _, rfl, .inl (SqL.of hr0), _, _, rfl, rfl, (by show (0 : Int) < (((rs.map V.str).length : Nat) : Int); rw [List.length_map]; omega), ?_⟩
    show gName _ (.int (x0 % (((rs.map V.str).length : Nat) : Int))) _ _ _
    rw [List.length_map, hi]
    have hri : rs[i]? = some rs[i] := List.getElem?_eq_getElem hil
    have hrm : rs[i] ∈ rs := List.getElem_mem _
    generalize rs[i] = wd at hri hrm
    have hwa := hg.al wd hrm
    have hasc2 : ∀ p ∈ Txt.split wd " ", AL p ∧ p.cps.size ≤ R := fun p hp => ⟨split_asc (c := 32) hwa.1 hp, Nat.le_trans (split_mem (c := 32) hp).2 hwa.2⟩
    have hjs : jsz (Txt.split wd " ") = wd.cps.size + 1 := split_jsz (c := 32) wd
    have hcnt : (Txt.split wd " ").length ≤ 1001 := Nat.le_trans (split_cnt (c := 32) wd) (by have := hwa.2; omega)
    have hne3 := split_ne wd " "
    refine ⟨_, rfl, _, rfl, lr, _, _, .str wd, rfl, rfl, SqL.of hr0, atI_nat (by rw [List.getElem?_map, hri]; rfl), rfl, wd, " ", rfl, rfl, by decide, Nat.lt_of_le_of_lt hwa.2 (Nat.lt_of_le_of_lt hR (by decide)), fun lw nw => ?_⟩
    generalize Txt.split wd " " = ws at nw hasc2 hcnt hjs hne3 ⊢
    have t1 := same_new (o := .lst (ws.map V.str)) nw
    have hw1 : upd H lw (.lst (ws.map V.str)) lw = _ := upd_same
    generalize upd H lw (.lst (ws.map V.str)) = G1 at t1 hw1 ⊢
    have hwl : 0 < ws.length := List.length_pos_iff.mpr hne3
    obtain ⟨kk, hk, hkl⟩ := modN x1 hwl
    refine ⟨_, rfl, lx, _, 1, _, rfl, rfl, SqL.of (t1 _ _ hx0), e1, _, rfl, lw, _, rfl, .inl (SqL.of hw1), _, _, rfl, rfl, (by show (0 : Int) < (((ws.map V.str).length : Nat) : Int); rw [List.length_map]; omega), ?_⟩
    show gName _ (.int (x1 % (((ws.map V.str).length : Nat) : Int))) _ _ _
    rw [List.length_map, hk]
    have hwk : ws[kk]? = some ws[kk] := List.getElem?_eq_getElem hkl
    have hwm : ws[kk] ∈ ws := List.getElem_mem _
    generalize ws[kk] = here at hwk hwm
    have hha := hasc2 here hwm
    -- odd
    show gName _ _ _ _ _
    refine set_next (asg_next (lst_goN (ds := odd1.map Da.str) (ha_strs odd1) fun l2 xs2 G2 t2 _ h2 hxs2 => ?_))
    obtain rfl := strs_inv hxs2
    show gName _ _ _ _ _
    first | refine set_next (asg_next ?_) | refine set_next (asg_seq ?_)
    refine ⟨_, rfl, ?_⟩
    refine lst_goN (ds := odd2.map Da.str) (ha_strs odd2) fun l3 xs3 G3 t3 _ h3 hxs3 => ?_
    obtain rfl := strs_inv hxs3
    refine ⟨l2, l3, _, _, rfl, rfl, t3 _ _ h2, h3, small_len (by rw [List.length_map, List.length_map]; decide), fun l4 n4 => ?_⟩
    rw [← List.map_append]
    have t4 := same_new (o := .lst ((odd1 ++ odd2).map V.str)) n4
    have h4' : upd G3 l4 (.lst ((odd1 ++ odd2).map V.str)) l4 = _ := upd_same
    have T4 := ((t1.trans t2).trans t3).trans t4
    have hw4 := t4 _ _ (t3 _ _ (t2 _ _ hw1))
    generalize upd G3 l4 (.lst ((odd1 ++ odd2).map V.str)) = G4 at t4 h4' T4 hw4 ⊢
    clear t1 t2 t3 t4
    show gName _ _ _ _ _
    first | refine set_next (asg_next ?_) | refine set_next (asg_seq ?_)
    refine ⟨_, rfl, ?_⟩
    refine lst_goN (ds := odd3.map Da.str) (ha_strs odd3) fun l5 xs5 G5 t5 _ h5 hxs5 => ?_
    obtain rfl := strs_inv hxs5
    refine ⟨l4, l5, _, _, rfl, rfl, t5 _ _ h4', h5, small_len (by rw [List.length_map, List.length_map]; decide), fun l6 n6 => ?_⟩
    rw [← List.map_append]
    have t6 := same_new (o := .lst ((odd1 ++ odd2 ++ odd3).map V.str)) n6
    have h6 : upd G5 l6 (.lst ((odd1 ++ odd2 ++ odd3).map V.str)) l6 = _ := upd_same
    have T6 := (T4.trans t5).trans t6
    have hw6 := t6 _ _ (t5 _ _ hw4)
    generalize upd G5 l6 (.lst ((odd1 ++ odd2 ++ odd3).map V.str)) = G6 at t6 h6 T6 hw6 ⊢
    clear T4 t5 t6
    have hol := odd_len
    have hoa := odd_al
    generalize odd1 ++ odd2 ++ odd3 = od at h6 hol hoa
    obtain ⟨j, hj, hjl⟩ := modN x2 (n := od.length) (by omega)
    have hoj : od[j]? = some od[j] := List.getElem?_eq_getElem hjl
    have hom : od[j] ∈ od := List.getElem_mem _
    generalize od[j] = one at hoj hom
    have h1a := hoa one hom
    refine ⟨_, rfl, _, rfl, lx, _, 2, _, rfl, rfl, SqL.of (T6 _ _ hx0), e2, _, rfl, l6, _, rfl, .inl (SqL.of h6), _, _, rfl, rfl, (by show (0 : Int) < (((od.map V.str).length : Nat) : Int); rw [List.length_map]; omega), l6, _, _, .str one, rfl, rfl, SqL.of h6, ?_, ?_⟩
    · show atI _ (x2 % (((od.map V.str).length : Nat) : Int)) = _
      rw [List.length_map, hj]
      exact atI_nat (by rw [List.getElem?_map, hoj]; rfl)
    refine ⟨_, rfl, _, rfl, lw, _, _, .str here, rfl, rfl, SqL.of hw6, atI_nat (by rw [List.getElem?_map, hwk]; rfl), ?_⟩
    -- more
    have hho : here.length + one.length ≤ sizeLine := small_len (by have := hha.2; have := h1a.2; show here.cps.size + one.cps.size ≤ _; omega)
    show gName _ _ _ _ _
    first | refine set_next (asg_next ?_) | refine set_next (asg_seq ?_)
    refine HT.go (t := tLst _) (d := .lst [.lst [], .lst [.str here, .str here], .lst [.str one, .str here], .lst [.str one], .lst [.str here, .str one], .lst [.str (here ++ one)]]) ?_ fun v7 G7 t7 hv7 => ?_
    · exact ht_lst (ha_cons (ht_lst ha_nil) (ha_cons (ht_lst (ha_cons (ht_var rfl (.str _)) (ha_cons (ht_var rfl (.str _)) ha_nil))) (ha_cons (ht_lst (ha_cons (ht_var rfl (.str _)) (ha_cons (ht_var rfl (.str _)) ha_nil))) (ha_cons (ht_lst (ha_cons (ht_var rfl (.str _)) ha_nil)) (ha_cons (ht_lst (ha_cons (ht_var rfl (.str _)) (ha_cons (ht_var rfl (.str _)) ha_nil))) (ha_cons (ht_lst (ha_cons (ht_adds (ht_var rfl (.str _)) (ht_var rfl (.str _)) hho) ha_nil)) ha_nil))))))
    obtain ⟨l7, ys, rfl, h7, hys⟩ := hv7.lst_inv
    have hyl : ys.length = 6 := hys.len
    obtain ⟨c, hc, hcl⟩ := modN x3 (n := 6) (by decide)
    have hyc : ys[c]? = some (ys[c]'(by omega)) := List.getElem?_eq_getElem _
    generalize (ys[c]'(by omega)) = y at hyc
    have hmm : ∃ mm : List Str, HD G7 y (.lst (mm.map Da.str)) ∧ (∀ w ∈ mm, AL w ∧ w.cps.size ≤ R + 11) ∧ jsz mm ≤ here.cps.size + 1 + R + 12 ∧ mm.length ≤ 2 := by
      have hs := hha.2
      have os := h1a.2
      have hw1 : ∀ w, w = here ∨ w = one → AL w ∧ w.cps.size ≤ R + 11 := fun w hw => by
        rcases hw with rfl | rfl
        · exact ⟨hha.1, by omega⟩
        · exact ⟨h1a.1, by omega⟩
      match c, hcl, hyc with
      | 0, _, hyc => exact ⟨[], hys.get 0 _ _ hyc rfl, (fun w hw => by cases hw), (by show 0 ≤ _; omega), (by show 0 ≤ 2; decide)⟩
      | 1, _, hyc => exact ⟨[here, here], hys.get 1 _ _ hyc rfl, fun w hw => hw1 w (by simp at hw; exact .inl hw), by show here.cps.size + 1 + (here.cps.size + 1 + 0) ≤ _; omega, (by show 2 ≤ 2; decide)⟩
      | 2, _, hyc => exact ⟨[one, here], hys.get 2 _ _ hyc rfl, fun w hw => hw1 w (by simp at hw; exact hw.symm), by show one.cps.size + 1 + (here.cps.size + 1 + 0) ≤ _; omega, (by show 2 ≤ 2; decide)⟩
      | 3, _, hyc => exact ⟨[one], hys.get 3 _ _ hyc rfl, fun w hw => hw1 w (by simp at hw; exact .inr hw), by show one.cps.size + 1 + 0 ≤ _; omega, (by show 1 ≤ 2; decide)⟩
      | 4, _, hyc => exact ⟨[here, one], hys.get 4 _ _ hyc rfl, fun w hw => hw1 w (by simp at hw; exact hw), by show here.cps.size + 1 + (one.cps.size + 1 + 0) ≤ _; omega, (by show 2 ≤ 2; decide)⟩
      | 5, _, hyc =>
        refine ⟨[here ++ one], hys.get 5 _ _ hyc rfl, fun w hw => ?_, ?_, by show 1 ≤ 2; decide⟩
        · rw [List.mem_singleton.mp hw]
          exact ⟨al_app hha.1 h1a.1, by rw [sz_app]; omega⟩
        · show (here ++ one).cps.size + 1 + 0 ≤ _
          rw [sz_app]
          omega
    obtain ⟨mm, hmy, hma, hmj, hml⟩ := hmm
    obtain ⟨l8, zs, rfl, h8, hzs⟩ := hmy.lst_inv
    obtain rfl := strs_inv hzs
    have T7 := T6.trans t7
    refine ⟨_, rfl, lx, _, 3, _, rfl, rfl, SqL.of (T7 _ _ hx0), e3, _, _, rfl, rfl, (by show (0 : Int) < 6; decide), l7, _, _, .ref l8, rfl, rfl, SqL.of h7, ?_, ?_⟩
    · show atI _ (x3 % 6) = _
      rw [show x3 % 6 = (c : Int) from hc]
      exact atI_nat hyc
    have hw7 := t7 _ _ hw6
    clear T6 t7 hys hzs
    -- bent
    refine ⟨_, rfl, _, rfl, _, rfl, lw, _, rfl, SqL.of hw7, fun l9 n9 => ?_⟩
    rw [cut_take, ← List.map_take]
    have t9 := same_new (o := .lst ((ws.take kk).map V.str)) n9
    have h9 : upd G7 l9 (.lst ((ws.take kk).map V.str)) l9 = _ := upd_same
    have T9 := T7.trans t9
    have hw9 := t9 _ _ hw7
    have h89 := t9 _ _ h8
    generalize upd G7 l9 (.lst ((ws.take kk).map V.str)) = G9 at t9 h9 T9 hw9 h89 ⊢
    refine ⟨_, rfl, l9, l8, _, _, rfl, rfl, h9, h89, small_len (by rw [List.length_map, List.length_map, List.length_take]; omega), fun la na => ?_⟩
    rw [← List.map_append]
    have ta := same_new (o := .lst ((ws.take kk ++ mm).map V.str)) na
    have ha : upd G9 la (.lst ((ws.take kk ++ mm).map V.str)) la = _ := upd_same
    have Ta := T9.trans ta
    have hwa' := ta _ _ hw9
    generalize upd G9 la (.lst ((ws.take kk ++ mm).map V.str)) = Ga at ta ha Ta hwa' ⊢
    refine ⟨_, rfl, _, rfl, _, _, rfl, rfl, _, rfl, lw, _, rfl, SqL.of hwa', fun lb nb => ?_⟩
    rw [show cutV (ws.map V.str) (some ((kk : Int) + 1)) none = cutV (ws.map V.str) (some ((kk + 1 : Nat) : Int)) none from rfl, cut_drop, ← List.map_drop]
    have tb := same_new (o := .lst ((ws.drop (kk + 1)).map V.str)) nb
    have hb : upd Ga lb (.lst ((ws.drop (kk + 1)).map V.str)) lb = _ := upd_same
    have Tb := Ta.trans tb
    have hab := tb _ _ ha
    generalize upd Ga lb (.lst ((ws.drop (kk + 1)).map V.str)) = Gb at tb hb Tb hab ⊢
    refine ⟨la, lb, _, _, rfl, rfl, hab, hb, small_len (by rw [List.length_map, List.length_map, List.length_append, List.length_take, List.length_drop]; omega), fun lc nc => ?_⟩
    rw [← List.map_append]
    have hbj : jsz (ws.take kk ++ mm ++ ws.drop (kk + 1)) ≤ wd.cps.size + 1 + R + 12 := by
      have := jsz_at hwk
      rw [jsz_app, jsz_app]
      omega
    have hbal : ∀ w ∈ ws.take kk ++ mm ++ ws.drop (kk + 1), AL w ∧ w.cps.size ≤ R + 11 := fun w hw => by
      rcases List.mem_append.mp hw with z | z
      · rcases List.mem_append.mp z with z | z
        · have := hasc2 w (List.mem_of_mem_take z); exact ⟨this.1, by omega⟩
        · exact hma w z
      · have := hasc2 w (List.mem_of_mem_drop z); exact ⟨this.1, by omega⟩
    have hbl : (ws.take kk ++ mm ++ ws.drop (kk + 1)).length ≤ 1010 := by rw [List.length_append, List.length_append, List.length_take, List.length_drop]; omega
    generalize ws.take kk ++ mm ++ ws.drop (kk + 1) = bt at hbj hbal hbl ⊢
    have tc := same_new (o := .lst (bt.map V.str)) nc
    have hc' : upd Gb lc (.lst (bt.map V.str)) lc = _ := upd_same
    have Tc := Tb.trans tc
    generalize upd Gb lc (.lst (bt.map V.str)) = Gc at tc hc' Tc ⊢
    -- the rows
    have hrc := Tc _ _ hr0
    refine ⟨_, rfl, _, rfl, _, rfl, lr, _, rfl, SqL.of hrc, fun ld nd => ?_⟩
    rw [cut_take, ← List.map_take]
    have td := same_new (o := .lst ((rs.take i).map V.str)) nd
    have hd : upd Gc ld (.lst ((rs.take i).map V.str)) ld = _ := upd_same
    have Td := Tc.trans td
    have hcd := td _ _ hc'
    generalize upd Gc ld (.lst ((rs.take i).map V.str)) = Gd at td hd Td hcd ⊢
    have hjo : JoinOk " " bt = true := join_ok (small_len (by
      have h1 : (bt.map (·.length)).sum ≤ bt.length * (R + 11) := sum_le fun t ht => (hbal t ht).2
      have h2 : bt.length * (R + 11) ≤ bt.length * 1011 := Nat.mul_le_mul_left _ (by omega)
      have h3 : bt.length * (" " : Str).length = bt.length := by rw [show (" " : Str).length = 1 from rfl, Nat.mul_one]
      have h0 : (bt.map (·.length)).sum ≤ jsz bt := by
        unfold jsz
        clear h1 h2 h3 hbj hbal hbl hc' hcd
        induction bt with
        | nil => exact Nat.le_refl _
        | cons a r ih => rw [List.map_cons, List.map_cons, List.sum_cons, List.sum_cons]; have : a.length = a.cps.size := rfl; omega
      have := hwa.2
      omega))
    refine ⟨rfl, _, rfl, " ", lc, bt, rfl, rfl, SqL.of hcd, hjo, Nat.le_of_ble_eq_true rfl, fun le ne => ?_⟩
    have te := same_new (o := .lst [V.str (Txt.join " " bt)]) ne
    have he : upd Gd le (.lst [V.str (Txt.join " " bt)]) le = some (.lst ([Txt.join " " bt].map V.str)) := upd_same
    have Te := Td.trans te
    have hde := te _ _ hd
    generalize upd Gd le (.lst [V.str (Txt.join " " bt)]) = Ge at te he Te hde ⊢
    have hll := hg.len
    refine ⟨ld, le, _, _, rfl, rfl, hde, he, small_len (by rw [List.length_map, List.length_map, List.length_take]; show _ + 1 ≤ _; omega), fun lf nf => ?_⟩
    rw [← List.map_append]
    have tf := same_new (o := .lst ((rs.take i ++ [Txt.join " " bt]).map V.str)) nf
    have hf : upd Ge lf (.lst ((rs.take i ++ [Txt.join " " bt]).map V.str)) lf = _ := upd_same
    have Tf := Te.trans tf
    generalize upd Ge lf (.lst ((rs.take i ++ [Txt.join " " bt]).map V.str)) = Gf at tf hf Tf ⊢
    refine ⟨_, rfl, _, rfl, _, _, rfl, rfl, _, rfl, lr, _, rfl, SqL.of (Tf _ _ hr0), fun lg ng => ?_⟩
    rw [show cutV (rs.map V.str) (some ((i : Int) + 1)) none = cutV (rs.map V.str) (some ((i + 1 : Nat) : Int)) none from rfl, cut_drop, ← List.map_drop]
    have tg := same_new (o := .lst ((rs.drop (i + 1)).map V.str)) ng
    have hg' : upd Gf lg (.lst ((rs.drop (i + 1)).map V.str)) lg = _ := upd_same
    have Tg := Tf.trans tg
    have hfg := tg _ _ hf
    generalize upd Gf lg (.lst ((rs.drop (i + 1)).map V.str)) = Gg at tg hg' Tg hfg ⊢
    refine ⟨lf, lg, _, _, rfl, rfl, hfg, hg', small_len (by rw [List.length_map, List.length_map, List.length_append, List.length_take, List.length_drop]; show _ + 1 + _ ≤ _; omega), fun lh nh => ?_⟩
    rw [← List.map_append]
    have hjl' : (Txt.join " " bt).cps.size ≤ jsz bt := join_le (c := 32) bt
    have hja : AL (Txt.join " " bt) := al_join (c := 32) (by decide) fun w hw => (hbal w hw).1
    refine k lh _ _ (Tg.trans (same_new nh)) upd_same (by simp) ⟨fun r hr => ?_, ?_, ?_⟩
    · rcases List.mem_append.mp hr with z | z
      · rcases List.mem_append.mp z with z | z
        · have := hg.al r (List.mem_of_mem_take z); exact ⟨this.1, by omega⟩
        · rw [List.mem_singleton.mp z]
          exact ⟨hja, by have := hwa.2; omega⟩
      · have := hg.al r (List.mem_of_mem_drop z); exact ⟨this.1, by omega⟩
    · have h1 := jsz_at hri
      have h2 := hg.tot
      rw [jsz_app, jsz_app]
      show _ + ((Txt.join " " bt).cps.size + 1 + 0) + _ ≤ _
      omega
    · rw [List.length_append, List.length_append, List.length_take, List.length_drop]
      show _ + 1 + _ ≤ _
      omega
end
end My


set_option Elab.async false
set_option linter.all false
set_option maxRecDepth 100000
set_option maxHeartbeats 4000000
namespace My
open PySem L2
theorem ixN_nat {n k : Nat} (h : k < n) : ixN n (k : Int) = some k := by
  unfold ixN
  rw [if_pos (by omega), if_pos (by omega)]
  rfl
/-! ### an expression that tells a new list of rows -/
def HL (t : TE) (σ : St) (H : Hp) (rs : List Str) : Prop := ∀ (G : Hp) (Q : VK), Same H G → (∀ (l : Addr) (G' : Hp), Same G G' → G l = none → G' l = some (.lst (rs.map V.str)) → Q (.ref l) G') → t σ G Q
def HVr (t : TE) (σ : St) (H : Hp) (rs : List Str) : Prop := ∀ (G : Hp) (Q : VK), Same H G → (∀ (l : Addr) (G' : Hp), Same G G' → G' l = some (.lst (rs.map V.str)) → Q (.ref l) G') → t σ G Q
def HI (t : TE) (σ : St) (n : Int) : Prop := ∀ (G : Hp) (Q : VK), Q (.int n) G → t σ G Q
theorem HL.go {t : TE} {σ : St} {H G : Hp} {rs : List Str} {Q : VK} (h : HL t σ H rs) (s : Same H G) (k : ∀ (l : Addr) (G' : Hp), Same G G' → G l = none → G' l = some (.lst (rs.map V.str)) → Q (.ref l) G') : t σ G Q := h G Q s k
section
variable {σ : St} {H : Hp} {K : PySem.W.Frag}
theorem hi_var {i : Nat} {n : Int} (h : σ[i]? = some (some (.int n))) : HI (tVar i) σ n := fun G Q q => ⟨_, h, q⟩
theorem hi_int {n : Int} : HI (tC (.int n)) σ n := fun G Q q => q
theorem hi_add1 {a : TE} {n : Nat} (h : HI a σ (n : Int)) : HI (tOp (rI0 fun i j => .int (i + j)) a (tC (.int 1))) σ ((n + 1 : Nat) : Int) := fun G Q q => h G _ ⟨n, 1, rfl, rfl, q⟩
theorem hv_var {i : Nat} {l : Addr} {rs : List Str} (h : σ[i]? = some (some (.ref l))) (hl : H l = some (.lst (rs.map V.str))) : HVr (tVar i) σ H rs := fun G Q s k => ⟨_, h, k l G (.refl _) (s _ _ hl)⟩
theorem hl_hv {t : TE} {rs : List Str} (h : HL t σ H rs) : HVr t σ H rs := fun G Q s k => h G Q s fun l G' t _ hl => k l G' t hl
theorem hl_cat {a b : TE} {r1 r2 : List Str} (h : HVr a σ H r1) (g : HVr b σ H r2) (hz : r1.length + r2.length ≤ 1000) : HL (tOp rCat a b) σ H (r1 ++ r2) := fun G Q s k =>
  h G _ s fun l1 G1 t1 h1 => g G1 _ (s.trans t1) fun l2 G2 t2 h2 => ⟨l1, l2, _, _, rfl, rfl, t2 _ _ h1, h2, small_len (by rw [List.length_map, List.length_map]; omega), fun p np => by
    have e := k p (upd G2 p (.lst (r1.map V.str ++ r2.map V.str))) ((t1.trans t2).trans (same_new np)) ((t1.trans t2).free np)
    exact e (by rw [upd_same, List.map_append])⟩
theorem hl_take {i : Nat} {l : Addr} {rs : List Str} {te : TE} {k : Nat} (h : σ[i]? = some (some (.ref l))) (hl : H l = some (.lst (rs.map V.str))) (hi : HI te σ (k : Int)) : HL (tSl (rSlL K) (tVar i) tNoPart (tPart te)) σ H (rs.take k) := fun G Q s q =>
  ⟨_, h, hi G _ ⟨_, rfl, l, _, rfl, SqL.of (s _ _ hl), fun p np => q p _ (same_new np) np (by rw [upd_same, cut_take, ← List.map_take])⟩⟩
theorem hl_drop {i : Nat} {l : Addr} {rs : List Str} {te : TE} {k : Nat} (h : σ[i]? = some (some (.ref l))) (hl : H l = some (.lst (rs.map V.str))) (hi : HI te σ (k : Int)) : HL (tSl (rSlL K) (tVar i) (tPart te) tNoPart) σ H (rs.drop k) := fun G Q s q =>
  ⟨_, h, hi G _ ⟨_, rfl, l, _, rfl, SqL.of (s _ _ hl), fun p np => q p _ (same_new np) np (by rw [upd_same, cut_drop, ← List.map_drop])⟩⟩
theorem hl_one {x : Str} : HL (tLst (tCons (tC (.str x)) tNil)) σ H [x] := fun G Q s q => ⟨Nat.le_of_ble_eq_true rfl, fun p np => q p _ (same_new np) np upd_same⟩
theorem hl_oneA {i : Nat} {l : Addr} {rs : List Str} {r x : Str} (h : σ[i]? = some (some (.ref l))) (hl : H l = some (.lst (rs.map V.str))) (er : rs[0]? = some r) (hz : r.length + x.length ≤ sizeLine) : HL (tLst (tCons (tOp (fun x y H Q => ∃ i j, x = .str i ∧ y = .str j ∧ i.length + j.length ≤ sizeLine ∧ Q (.str (i ++ j)) H) (tOp (rIxL K) (tVar i) (tC (.int 0))) (tC (.str x))) tNil)) σ H [r ++ x] := fun G Q s q =>
  ⟨_, h, l, _, 0, .str r, rfl, rfl, SqL.of (s _ _ hl), atI_nat (j := 0) (by rw [List.getElem?_map, er]; rfl), r, x, rfl, rfl, hz, Nat.le_of_ble_eq_true rfl, fun p np => q p _ (same_new np) np upd_same⟩
theorem hl_oneB {i : Nat} {l : Addr} {rs : List Str} {r x : Str} (h : σ[i]? = some (some (.ref l))) (hl : H l = some (.lst (rs.map V.str))) (er : rs[0]? = some r) (hz : x.length + r.length ≤ sizeLine) : HL (tLst (tCons (tOp (fun x y H Q => ∃ i j, x = .str i ∧ y = .str j ∧ i.length + j.length ≤ sizeLine ∧ Q (.str (i ++ j)) H) (tC (.str x)) (tOp (rIxL K) (tVar i) (tC (.int 0)))) tNil)) σ H [x ++ r] := fun G Q s q =>
  ⟨_, h, l, _, 0, .str r, rfl, rfl, SqL.of (s _ _ hl), atI_nat (j := 0) (by rw [List.getElem?_map, er]; rfl), x, r, rfl, rfl, hz, Nat.le_of_ble_eq_true rfl, fun p np => q p _ (same_new np) np upd_same⟩
end
/-- each of the lists in the list at ls is one of good rows -/
def AG (R M L : Nat) (G : Hp) (ls : Addr) (ys : List V) : Prop := ∀ y ∈ ys, ∃ l rs, y = V.ref l ∧ l ≠ ls ∧ G l = some (.lst (rs.map V.str)) ∧ GB R M L rs
theorem AG.app {R M L : Nat} {H G G' : Hp} {ls l : Addr} {ys : List V} {rs : List Str} {o : HO} (h : AG R M L G ls ys) (_ : H = H) (t : Same G G') (ne : l ≠ ls) (hl : G' l = some (.lst (rs.map V.str))) (g : GB R M L rs) : AG R M L (upd G' ls o) ls (ys ++ [V.ref l]) := fun y hy => by
  rcases List.mem_append.mp hy with z | z
  · obtain ⟨l', rs', e1, e2, e3, e4⟩ := h y z
    exact ⟨l', rs', e1, e2, (upd_ne e2).trans (t _ _ e3), e4⟩
  · exact ⟨l, rs, List.mem_singleton.mp z, ne, (upd_ne ne).trans hl, g⟩
theorem AG.two {R M L : Nat} {G G' : Hp} {ls ls2 l1 l2 : Addr} {ys : List V} {r1 r2 : List Str} {o : HO} (h : AG R M L G ls ys) (t : Same G G') (n : G' ls2 = none) (h1 : G' l1 = some (.lst (r1.map V.str))) (h2 : G' l2 = some (.lst (r2.map V.str))) (g1 : GB R M L r1) (g2 : GB R M L r2) : AG R M L (upd G' ls2 o) ls2 (ys ++ [V.ref l1, V.ref l2]) := fun y hy => by
  have nn : ∀ l v, G' l = some v → l ≠ ls2 := fun l v e z => by rw [z, n] at e; cases e
  rcases List.mem_append.mp hy with z | z
  · obtain ⟨l', rs', e1, _, e3, e4⟩ := h y z
    have e3 := t _ _ e3
    exact ⟨l', rs', e1, nn _ _ e3, (upd_ne (nn _ _ e3)).trans e3, e4⟩
  · rcases List.mem_cons.mp z with z | z
    · exact ⟨l1, r1, z, nn _ _ h1, (upd_ne (nn _ _ h1)).trans h1, g1⟩
    · exact ⟨l2, r2, List.mem_singleton.mp z, nn _ _ h2, (upd_ne (nn _ _ h2)).trans h2, g2⟩
section
variable {R M L : Nat} {rs : List Str}
theorem gb_cat {a b : List Str} (ha : ∀ r ∈ a, AL r ∧ r.cps.size ≤ 2 * R + 20) (hb : ∀ r ∈ b, AL r ∧ r.cps.size ≤ 2 * R + 20) (ht : jsz a + jsz b ≤ M + R + 20) (hl : a.length + b.length ≤ L + 1) : GB (2 * R + 20) (M + R + 20) (L + 1) (a ++ b) := ⟨fun r hr => by
  rcases List.mem_append.mp hr with z | z
  · exact ha r z
  · exact hb r z, by rw [jsz_app]; exact ht, by rw [List.length_append]; exact hl⟩
theorem gb_up {a : List Str} (h : GB R M L rs) (ha : ∀ r ∈ a, r ∈ rs) : ∀ r ∈ a, AL r ∧ r.cps.size ≤ 2 * R + 20 := fun r hr => ⟨(h.al r (ha r hr)).1, by have := (h.al r (ha r hr)).2; omega⟩
theorem gb_e : ∀ r ∈ ([""] : List Str), AL r ∧ r.cps.size ≤ 2 * R + 20 := fun r hr => by rw [List.mem_singleton.mp hr]; exact ⟨by unfold AL; decide +kernel, Nat.zero_le _⟩
theorem gb_c : ∀ r ∈ (["counts"] : List Str), AL r ∧ r.cps.size ≤ 2 * R + 20 := fun r hr => by rw [List.mem_singleton.mp hr]; exact ⟨by unfold AL; decide +kernel, by show 6 ≤ _; omega⟩
theorem gb_sw (h : GB R M L rs) {i j : Nat} {a b : Str} (ha : rs[i]? = some a) (hb : rs[j]? = some b) : GB (2 * R + 20) (M + R + 20) (L + 1) ((rs.set i b).set j a) := by
  have hi := (List.getElem?_eq_some_iff.mp ha).1
  have hj := (List.getElem?_eq_some_iff.mp hb).1
  have hb2 : (rs.set i b)[j]? = some b := by
    rw [List.getElem?_set]
    split
    · first | rfl | rw [if_pos (by omega)]
    · exact hb
  have e1 := set_jsz (s := b) ha
  have e2 := set_jsz (s := a) hb2
  refine ⟨fun r hr => ?_, by have := h.tot; omega, by have := h.len; rw [List.length_set, List.length_set]; omega⟩
  have hm : r ∈ rs := by
    rcases List.mem_or_eq_of_mem_set hr with z | z
    · rcases List.mem_or_eq_of_mem_set z with z | z
      · exact z
      · rw [z]; exact List.mem_of_getElem? hb
    · rw [z]; exact List.mem_of_getElem? ha
  exact ⟨(h.al r hm).1, by have := (h.al r hm).2; omega⟩
end
section
variable {P : Program} {w : World} {K : PySem.W.Frag} {mg : Str → Option Value} {base : Heap}
def spBr : Sp := fun vs H Q _ => ∃ (lr lx : Addr) (rs : List Str) (ms : List Int) (R M L : Nat), vs = [.ref lr, .ref lx] ∧ H lr = some (.lst (rs.map V.str)) ∧ H lx = some (.lst (ms.map V.int)) ∧ 4 ≤ ms.length ∧ rs ≠ [] ∧ GB R M L rs ∧ R ≤ 1000 ∧ L ≤ 100 ∧ ∀ (l : Addr) (rs' : List Str) (H' : Hp), Same H H' → H' l = some (.lst (rs'.map V.str)) → rs' ≠ [] → GB (2 * R + 20) (M + R + 20) (L + 1) rs' → Q (.ref l) H'
theorem scBr : FnScope ["_law_rows", "_law_xs", "_law_at", "_law_other", "_law_turned", "_law_some", "_law_found"] ["_law_rows", "_law_xs"] (defScope s_law_by_row) := ⟨rfl, rfl, rfl, by decide +kernel, rfl, by decide +kernel, by decide +kernel⟩
theorem ok_law_by_row {f : Addr} {fd : FuncData} (F : Fun K "_law_by_row" "_law_by_row" s_law_by_row f fd) (T : Txt K w.params mg)  : FnOk P w K mg base CX0 1 f fd ["_law_rows", "_law_xs"] spBr := by
  refine F.ok scBr (fun vs H Q E h => ?_) (fun cdv A outer s H vs Q E hr h => ?_)
  · obtain ⟨lr, lx, rs, ms, R, M, L, rfl, _⟩ := h
    rfl
  · obtain ⟨lr, lx, rs, ms, R, M, L, rfl, hr0, hx0, h4, hne, hg, hR, hL, k⟩ := h
    have hu6 : (A.deeper (PyProof.Rows.envOfC "_law_by_row" (defScope s_law_by_row) s.heap.objs.size f cdv)).units + 6 < cLine := Nat.lt_of_le_of_lt (Nat.add_le_add_left (by decide : 6 ≤ 64) _) hr.units
    refine wrapX (pssx_cons (psx_of (ps_set (i := 2) scBr.nd rfl (Or.inl rfl) (pe_op op_mod (pe_ix ix_list (pv 1) pe_int (fun _ _ => rfl)) (pe_callB call_len_seq (by rfl) T.len bt_len (pa_cons (pv 0) pa_nil)))))
      (pssx_cons (psx_of (ps_set (i := 3) scBr.nd rfl (Or.inl rfl) (pe_op op_mod (pe_ix ix_list (pv 1) pe_int (fun _ _ => rfl)) (pe_callB call_len_seq (by rfl) T.len bt_len (pa_cons (pv 0) pa_nil)))))
      (pssx_cons (psx_of (ps_set (i := 4) scBr.nd rfl (Or.inl rfl) (pe_callTy call_list_of (by rfl) T.list bt_list (pa_cons (pv 0) pa_nil))))
      (pssx_cons (psx_of (ps_asg (pe_tup (pa_cons (pe_ix ix_list (pv 0) (pv 3) (fun _ _ => rfl)) (pa_cons (pe_ix ix_list (pv 0) (pv 2) (fun _ _ => rfl)) pa_nil))) (pg_tup (n := 2) rfl (pgs_cons (pg_sub (pv 4) (pv 2) set_list) (pgs_cons (pg_sub (pv 4) (pv 3) set_list) pgs_nil)))))
      (pssx_cons (psx_of (ps_set (i := 5) scBr.nd rfl (Or.inl rfl) (pe_lst (pa_cons (pe_op op_cat (pe_slice sl_list (pv 0) po_none (po_some (pv 2))) (pe_slice sl_list (pv 0) (po_some (pe_op op_add (pv 2) pe_int)) po_none)) (pa_cons (pv 4) pa_nil)))))
      (pssx_cons (psx_of (ps_expr (pe_bm PySem.F.plainAttrs_list PySem.F.slot_list_append PySem.F.type_list_append mt_append (pv 5) (pa_cons (pe_op op_cat (pe_slice sl_list (pv 0) po_none (po_some (pe_op op_add (pv 2) pe_int))) (pe_slice sl_list (pv 0) (po_some (pv 2)) po_none)) pa_nil))))
      (pssx_cons (psx_of (ps_expr (pe_bm PySem.F.plainAttrs_list PySem.F.slot_list_append PySem.F.type_list_append mt_append (pv 5) (pa_cons (pe_op op_cat (pe_op op_cat (pe_slice sl_list (pv 0) po_none (po_some (pv 2))) (pe_lst (pa_cons pe_str pa_nil))) (pe_slice sl_list (pv 0) (po_some (pv 2)) po_none)) pa_nil))))
      (pssx_cons (psx_of (ps_set (i := 5) scBr.nd rfl (Or.inl rfl) (pe_op op_cat (pv 5) (pe_lst (pa_cons (pe_op op_cat (pv 0) (pe_lst (pa_cons pe_str pa_nil))) (pa_cons (pe_op op_cat (pv 0) (pe_lst (pa_cons pe_str pa_nil))) pa_nil))))))
      (pssx_cons (psx_of (ps_expr (pe_bm PySem.F.plainAttrs_list PySem.F.slot_list_append PySem.F.type_list_append mt_append (pv 5) (pa_cons (pe_op op_cat (pe_lst (pa_cons (pe_op op_add_str (pe_ix ix_list (pv 0) pe_int (fun _ _ => rfl)) pe_str) pa_nil)) (pe_slice sl_list (pv 0) (po_some pe_int) po_none)) pa_nil))))
      (pssx_cons (psx_of (ps_expr (pe_bm PySem.F.plainAttrs_list PySem.F.slot_list_append PySem.F.type_list_append mt_append (pv 5) (pa_cons (pe_op op_cat (pe_lst (pa_cons (pe_op op_add_str pe_str (pe_ix ix_list (pv 0) pe_int (fun _ _ => rfl))) pa_nil)) (pe_slice sl_list (pv 0) (po_some pe_int) po_none)) pa_nil))))
      (pssx_cons (psx_of (ps_set (i := 5) scBr.nd rfl (Or.inl rfl) (pe_op op_cat (pv 5) (pe_lst (pa_cons (pe_slice sl_list (pv 0) po_none (po_some (pv 2))) (pa_cons (pe_slice sl_list (pv 0) po_none (po_some pe_int)) pa_nil))))))
      (pssx_cons (psx_of (ps_set (i := 6) scBr.nd rfl (Or.inl rfl) (pe_ix ix_list (pv 5) (pe_op op_mod (pe_ix ix_list (pv 1) pe_int (fun _ _ => rfl)) pe_int) (fun _ _ => rfl))))
      (pssx_one (psx_of (ps_ret (pe_op op_cat (pv 6) (pe_op op_rep (pe_lst (pa_cons pe_str pa_nil)) (pe_callTy call_int1 (by rfl) T.int bt_int (pa_cons (pe_cmpR (op_eqA hu6) (pv 6) (pe_lst pa_nil) (nomark _)) pa_nil))))))))))))))))))) ?_
    have hrl : 0 < rs.length := List.length_pos_iff.mpr hne
    have hll := hg.len
    have htt := hg.tot
    obtain ⟨x0, _, e0⟩ := at_ms (ms := ms) (j := 0) (by decide) (by omega)
    obtain ⟨x1, _, e1⟩ := at_ms (ms := ms) (j := 1) (by decide) (by omega)
    obtain ⟨x2, _, e2⟩ := at_ms (ms := ms) (j := 2) (by decide) (by omega)
    obtain ⟨i, hi, hil⟩ := modN x0 hrl
    obtain ⟨j, hj, hjl⟩ := modN x1 hrl
    refine ⟨_, rfl, lx, _, 0, _, rfl, rfl, SqL.of hx0, e0, _, rfl, lr, _, rfl, .inl (SqL.of hr0), _, _, rfl, rfl, (by show (0 : Int) < (((rs.map V.str).length : Nat) : Int); rw [List.length_map]; omega), ?_⟩
    show gName _ (.int (x0 % (((rs.map V.str).length : Nat) : Int))) _ _ _
    rw [List.length_map, hi]
    refine ⟨_, rfl, lx, _, 1, _, rfl, rfl, SqL.of hx0, e1, _, rfl, lr, _, rfl, .inl (SqL.of hr0), _, _, rfl, rfl, (by show (0 : Int) < (((rs.map V.str).length : Nat) : Int); rw [List.length_map]; omega), ?_⟩
    show gName _ (.int (x1 % (((rs.map V.str).length : Nat) : Int))) _ _ _
    rw [List.length_map, hj]
    have hri : rs[i]? = some rs[i] := List.getElem?_eq_getElem hil
    have hrj : rs[j]? = some rs[j] := List.getElem?_eq_getElem hjl
    have er0 : rs[0]? = some rs[0] := List.getElem?_eq_getElem hrl
    generalize rs[i] = a at hri
    generalize rs[j] = b at hrj
    generalize rs[0] = r0 at er0
    have ha := (hg.al a (List.mem_of_getElem? hri))
    have hr0a := (hg.al r0 (List.mem_of_getElem? er0))
    -- turned
    refine ⟨_, rfl, lr, _, rfl, .inl (SqL.of hr0), fun lt nlt => ?_⟩
    have t1 := same_new (o := .lst (rs.map V.str)) nlt
    have h1 : upd H lt (.lst (rs.map V.str)) lt = _ := upd_same
    generalize upd H lt (.lst (rs.map V.str)) = G1 at t1 h1 ⊢
    refine ⟨_, rfl, _, rfl, lr, _, _, .str b, rfl, rfl, SqL.of (t1 _ _ hr0), atI_nat (by rw [List.getElem?_map, hrj]; rfl), _, rfl, _, rfl, lr, _, _, .str a, rfl, rfl, SqL.of (t1 _ _ hr0), atI_nat (by rw [List.getElem?_map, hri]; rfl), Nat.le_of_ble_eq_true rfl, fun tt ntt => ?_⟩
    have t2 := same_new (o := .tup [V.str b, .str a]) ntt
    have h2 : upd G1 tt (.tup [V.str b, .str a]) tt = _ := upd_same
    have h12 := t2 _ _ h1
    have s2 := t1.trans t2
    generalize upd G1 tt (.tup [V.str b, .str a]) = G2 at t2 h2 h12 s2 ⊢
    refine ⟨tt, _, rfl, SqT.of h2, rfl, _, _, rfl, _, rfl, _, rfl, lt, _, _, i, rfl, rfl, h12, ixN_nat (by rw [List.length_map]; exact hil), _, _, rfl, _, rfl, _, rfl, lt, _, _, j, rfl, rfl, upd_same, ixN_nat (by rw [List.length_set, List.length_map]; exact hjl), rfl, ?_⟩
    have ets : ((rs.map V.str).set i (.str b)).set j (.str a) = ((rs.set i b).set j a).map V.str := by rw [List.map_set, List.map_set]
    rw [ets]
    have s3 := same_put (o := .lst (((rs.set i b).set j a).map V.str)) (same_put (o := .lst ((rs.map V.str).set i (.str b))) s2 nlt) nlt
    have h3 : upd (upd G2 lt (.lst ((rs.map V.str).set i (.str b)))) lt (.lst (((rs.set i b).set j a).map V.str)) lt = _ := upd_same
    generalize upd (upd G2 lt (.lst ((rs.map V.str).set i (.str b)))) lt (.lst (((rs.set i b).set j a).map V.str)) = G3 at s3 h3 ⊢
    have hgt := gb_sw hg hri hrj
    generalize (rs.set i b).set j a = rt at h3 hgt
    -- some
    have ci := jsz_at hri
    have cti := jsz_take rs i
    have cti1 := jsz_take rs (i + 1)
    have ct1 := jsz_take rs 1
    have lt1 : (rs.take (i + 1)).length ≤ L := by rw [List.length_take]; omega
    have mt : ∀ n, ∀ r ∈ rs.take n, r ∈ rs := fun n r hr => List.mem_of_mem_take hr
    have md : ∀ n, ∀ r ∈ rs.drop n, r ∈ rs := fun n r hr => List.mem_of_mem_drop hr
    refine HL.go (t := tOp rCat _ _) (rs := rs.take i ++ rs.drop (i + 1)) (hl_cat (hl_hv (hl_take rfl hr0 (hi_var rfl))) (hl_hv (hl_drop rfl hr0 (hi_add1 (hi_var rfl)))) (by simp; omega)) s3 fun l4 G4 t4 n4 h4' => ?_
    refine ⟨_, rfl, Nat.le_of_ble_eq_true rfl, fun ls nls => ?_⟩
    have nlsH : H ls = none := (s3.trans t4).free nls
    have nn : ∀ l v, G4 l = some v → l ≠ ls := fun l v e z => by rw [z, nls] at e; cases e
    have al : AG (2 * R + 20) (M + R + 20) (L + 1) (upd G4 ls (.lst [V.ref l4, .ref lt])) ls [V.ref l4, .ref lt] := fun y hy => by
      rcases List.mem_cons.mp hy with z | z
      · exact ⟨l4, _, z, nn _ _ h4', (upd_ne (nn _ _ h4')).trans h4', gb_cat (gb_up hg (mt _)) (gb_up hg (md _)) (by omega) (by rw [List.length_take, List.length_drop]; omega)⟩
      · have h3 := t4 _ _ h3
        exact ⟨lt, rt, List.mem_singleton.mp z, nn _ _ h3, (upd_ne (nn _ _ h3)).trans h3, hgt⟩
    have sG := (s3.trans t4).trans (same_new (o := .lst [V.ref l4, .ref lt]) nls)
    have hls : upd G4 ls (.lst [V.ref l4, .ref lt]) ls = _ := upd_same
    have yl : ([V.ref l4, .ref lt] : List V).length = 2 := rfl
    generalize [V.ref l4, V.ref lt] = ys at al sG hls yl ⊢
    generalize upd G4 ls (.lst ys) = G at al sG hls ⊢
    have sG0 : H = H := rfl
    refine ⟨_, rfl, .inl ⟨rfl, _, SqL.of hls⟩, HL.go (t := tOp rCat _ _) (rs := rs.take (i + 1) ++ rs.drop i) (hl_cat (hl_hv (hl_take rfl hr0 (hi_add1 (hi_var rfl)))) (hl_hv (hl_drop rfl hr0 (hi_var rfl))) (by simp; omega)) sG fun l5 G5 t5 n5 h5 => ?_⟩
    have hls5 := t5 _ _ hls
    have ne5 : l5 ≠ ls := fun z => by rw [z, hls] at n5; cases n5
    refine ⟨ls, _, _, rfl, rfl, hls5, small_lt (by omega), ?_⟩
    have al := al.app (o := .lst (ys ++ [V.ref l5])) sG0 (t5) ne5 h5 (gb_cat (gb_up hg (mt _)) (gb_up hg (md _)) (by omega) (by rw [List.length_take, List.length_drop]; omega))
    have sG := same_put (o := .lst (ys ++ [V.ref l5])) (sG.trans t5) nlsH
    have hls : upd G5 ls (.lst (ys ++ [V.ref l5])) ls = _ := upd_same
    have yl : (ys ++ [V.ref l5]).length = 3 := by rw [List.length_append, yl]; rfl
    generalize ys ++ [V.ref l5] = ys at al sG hls yl
    generalize upd G5 ls (.lst ys) = G at al sG hls ⊢
    refine ⟨_, rfl, .inl ⟨rfl, _, SqL.of hls⟩, HL.go (t := tOp rCat _ _) (rs := rs.take i ++ [("" : Str)] ++ rs.drop i) (hl_cat (hl_hv (hl_cat (hl_hv (hl_take rfl hr0 (hi_var rfl))) (hl_hv hl_one) (by simp; omega))) (hl_hv (hl_drop rfl hr0 (hi_var rfl))) (by simp; omega)) sG fun l6 G6 t6 n6 h6 => ?_⟩
    have hls6 := t6 _ _ hls
    have ne6 : l6 ≠ ls := fun z => by rw [z, hls] at n6; cases n6
    refine ⟨ls, _, _, rfl, rfl, hls6, small_lt (by omega), ?_⟩
    have al := al.app (o := .lst (ys ++ [V.ref l6])) sG0 (t6) ne6 h6 (gb_cat (fun r hr => (List.mem_append.mp hr).elim (gb_up hg (mt _) r) (gb_e r)) (gb_up hg (md _)) (by rw [jsz_app]; show _ + 1 + _ ≤ _; omega) (by rw [List.length_append, List.length_take, List.length_drop]; show _ + 1 + _ ≤ _; omega))
    have sG := same_put (o := .lst (ys ++ [V.ref l6])) (sG.trans t6) nlsH
    have hls : upd G6 ls (.lst (ys ++ [V.ref l6])) ls = _ := upd_same
    have yl : (ys ++ [V.ref l6]).length = 4 := by rw [List.length_append, yl]; rfl
    generalize ys ++ [V.ref l6] = ys at al sG hls yl
    generalize upd G6 ls (.lst ys) = G at al sG hls ⊢
    refine ⟨_, rfl, HL.go (t := tOp rCat _ _) (rs := rs ++ [("" : Str)]) (hl_cat (hv_var rfl hr0) (hl_hv hl_one) (by simp; omega)) sG fun la7 Ga7 ta7 na7 ha7 => ?_⟩
    refine HL.go (t := tOp rCat _ _) (rs := rs ++ [("counts" : Str)]) (hl_cat (hv_var rfl hr0) (hl_hv hl_one) (by simp; omega)) (sG.trans ta7) fun lb7 Gb7 tb7 nb7 hb7 => ?_
    refine ⟨Nat.le_of_ble_eq_true rfl, fun lc7 nc7 => ?_⟩
    have tc7 := same_new (o := .lst [V.ref la7, .ref lb7]) nc7
    have hc7 : upd Gb7 lc7 (.lst [V.ref la7, .ref lb7]) lc7 = _ := upd_same
    have T7 := (ta7.trans tb7).trans tc7
    have ha7 := tc7 _ _ (tb7 _ _ ha7)
    have hb7 := tc7 _ _ hb7
    generalize upd Gb7 lc7 (.lst [V.ref la7, .ref lb7]) = Gc7 at tc7 hc7 T7 ha7 hb7 ⊢
    refine ⟨ls, lc7, _, _, rfl, rfl, T7 _ _ hls, hc7, small_len (by show ys.length + 2 ≤ _; omega), fun ls2 nls2 => ?_⟩
    have al := al.two (o := .lst (ys ++ [V.ref la7, .ref lb7])) T7 nls2 ha7 hb7 (gb_cat (gb_up hg fun _ h => h) gb_e (by show _ + 1 ≤ _; omega) (by show _ + 1 ≤ _; omega)) (gb_cat (gb_up hg fun _ h => h) gb_c (by show _ + 7 ≤ _; omega) (by show _ + 1 ≤ _; omega))
    have nls2H : H ls2 = none := (sG.trans T7).free nls2
    have sG := (sG.trans T7).trans (same_new (o := .lst (ys ++ [V.ref la7, .ref lb7])) nls2)
    have hls : upd Gc7 ls2 (.lst (ys ++ [V.ref la7, .ref lb7])) ls2 = _ := upd_same
    have yl : (ys ++ [V.ref la7, .ref lb7]).length = 6 := by rw [List.length_append, yl]; rfl
    generalize ys ++ [V.ref la7, .ref lb7] = ys at al sG hls yl
    generalize upd Gc7 ls2 (.lst ys) = G at al sG hls ⊢
    have nlsH := nls2H
    clear nls2H
    generalize ls2 = ls at al hls nlsH ⊢
    refine ⟨_, rfl, .inl ⟨rfl, _, SqL.of hls⟩, HL.go (t := tOp rCat _ _) (rs := [r0 ++ (" " : Str)] ++ rs.drop 1) (hl_cat (hl_hv (hl_oneA rfl hr0 er0 (small_len (by show r0.cps.size + 1 ≤ _; omega)))) (hl_hv (hl_drop rfl hr0 (hi_int (n := 1)))) (by simp; omega)) sG fun l8 G8 t8 n8 h8 => ?_⟩
    have hls8 := t8 _ _ hls
    have ne8 : l8 ≠ ls := fun z => by rw [z, hls] at n8; cases n8
    refine ⟨ls, _, _, rfl, rfl, hls8, small_lt (by omega), ?_⟩
    have al := al.app (o := .lst (ys ++ [V.ref l8])) sG0 (t8) ne8 h8 (gb_cat (fun r hr => by rw [List.mem_singleton.mp hr]; exact ⟨al_app hr0a.1 (by unfold AL; decide +kernel), by rw [sz_app]; show _ + 1 ≤ _; have := hr0a.2; omega⟩) (gb_up hg (md _)) (by show (r0 ++ (" " : Str)).cps.size + 1 + 0 + _ ≤ _; rw [sz_app]; show r0.cps.size + 1 + 1 + 0 + _ ≤ _; have := jsz_at er0; rw [List.take_zero] at this; have e : jsz [] = 0 := rfl; have e1 : rs.drop (0 + 1) = rs.drop 1 := rfl; rw [e1] at this; omega) (by show 1 + _ ≤ _; rw [List.length_drop]; omega))
    have sG := same_put (o := .lst (ys ++ [V.ref l8])) (sG.trans t8) nlsH
    have hls : upd G8 ls (.lst (ys ++ [V.ref l8])) ls = _ := upd_same
    have yl : (ys ++ [V.ref l8]).length = 7 := by rw [List.length_append, yl]; rfl
    generalize ys ++ [V.ref l8] = ys at al sG hls yl
    generalize upd G8 ls (.lst ys) = G at al sG hls ⊢
    refine ⟨_, rfl, .inl ⟨rfl, _, SqL.of hls⟩, HL.go (t := tOp rCat _ _) (rs := [(" " : Str) ++ r0] ++ rs.drop 1) (hl_cat (hl_hv (hl_oneB rfl hr0 er0 (small_len (by show 1 + r0.cps.size ≤ _; omega)))) (hl_hv (hl_drop rfl hr0 (hi_int (n := 1)))) (by simp; omega)) sG fun l9 G9 t9 n9 h9 => ?_⟩
    have hls9 := t9 _ _ hls
    have ne9 : l9 ≠ ls := fun z => by rw [z, hls] at n9; cases n9
    refine ⟨ls, _, _, rfl, rfl, hls9, small_lt (by omega), ?_⟩
    have al := al.app (o := .lst (ys ++ [V.ref l9])) sG0 (t9) ne9 h9 (gb_cat (fun r hr => by rw [List.mem_singleton.mp hr]; exact ⟨al_app (by unfold AL; decide +kernel) hr0a.1, by rw [sz_app]; show 1 + _ ≤ _; have := hr0a.2; omega⟩) (gb_up hg (md _)) (by show ((" " : Str) ++ r0).cps.size + 1 + 0 + _ ≤ _; rw [sz_app]; show 1 + r0.cps.size + 1 + 0 + _ ≤ _; have := jsz_at er0; rw [List.take_zero] at this; have e : jsz [] = 0 := rfl; have e1 : rs.drop (0 + 1) = rs.drop 1 := rfl; rw [e1] at this; omega) (by show 1 + _ ≤ _; rw [List.length_drop]; omega))
    have sG := same_put (o := .lst (ys ++ [V.ref l9])) (sG.trans t9) nlsH
    have hls : upd G9 ls (.lst (ys ++ [V.ref l9])) ls = _ := upd_same
    have yl : (ys ++ [V.ref l9]).length = 8 := by rw [List.length_append, yl]; rfl
    generalize ys ++ [V.ref l9] = ys at al sG hls yl
    generalize upd G9 ls (.lst ys) = G at al sG hls ⊢
    refine ⟨_, rfl, HL.go (t := tSl _ _ _ _) (rs := rs.take i) (hl_take rfl hr0 (hi_var rfl)) sG fun la10 Ga10 ta10 na10 ha10 => ?_⟩
    refine HL.go (t := tSl _ _ _ _) (rs := rs.take 1) (hl_take rfl hr0 (hi_int (n := 1))) (sG.trans ta10) fun lb10 Gb10 tb10 nb10 hb10 => ?_
    refine ⟨Nat.le_of_ble_eq_true rfl, fun lc10 nc10 => ?_⟩
    have tc10 := same_new (o := .lst [V.ref la10, .ref lb10]) nc10
    have hc10 : upd Gb10 lc10 (.lst [V.ref la10, .ref lb10]) lc10 = _ := upd_same
    have T10 := (ta10.trans tb10).trans tc10
    have ha10 := tc10 _ _ (tb10 _ _ ha10)
    have hb10 := tc10 _ _ hb10
    generalize upd Gb10 lc10 (.lst [V.ref la10, .ref lb10]) = Gc10 at tc10 hc10 T10 ha10 hb10 ⊢
    refine ⟨ls, lc10, _, _, rfl, rfl, T10 _ _ hls, hc10, small_len (by show ys.length + 2 ≤ _; omega), fun ls2 nls2 => ?_⟩
    have al := al.two (o := .lst (ys ++ [V.ref la10, .ref lb10])) T10 nls2 ha10 hb10 ((hg.take i).mono (by omega) (by omega) (by omega)) ((hg.take 1).mono (by omega) (by omega) (by omega))
    have nls2H : H ls2 = none := (sG.trans T10).free nls2
    have sG := (sG.trans T10).trans (same_new (o := .lst (ys ++ [V.ref la10, .ref lb10])) nls2)
    have hls : upd Gc10 ls2 (.lst (ys ++ [V.ref la10, .ref lb10])) ls2 = _ := upd_same
    have yl : (ys ++ [V.ref la10, .ref lb10]).length = 10 := by rw [List.length_append, yl]; rfl
    generalize ys ++ [V.ref la10, .ref lb10] = ys at al sG hls yl
    generalize upd Gc10 ls2 (.lst ys) = G at al sG hls ⊢
    have nlsH := nls2H
    clear nls2H
    generalize ls2 = ls at al hls nlsH ⊢

    obtain ⟨c, hc, hcl⟩ := modN x2 (n := 10) (by decide)
    have hyc : ys[c]? = some (ys[c]'(by omega)) := List.getElem?_eq_getElem _
    have hym : ys[c]'(by omega) ∈ ys := List.getElem_mem _
    generalize (ys[c]'(by omega)) = y at hyc hym
    obtain ⟨lf, rf, rfl, _, hlf, hgf⟩ := al y hym
    refine ⟨_, rfl, _, rfl, lx, _, 2, _, rfl, rfl, SqL.of (sG _ _ hx0), e2, _, _, rfl, rfl, (by show (0 : Int) < 10; decide), ls, _, _, .ref lf, rfl, rfl, SqL.of hls, ?_, ?_⟩
    · show atI _ (x2 % 10) = _
      rw [show x2 % 10 = (c : Int) from hc]
      exact atI_nat hyc
    have hrfl := hgf.len
    refine ⟨_, rfl, Nat.le_of_ble_eq_true rfl, fun l1 n1 => ?_⟩
    have u1 := same_new (o := .lst [V.str ""]) n1
    have k1 : upd G l1 (.lst [V.str ""]) l1 = _ := upd_same
    have f1 := u1 _ _ hlf
    generalize upd G l1 (.lst [V.str ""]) = Ga at u1 k1 f1 ⊢
    refine ⟨_, rfl, Nat.le_of_ble_eq_true rfl, fun l2 n2 => ?_⟩
    have u2 := same_new (o := .lst []) n2
    have k2 : upd Ga l2 (.lst []) l2 = _ := upd_same
    have f2 := u2 _ _ f1
    have k12 := u2 _ _ k1
    generalize upd Ga l2 (.lst []) = Gb at u2 k2 f2 k12 ⊢
    have hstrs : HDs Gb (rf.map V.str) (rf.map Da.str) := by
      clear f2 hgf hrfl hlf f1
      induction rf with
      | nil => exact .nil
      | cons a r ih => exact .cons (.str a) ih
    refine ⟨1, lf, l2, .lst (rf.map Da.str), .lst [], rfl, rfl, (HD.lstS f2 hstrs).da K, (HD.lstS k2 .nil).da K, .lst (fun d hd => by
      obtain ⟨n, _, rfl⟩ := List.mem_map.mp hd
      exact .str), .lst (fun d hd => by cases hd), by decide, .inr ⟨_, rfl, l1, _, _, rfl, rfl, k12, ?_, ?_, ?_, fun l5 n5 => ?_⟩⟩
    · split <;> decide
    · split <;> decide
    · split <;> exact Nat.le_of_ble_eq_true rfl
    have u5 := same_new (o := .lst (List.replicate (if (false ^^ decide (Da.lst (rf.map Da.str) = Da.lst [])) = true then (1 : Int) else 0).toNat [V.str ""]).flatten) n5
    by_cases c0 : rf = []
    · subst c0
      refine ⟨lf, l5, _, _, rfl, rfl, u5 _ _ f2, upd_same, Nat.le_of_ble_eq_true rfl, fun l6 n6 => ?_⟩
      refine k l6 [("" : Str)] _ ((((sG.trans u1).trans u2).trans u5).trans (same_new n6)) upd_same (by simp) ⟨gb_e, by show 1 ≤ _; omega, by show 1 ≤ _; omega⟩
    · have ed : decide (Da.lst (rf.map Da.str) = Da.lst []) = false := decide_eq_false fun z => c0 (List.map_eq_nil_iff.mp (Da.lst.inj z))
      refine ⟨lf, l5, _, _, rfl, rfl, u5 _ _ f2, upd_same, ?_, fun l6 n6 => ?_⟩
      · rw [ed]
        show (rf.map V.str).length + 0 ≤ _
        rw [List.length_map]
        exact small_len (by omega)
      · refine k l6 rf _ ((((sG.trans u1).trans u2).trans u5).trans (same_new n6)) ?_ c0 hgf
        rw [upd_same, ed]
        show some (HO.lst (rf.map V.str ++ [])) = _
        rw [List.append_nil]
def spBt : Sp := fun vs H Q _ => ∃ (lr lx : Addr) (rs : List Str) (ms : List Int) (R M L : Nat) (wy : Int), vs = [.ref lr, .ref lx, .int wy] ∧ H lr = some (.lst (rs.map V.str)) ∧ H lx = some (.lst (ms.map V.int)) ∧ 4 ≤ ms.length ∧ rs ≠ [] ∧ GB R M L rs ∧ R ≤ 1000 ∧ L ≤ 100 ∧ ∀ (l : Addr) (rs' : List Str) (H' : Hp), Same H H' → H' l = some (.lst (rs'.map V.str)) → rs' ≠ [] → GB (2 * R + 20) (M + R + 20) (L + 1) rs' → Q (.ref l) H'
theorem scBt : FnScope ["_law_rows", "_law_xs", "_law_way"] ["_law_rows", "_law_xs", "_law_way"] (defScope s_law_bent) := ⟨rfl, rfl, rfl, by decide +kernel, rfl, by decide +kernel, by decide +kernel⟩
theorem ok_law_bent {f fR fW : Addr} {fd fdR fdW : FuncData} (F : Fun K "_law_bent" "_law_bent" s_law_bent f fd) (T : Txt K w.params mg) (GR : FnOk P w K mg base CX0 1 fR fdR ["_law_rows", "_law_xs"] spBr) (kR : PySem.W.keepIn K (.ref fR) = true) (bR : Binds K fdR ["_law_rows", "_law_xs"] []) (mR : mg "_law_by_row" = some (.ref fR))(GW : FnOk P w K mg base CX0 1 fW fdW ["_law_rows", "_law_xs"] spBw) (kW : PySem.W.keepIn K (.ref fW) = true) (bW : Binds K fdW ["_law_rows", "_law_xs"] []) (mW : mg "_law_by_word" = some (.ref fW)) : FnOk P w K mg base CX0 2 f fd ["_law_rows", "_law_xs", "_law_way"] spBt := by
  refine F.ok scBt (fun vs H Q E h => ?_) (fun cdv A outer s H vs Q E hr h => ?_)
  · obtain ⟨lr, lx, rs, ms, R, M, L, wy, rfl, _⟩ := h
    rfl
  · obtain ⟨lr, lx, rs, ms, R, M, L, wy, rfl, hr0, hx0, h4, hne, hg, hR, hL, k⟩ := h
    refine wrapX (pssx_cons (psx_if (pt_cmpR op_eq (pv 2) pe_int (nomark _)) (pssx_one (psx_of (ps_ret (pe_call GR hr (by rfl) mR kR bR .nil pass0 (pa_cons (pv 0) (pa_cons (pv 1) pa_nil)))))) (pssx_nil pss_nil))
      (pssx_one (psx_of (ps_ret (pe_call GW hr (by rfl) mW kW bW .nil pass0 (pa_cons (pv 0) (pa_cons (pv 1) pa_nil))))))) ?_
    refine ⟨_, rfl, rfl, _, rfl, ite2 (fun _ => ?_) (fun _ => ?_)⟩
    · exact ⟨_, rfl, _, rfl, lr, lx, rs, ms, R, M, L, rfl, hr0, hx0, h4, hne, hg, hR, hL, k⟩
    · exact ⟨_, rfl, _, rfl, lr, lx, rs, ms, R, M, L, rfl, hr0, hx0, h4, hne, hg, hR, hL, k⟩
end
end My


set_option Elab.async false
set_option linter.all false
set_option maxRecDepth 100000
set_option maxHeartbeats 4000000
namespace My
open PySem L2
theorem bt_dict : bootBuiltins "dict" = some (.type "dict") := by decide +kernel
theorem kvF_fst : ∀ {us vs : List V} {j : Nat}, us.length = vs.length → (kvF j us).map (·.1) = (kvF j vs).map (·.1)
  | [], [], _, _ => rfl
  | [], _ :: _, _, h => by simp at h
  | _ :: _, [], _, h => by simp at h
  | _ :: us, _ :: vs, j, h => by
    unfold kvF
    rw [List.map_cons, List.map_cons, kvF_fst (us := us) (vs := vs) (by simpa using h)]
theorem kvF_snd : ∀ (us : List V) (j : Nat), (kvF j us).map (·.2) = us
  | [], _ => rfl
  | _ :: us, j => by
    unfold kvF
    rw [List.map_cons, kvF_snd us (j + 1)]
/-! ### rows of a paper: small -/
theorem ln_size {n L : Nat} {ws : List Str} (h : ∀ x ∈ ws, x.cps.size ≤ n) (hl : ws.length ≤ L) : (Txt.join " " ws).cps.size ≤ L * (n + 1) := by
  have e : Txt.join " " ws = Str.join ⟨#[32]⟩ ws := tjoin 32 _
  rw [e]
  exact Nat.le_trans (join_size (c := 32) (n := n) (ps := ws) h) (Nat.mul_le_mul_right _ hl)
theorem ls_small {q : Pap} (g : PapG q) : ∀ x ∈ q.ls, x.cps.size ≤ 350 := fun x hx => by
  have h1 := g.L1
  have h2 := g.F1
  have h3 := g.B1
  have h4 := g.C1
  rcases List.mem_cons.mp hx with rfl | hx
  · refine Nat.le_trans (ln_size (n := 13) (L := 21) (fun x hx => ?_) (by simp; omega)) (by decide)
    rcases List.mem_cons.mp hx with rfl | hx
    · exact Nat.le_of_ble_eq_true rfl
    · obtain ⟨o, ho, rfl⟩ := List.mem_map.mp hx
      cases o with
      | none => exact Nat.le_of_ble_eq_true rfl
      | some n => have := g.L2 _ ho n rfl; exact tos_len (by omega)
  rcases List.mem_cons.mp hx with rfl | hx
  · refine Nat.le_trans (ln_size (n := 13) (L := 25) (fun x hx => ?_) (by simp; omega)) (by decide)
    rcases List.mem_cons.mp hx with rfl | hx
    · exact Nat.le_of_ble_eq_true rfl
    · obtain ⟨n, ho, rfl⟩ := List.mem_map.mp hx
      have := g.F2 _ ho; exact tos_len (by omega)
  rcases List.mem_cons.mp hx with rfl | hx
  · refine Nat.le_trans (ln_size (n := 8) (L := 25) (fun x hx => ?_) (by simp; omega)) (by decide)
    rcases List.mem_cons.mp hx with rfl | hx
    · exact Nat.le_of_ble_eq_true rfl
    · obtain ⟨ns, ho, rfl⟩ := List.mem_map.mp hx
      have hb := g.B2 _ ho
      unfold shBoxes
      split
      · exact Nat.le_of_ble_eq_true rfl
      · have := congrArg List.length (box_signs hb.1)
        rw [List.length_map, Array.length_toList] at this
        omega
  · obtain rfl := List.mem_singleton.mp (show x ∈ [Txt.join " " (("counts" : Str) :: q.C.map shCount)] from hx)
    refine Nat.le_trans (ln_size (n := 27) (L := 7) (fun x hx => ?_) (by simp; omega)) (by decide)
    exact ((wl_wrd g _ (List.mem_of_getElem? (i := 3) rfl)).1 x hx).2
theorem gb_ls {q : Pap} (g : PapG q) : GB 350 1404 4 q.ls := by
  refine ⟨fun r hr => ⟨al_iff.mpr fun d hd => ((ls_good g r hr).1 d hd).1, ls_small g r hr⟩, ?_, Nat.le_refl _⟩
  have h0 := ls_small g _ (List.mem_of_getElem? (i := 0) rfl : Txt.join " " _ ∈ q.ls)
  have h1 := ls_small g _ (List.mem_of_getElem? (i := 1) rfl : Txt.join " " _ ∈ q.ls)
  have h2 := ls_small g _ (List.mem_of_getElem? (i := 2) rfl : Txt.join " " _ ∈ q.ls)
  have h3 := ls_small g _ (List.mem_of_getElem? (i := 3) rfl : Txt.join " " _ ∈ q.ls)
  show _ + 1 + (_ + 1 + (_ + 1 + (_ + 1 + 0))) ≤ 1404
  omega
theorem tx_split {q : Pap} (g : PapG q) : Txt.split q.tx "\n" = q.ls := split_join (c := 10) (by exact List.cons_ne_nil _ _) fun p hp z => absurd rfl ((ls_good g p hp).1 10 z).2
def Rf : Nat → Nat
  | 0 => 350
  | j + 1 => 2 * Rf j + 20
theorem Rf_le : ∀ j : Nat, j < 2 → Rf j ≤ 1000
  | 0, _ => by show 350 ≤ 1000; decide
  | 1, _ => by show 2 * 350 + 20 ≤ 1000; decide
  | n + 2, h => by omega
theorem rd_nil : rdPaper "" = .error 0 := by
  unfold rdPaper
  rw [show Txt.split "" "\n" = [("" : Str)] by decide +kernel]
  show (match rdLs 0 [("" : Str)] with | .error e => Except.error e | .ok ds => if 1 = 4 then .ok ds else .error (min 1 4)) = _
  unfold rdLs
  rw [show rdLine 0 "" = none by decide +kernel]
def Mf : Nat → Nat
  | 0 => 1404
  | j + 1 => Mf j + Rf j + 20
/-! ### what is told and what is due -/
theorem rdAll_nb {i : Nat} : ∀ {ws : List Str} {l : List Da}, rdAll (rdK i) ws = some l → ∀ d ∈ l, d.Nb 1
  | [], l, h, d, hd => by cases h; cases hd
  | w :: ws, l, h, d, hd => by
    unfold rdAll at h
    cases hw : rdK i w with
    | none => rw [hw] at h; cases h
    | some d' =>
      rw [hw] at h
      obtain ⟨l', hl', rfl⟩ := Option.map_eq_some_iff.mp h
      rcases List.mem_cons.mp hd with rfl | hd
      · exact rdK_nb hw
      · exact rdAll_nb hl' d hd
theorem rdLine_nb {i : Nat} {x : Str} {d : Da} (h : rdLine i x = some d) : d.Nb 3 := by
  unfold rdLine at h
  split at h
  · cases h
  · split at h
    · obtain ⟨l, hl, rfl⟩ := Option.map_eq_some_iff.mp h
      exact .lst fun d hd => nb_mono (rdAll_nb hl d hd) (by decide : 1 ≤ 2)
    · cases h
theorem rdLs_nb : ∀ {ls : List Str} {i : Nat} {ds : List Da}, rdLs i ls = .ok ds → ∀ d ∈ ds, d.Nb 3
  | [], _, _, h, d, hd => by cases h; cases hd
  | l :: ls, i, ds, h, d, hd => by
    unfold rdLs at h
    cases h1 : rdLine i l with
    | none => rw [h1] at h; cases h
    | some e =>
      rw [h1] at h
      cases h2 : rdLs (i + 1) ls with
      | error _ => rw [h2] at h; cases h
      | ok es =>
        rw [h2] at h
        cases h
        rcases List.mem_cons.mp hd with rfl | hd
        · exact rdLine_nb h1
        · exact rdLs_nb h2 d hd
theorem rdPaper_nb {x : Str} {ds : List Da} (h : rdPaper x = .ok ds) : ∀ d ∈ ds, d.Nb 3 := by
  unfold rdPaper at h
  split at h
  · cases h
  · rename_i es he
    split at h
    · cases h
      exact rdLs_nb he
    · cases h
def Tl (r : Except Nat (List Da)) (H : Hp) (v : V) : Prop := match r with
  | .ok ds => ∃ p vs, v = .ref p ∧ H p = some (.dK (kvF 0 vs)) ∧ HDs H vs ds
  | .error e => v = .int (e : Int)
theorem Tl.same {r : Except Nat (List Da)} {H H' : Hp} {v : V} (h : Tl r H v) (s : Same H H') : Tl r H' v := by
  cases r with
  | ok ds =>
    obtain ⟨p, vs, e, hp, hv⟩ := h
    exact ⟨p, vs, e, s _ _ hp, hv.same s⟩
  | error e => exact h
theorem dur_go {r : Except Nat (List Da)} {H : Hp} {Q : VK} (k : ∀ (v : V) (H1 : Hp), Same H H1 → Tl r H1 v → Q v H1) : DuR r H Q := by
  cases r with
  | ok ds => exact fun p vs H' s _ hp hv => k _ H' s ⟨p, vs, rfl, hp, hv⟩
  | error e => exact fun H' s => k _ H' s rfl
theorem ne_go {x : Str} {H : Hp} {v u : V} {R : VK} (hv : Tl (rdPaper x) H v) (hu : Tl (rdPaper x) H u) (k : R (.bl false) H) : rNeW v u H R := by
  have nb := @rdPaper_nb x
  cases hr : rdPaper x with
  | ok ds =>
    rw [hr] at hv hu nb
    obtain ⟨p, vs, rfl, hp, hvs⟩ := hv
    obtain ⟨p2, vs2, rfl, hp2, hvs2⟩ := hu
    refine .inr ⟨p, p2, kvF 0 vs, kvF 0 vs2, ds, ds, 3, rfl, rfl, hp, hp2, kvF_fst (hvs.len.trans hvs2.len.symm), by rw [kvF_snd]; exact hvs, by rw [kvF_snd]; exact hvs2, nb rfl, nb rfl, by decide, ?_⟩
    rw [decide_eq_true rfl]
    exact k
  | error e =>
    rw [hr] at hv hu
    refine .inl ⟨e, e, hv, hu, ?_⟩
    rw [decide_eq_true rfl]
    exact k
section
variable {P : Program} {w : World} {K : PySem.W.Frag} {mg : Str → Option Value} {base : Heap}
def spLaw : Sp := fun vs H Q _ => ∃ (a : Addr) (ns : List Int), vs = [.ref a] ∧ SqL K H a (ns.map V.int) ∧ ns.length ≤ 63 ∧ ∀ H', Q (.bl true) H'
theorem scLaw : FnScope ["_law_script", "_law_k", "_law_text_here", "_law_xs", "_law_rows", "_law_turn", "_law_bent_here", "_law_thing_here"] ["_law_script"] (defScope s_law) := ⟨rfl, rfl, rfl, by decide +kernel, rfl, by decide +kernel, by decide +kernel⟩
theorem ok_law {f fX fP fD fC fJ fT_ fU : Addr} {fd fdX fdP fdD fdC fdJ fdT_ fdU : FuncData} (F : Fun K "law" "law" s_law f fd) (T : Txt K w.params mg) (GX : FnOk P w K mg base CX0 1 fX fdX ["_law_paper_here"] spTx) (kX : PySem.W.keepIn K (.ref fX) = true) (bX : Binds K fdX ["_law_paper_here"] []) (mX : mg "_law_text" = some (.ref fX))(GP : FnOk P w K mg base CX0 3 fP fdP ["_law_script", "_law_at"] (spPa (K := K))) (kP : PySem.W.keepIn K (.ref fP) = true) (bP : Binds K fdP ["_law_script", "_law_at"] []) (mP : mg "_law_paper" = some (.ref fP))(GD : FnOk P w K mg base CX0 1 fD fdD ["_law_cell", "_law_k", "_law_many"] spDr) (kD : PySem.W.keepIn K (.ref fD) = true) (bD : Binds K fdD ["_law_cell", "_law_k", "_law_many"] []) (mD : mg "_law_draws" = some (.ref fD))(GC : FnOk P w K mg base CX0 1 fC fdC ["_law_script", "_law_k"] (spCell (K := K))) (kC : PySem.W.keepIn K (.ref fC) = true) (bC : Binds K fdC ["_law_script", "_law_k"] []) (mC : mg "_law_cell_at" = some (.ref fC))(GJ : FnOk P w K mg base CX0 2 fJ fdJ ["_law_rows", "_law_xs", "_law_way"] spBt) (kJ : PySem.W.keepIn K (.ref fJ) = true) (bJ : Binds K fdJ ["_law_rows", "_law_xs", "_law_way"] []) (mJ : mg "_law_bent" = some (.ref fJ))(GT_ : FnOk P w K mg base CX0 7 fT_ fdT_ ["_law_thing_here"] (spTo (K := K))) (kT_ : PySem.W.keepIn K (.ref fT_) = true) (bT_ : Binds K fdT_ ["_law_thing_here"] []) (mT_ : mg "_law_told" = some (.ref fT_))(GU : FnOk P w K mg base CX0 3 fU fdU ["_law_text_here"] spDu) (kU : PySem.W.keepIn K (.ref fU) = true) (bU : Binds K fdU ["_law_text_here"] []) (mU : mg "_law_due" = some (.ref fU)) : FnOk P w K mg base CX0 8 f fd ["_law_script"] (spLaw (K := K)) := by
  refine F.ok scLaw (fun vs H Q E h => ?_) (fun cdv A outer s H vs Q E hr h => ?_)
  · obtain ⟨a, ns, rfl, _⟩ := h
    rfl
  · obtain ⟨a, ns, rfl, hS, h63, k⟩ := h
    have hu6 : (A.deeper (PyProof.Rows.envOfC "law" (defScope s_law) s.heap.objs.size f cdv)).units + 6 < cLine := Nat.lt_of_le_of_lt (Nat.add_le_add_left (by decide : 6 ≤ 64) _) hr.units
    refine wrapX (pssx_cons (psx_of (ps_for PassesOwn.never rfl (pi_range1 rfl T.range (pa_cons (pe_op op_add pe_int (pe_callB (call_min2 rfl) (by rfl) T.min bt_min (pa_cons pe_int (pa_cons (pe_callB (call_max2 rfl) (by rfl) T.max bt_max (pa_cons pe_int (pa_cons (pe_op op_sub (pe_callB call_len_seq (by rfl) T.len bt_len (pa_cons (pv 0) pa_nil)) pe_int) pa_nil))) pa_nil)))) pa_nil)) (pg_name (i := 1) scLaw.nd rfl (Or.inl rfl)) (pss_cons (ps_set (i := 2) scLaw.nd rfl (Or.inl rfl) (pe_call GX (hr.mono (by decide)) (by rfl) mX kX bX .nil pass0 (pa_cons (pe_call GP (hr.mono (by decide)) (by rfl) mP kP bP .nil pass0 (pa_cons (pv 0) (pa_cons pe_int pa_nil))) pa_nil)))
      (pss_cons (ps_set (i := 3) scLaw.nd rfl (Or.inl rfl) (pe_call GD (hr.mono (by decide)) (by rfl) mD kD bD .nil pass0 (pa_cons (pe_call GC (hr.mono (by decide)) (by rfl) mC kC bC .nil pass0 (pa_cons (pv 0) (pa_cons (pe_op op_add pe_int (pv 1)) pa_nil))) (pa_cons (pe_op op_add pe_int (pv 1)) (pa_cons pe_int pa_nil)))))
      (pss_cons (ps_set (i := 4) scLaw.nd rfl (Or.inl rfl) (pe_bm PySem.F.plainAttrs_str PySem.F.slot_str_split PySem.F.type_str_split mt_split (pv 2) (pa_cons pe_str pa_nil)))
      (pss_cons (ps_for PassesOwn.never rfl (pi_range1 rfl T.range (pa_cons (pe_op op_add pe_int (pe_op op_mod (pe_ix ix_list (pv 3) pe_int (fun _ _ => rfl)) pe_int)) pa_nil)) (pg_name (i := 5) scLaw.nd rfl (Or.inl rfl)) (pss_one (ps_set (i := 4) scLaw.nd rfl (Or.inl rfl) (pe_call GJ (hr.mono (by decide)) (by rfl) mJ kJ bJ .nil pass0 (pa_cons (pv 4) (pa_cons (pe_slice sl_list (pv 3) (po_some (pe_op op_mul pe_int (pv 5))) po_none) (pa_cons (pe_op op_mod (pe_op op_fdivB (pe_ix ix_list (pv 3) pe_int (fun _ _ => rfl)) (pe_op op_add pe_int (pv 5))) pe_int) pa_nil)))))))
      (pss_cons (ps_set (i := 6) scLaw.nd rfl (Or.inl rfl) (pe_bm PySem.F.plainAttrs_str PySem.F.slot_str_join PySem.F.type_str_join mt_join pe_str (pa_cons (pv 4) pa_nil)))
      (pss_cons (ps_if (pt_cmpR (op_neW hu6) (pe_call GT_ hr (by rfl) mT_ kT_ bT_ .nil pass0 (pa_cons (pv 6) pa_nil)) (pe_call GU (hr.mono (by decide)) (by rfl) mU kU bU .nil pass0 (pa_cons (pv 6) pa_nil)) (nomark _)) (pss_one (ps_ret pe_bl)) pss_nil)
      (pss_cons (ps_if (pt_cmpR (op_neW hu6) (pe_call GT_ hr (by rfl) mT_ kT_ bT_ .nil pass0 (pa_cons (pv 2) pa_nil)) (pe_call GU (hr.mono (by decide)) (by rfl) mU kU bU .nil pass0 (pa_cons (pv 2) pa_nil)) (nomark _)) (pss_one (ps_ret pe_bl)) pss_nil)
      (pss_cons (ps_if (pt_not (pt_val (pe_callB call_isinst (by rfl) T.isi bt_isi (pa_cons (pe_call GU (hr.mono (by decide)) (by rfl) mU kU bU .nil pass0 (pa_cons (pv 2) pa_nil)) (pa_cons (pe_bltn (v := .ty "dict") (by rfl) T.dict bt_dict rfl) pa_nil))))) (pss_one (ps_ret pe_bl)) pss_nil)
      (pss_cons (ps_set (i := 7) scLaw.nd rfl (Or.inl rfl) (pe_ix ix_list (pe_lstS (.cons pe_non (.cons pe_int (.cons pe_bl (.cons (pe_lst (pa_cons (pv 2) pa_nil)) (.cons (pe_tup (pa_cons (pv 2) pa_nil)) (.cons (pe_disp (pps_cons pe_str (pe_lst pa_nil) pps_nil) rfl rfl (List.cons_ne_nil _ _) (Nat.le_of_ble_eq_true rfl)) .nil))))))) (pe_op op_mod (pe_ix ix_list (pv 3) pe_int (fun _ _ => rfl)) pe_int) (fun _ _ => rfl)))
      (pss_one (ps_if (pt_cmpR op_ne (pe_call GT_ hr (by rfl) mT_ kT_ bT_ .nil pass0 (pa_cons (pv 7) pa_nil)) pe_int (nomark _)) (pss_one (ps_ret pe_bl)) pss_nil)))))))))))))
      (pssx_one (psx_of (ps_ret (pe_cmpR op_eq (pe_call GT_ hr (by rfl) mT_ kT_ bT_ .nil pass0 (pa_cons pe_str pa_nil)) pe_int (nomark _)))))) ?_
    refine ⟨_, rfl, a, _, rfl, .inl hS, _, _, rfl, rfl, _, _, rfl, _, _, rfl, _, _, rfl, rfl, ?_⟩
    have hN : ∀ z : Int, -(2 ^ 62) ≤ (1 : Int) + (if (if z > 0 then z else 0) < 8 then (if z > 0 then z else 0) else 8) ∧ (1 : Int) + (if (if z > 0 then z else 0) < 8 then (if z > 0 then z else 0) else 8) < 2 ^ 62 ∧ ((1 : Int) + (if (if z > 0 then z else 0) < 8 then (if z > 0 then z else 0) else 8)).toNat ≤ 9 := fun z => by
      by_cases c : z > 0
      · rw [if_pos c]
        by_cases d : z < 8
        · rw [if_pos d]; omega
        · rw [if_neg d]; omega
      · rw [if_neg c, if_pos (by decide)]; omega
    refine ⟨_, rfl, (hN _).1, (hN _).2.1, ?_⟩
    have hn9 := (hN ((((ns.map V.int).length : Nat) : Int) - 4)).2.2
    refine for_range (lo := 0) (n := _) (fun i σ G => ∃ (v1 v2 v3 v4 v5 v6 v7 : Option V), σ = [some (.ref a), v1, v2, v3, v4, v5, v6, v7] ∧ Same H G) ?_ ?_ ?_
    · exact ⟨none, none, none, none, none, none, none, rfl, .refl _⟩
    rotate_left
    · rintro σ G ⟨v1, v2, v3, v4, v5, v6, v7, rfl, s⟩
      refine ⟨.str "", rfl, .inr ⟨"", rfl, ⟨by decide +kernel, Nat.zero_le _⟩, dur_go fun v G1 s1 hv => ?_⟩⟩
      rw [rd_nil] at hv
      have hv : v = .int ((0 : Nat) : Int) := hv
      subst hv
      exact ⟨rfl, k _⟩
    rintro i σ G hi ⟨v1, v2, v3, v4, v5, v6, v7, rfl, s0⟩
    have e0 : (0 : Int) + (i : Int) = (i : Int) := by omega
    rw [e0]
    have hi9 : i < 9 := Nat.lt_of_lt_of_le hi hn9
    refine ⟨_, rfl, a, ns, 0, rfl, s0.seq hS, by decide, fun p us q G1 s1 np hp hus hg => ?_⟩
    refine ⟨p, us, q, rfl, hp, hus, hg, fun G2 s2 => ?_⟩
    have S2 := (s0.trans s1).trans s2
    refine ⟨_, rfl, _, rfl, _, _, rfl, rfl, a, ns, _, rfl, S2.seq hS, (by show (0 : Int) ≤ 4 + (i : Int); omega), fun c => ?_⟩
    refine ⟨_, rfl, _, _, rfl, rfl, c, 30 + i, 12, rfl, by decide, by omega, fun lx ms G3 s3 nlx hlx hml hmb => ?_⟩
    have S3 := S2.trans s3
    clear s0 s1 s2 s3 S2 hp hus
    have ha := tx_asc hg
    refine ⟨_, rfl, rfl, q.tx, "\n", rfl, rfl, by decide, Nat.lt_of_le_of_lt ha.2 (by decide), fun lw nw => ?_⟩
    rw [tx_split hg]
    have t4 := same_new (o := .lst (q.ls.map V.str)) nw
    have h4 : upd G3 lw (.lst (q.ls.map V.str)) lw = _ := upd_same
    have S4 := S3.trans t4
    have hx4 := t4 _ _ hlx
    generalize upd G3 lw (.lst (q.ls.map V.str)) = G4 at t4 h4 S4 hx4 ⊢
    clear S3 t4
    obtain ⟨x9, _, e9⟩ := at_ms (ms := ms) (j := 9) (by decide) (by rw [hml]; decide)
    obtain ⟨x10, _, e10⟩ := at_ms (ms := ms) (j := 10) (by decide) (by rw [hml]; decide)
    obtain ⟨x11, _, e11⟩ := at_ms (ms := ms) (j := 11) (by decide) (by rw [hml]; decide)
    refine ⟨_, rfl, lx, _, 10, _, rfl, rfl, SqL.of hx4, e10, _, _, rfl, rfl, (by show (0 : Int) < 2; decide), _, _, rfl, rfl, ?_⟩
    have hx2 : 0 ≤ x10 % 2 ∧ x10 % 2 < 2 := ⟨Int.emod_nonneg _ (by decide), Int.emod_lt_of_pos _ (by decide)⟩
    refine ⟨_, rfl, by show -(2 ^ 62) ≤ 1 + x10 % 2; omega, by show 1 + x10 % 2 < 2 ^ 62; omega, ?_⟩
    refine for_range (lo := 0) (n := (1 + x10 % 2).toNat) (fun j σ G => ∃ (v5 v6 v7 : Option V) (lw : Addr) (rs : List Str), σ = [some (.ref a), some (.int (i : Int)), some (.str q.tx), some (.ref lx), some (.ref lw), v5, v6, v7] ∧ Same G4 G ∧ G lw = some (.lst (rs.map V.str)) ∧ rs ≠ [] ∧ GB (Rf j) (Mf j) (4 + j) rs) ?_ ?_ ?_
    · exact ⟨_, _, _, lw, q.ls, rfl, .refl _, h4, List.cons_ne_nil _ _, gb_ls hg⟩
    · rintro j σ G hj ⟨v5, v6, v7, lw, rs, rfl, s5, hw5, hne, hgb⟩
      have e0 : (0 : Int) + (j : Int) = (j : Int) := by omega
      rw [e0]
      have hj2 : j < 2 := by omega
      have hx5 := s5 _ _ hx4
      have cm : CMul 5 (j : Int) := .inl ⟨by decide, by decide⟩
      refine ⟨_, rfl, _, rfl, _, rfl, _, _, rfl, rfl, .inl ⟨by decide, by decide⟩, _, rfl, lx, _, rfl, SqL.of hx5, fun l7 n7 => ?_⟩
      rw [show cutV (ms.map V.int) (some ((5 : Int) * (j : Int))) none = cutV (ms.map V.int) (some ((5 * j : Nat) : Int)) none by rw [show (5 : Int) * (j : Int) = ((5 * j : Nat) : Int) by omega], cut_drop, ← List.map_drop]
      have t7 := same_new (o := .lst ((ms.drop (5 * j)).map V.int)) n7
      have h7 : upd G l7 (.lst ((ms.drop (5 * j)).map V.int)) l7 = _ := upd_same
      have hx7 := t7 _ _ hx5
      have hw7 := t7 _ _ hw5
      generalize upd G l7 (.lst ((ms.drop (5 * j)).map V.int)) = G7 at t7 h7 hx7 hw7 ⊢
      refine ⟨_, rfl, lx, _, 11, _, rfl, rfl, SqL.of hx7, e11, _, rfl, _, _, rfl, rfl, _, _, rfl, rfl, ⟨by show (0 : Int) < 1 + (j : Int); omega, by show (1 : Int) + (j : Int) < _; omega⟩, _, _, rfl, rfl, (by show (0 : Int) < 3; decide), ?_⟩
      refine ⟨lw, l7, rs, ms.drop (5 * j), Rf j, Mf j, 4 + j, _, rfl, hw7, h7, by rw [List.length_drop, hml]; omega, hne, hgb, ?_, by omega, fun l8 rs8 G8 t8 h8 hne8 hg8 => ?_⟩
      · exact Rf_le j hj2
      · exact ⟨_, _, _, l8, rs8, rfl, (s5.trans t7).trans t8, h8, hne8, hg8⟩
    · rintro σ G5 ⟨v5, v6, v7, lw, rs, rfl, s5, hw5, hne, hgb⟩
      have hM : Mf (1 + x10 % 2).toNat ≤ 2600 := by
        rcases (by omega : x10 % 2 = 0 ∨ x10 % 2 = 1) with e | e
        · rw [e]; decide +kernel
        · rw [e]; decide +kernel
      have htot := hgb.tot
      have hll := hgb.len
      have hasc : Asc (Txt.join "\n" rs) := ⟨al_join (c := 10) (by decide) fun r hr => (hgb.al r hr).1, Nat.le_trans (join_le (c := 10) rs) (by omega)⟩
      have hjo : JoinOk "\n" rs = true := join_ok (small_len (by
        have h3 : rs.length * ("\n" : Str).length = rs.length := by rw [show ("\n" : Str).length = 1 from rfl, Nat.mul_one]
        have h0 : (rs.map (·.length)).sum ≤ jsz rs := by
          unfold jsz
          clear h3 htot hll hgb hasc hw5 hne
          induction rs with
          | nil => exact Nat.le_refl _
          | cons a r ih => rw [List.map_cons, List.map_cons, List.sum_cons, List.sum_cons]; have : a.length = a.cps.size := rfl; omega
        omega))
      refine ⟨rfl, _, rfl, "\n", lw, rs, rfl, rfl, SqL.of hw5, hjo, ?_⟩
      have S5 := S4.trans s5
      have hx5 := s5 _ _ hx4
      clear s5 hw5 hjo hgb
      generalize Txt.join "\n" rs = bt at hasc
      refine ⟨_, rfl, .str bt, rfl, .inr ⟨bt, rfl, hasc, dur_go fun v G6 t6 hv => ?_⟩⟩
      refine ⟨_, rfl, bt, rfl, hasc, dur_go fun u G7 t7 hu => ne_go (hv.same t7) hu ⟨_, rfl, iteN (by decide) ?_⟩⟩
      refine ⟨_, rfl, .str q.tx, rfl, .inr ⟨q.tx, rfl, ha, dur_go fun v G8 t8 hv => ?_⟩⟩
      refine ⟨_, rfl, q.tx, rfl, ha, dur_go fun u G9 t9 hu => ne_go (hv.same t9) hu ⟨_, rfl, iteN (by decide) ?_⟩⟩
      refine ⟨_, rfl, q.tx, rfl, ha, dur_go fun u G10 t10 hu => ?_⟩
      rw [rdPaper_tx hg] at hu
      obtain ⟨p2, vs2, rfl, hp2, _⟩ := hu
      refine ⟨_, _, _, _, rfl, .dK hp2, kit_eq (by decide), _, rfl, iteN (by show ¬ (!true) = true; decide) ?_⟩
      have T10 := (((t6.trans t7).trans t8).trans t9).trans t10
      have S10 := S5.trans T10
      have hx10 := T10 _ _ hx5
      clear S5 T10 t6 t7 t8 t9 t10
      -- what is no text
      refine ⟨_, rfl, Nat.le_of_ble_eq_true rfl, fun l1 n1 => ?_⟩
      have u1 := same_new (o := .lst [V.str q.tx]) n1
      have k1 : upd G10 l1 (.lst [V.str q.tx]) l1 = _ := upd_same
      generalize upd G10 l1 (.lst [V.str q.tx]) = Ga at u1 k1 ⊢
      refine ⟨_, rfl, Nat.le_of_ble_eq_true rfl, fun l2 n2 => ?_⟩
      have u2 := same_new (o := .tup [V.str q.tx]) n2
      have k2 : upd Ga l2 (.tup [V.str q.tx]) l2 = _ := upd_same
      have k12 := u2 _ _ k1
      generalize upd Ga l2 (.tup [V.str q.tx]) = Gb at u2 k2 k12 ⊢
      refine fun pd npd => ?_
      have u3 := same_new (o := .dK []) npd
      have k3 : upd Gb pd (.dK []) pd = _ := upd_same
      have k13 := u3 _ _ k12
      have k23 := u3 _ _ k2
      have npd10 : G10 pd = none := (u1.trans u2).free npd
      generalize upd Gb pd (.dK []) = Gc at u3 k3 k13 k23 ⊢
      refine ⟨Nat.le_of_ble_eq_true rfl, fun l3 n3 => ?_⟩
      have u4 := same_new (o := .lst []) n3
      have k34 := u4 _ _ k3
      have k14 := u4 _ _ k13
      have k24 := u4 _ _ k23
      have U4 := ((u1.trans u2).trans u3).trans u4
      generalize upd Gc l3 (.lst []) = Gd at u4 k34 k14 k24 U4 ⊢
      refine ⟨k34, [(Sum.inr "leads", .ref l3)], rfl, Nat.le_of_ble_eq_true rfl, ?_⟩
      have U5 := same_put (o := .dK (mergeK [] [(Sum.inr "leads", .ref l3)])) U4 npd10
      have k35 : upd Gd pd (.dK (mergeK [] [(Sum.inr "leads", .ref l3)])) pd = _ := upd_same
      have k15 : upd Gd pd (.dK (mergeK [] [(Sum.inr "leads", .ref l3)])) l1 = _ := (upd_ne (fun z => by rw [z, k34] at k14; cases k14)).trans k14
      have k25 : upd Gd pd (.dK (mergeK [] [(Sum.inr "leads", .ref l3)])) l2 = _ := (upd_ne (fun z => by rw [z, k34] at k24; cases k24)).trans k24
      generalize upd Gd pd (.dK (mergeK [] [(Sum.inr "leads", .ref l3)])) = Ge at U5 k35 k15 k25 ⊢
      refine ⟨Nat.le_of_ble_eq_true rfl, fun l6 n6 => ?_⟩
      have u6 := same_new (o := .lst [V.non, .int 7, .bl true, .ref l1, .ref l2, .ref pd]) n6
      have k66 : upd Ge l6 (.lst [V.non, .int 7, .bl true, .ref l1, .ref l2, .ref pd]) l6 = _ := upd_same
      have k36 := u6 _ _ k35
      have k16 := u6 _ _ k15
      have k26 := u6 _ _ k25
      have U6 := U5.trans u6
      have hx6 := U6 _ _ hx10
      generalize upd Ge l6 (.lst [V.non, .int 7, .bl true, .ref l1, .ref l2, .ref pd]) = Gf at k66 k36 k16 k26 U6 hx6 ⊢
      obtain ⟨cc, hc, hcl⟩ := modN x9 (n := 6) (by decide)
      have hth : ∃ v t, ([V.non, .int 7, .bl true, .ref l1, .ref l2, .ref pd] : List V)[cc]? = some v ∧ TyOf K Gf v t ∧ PySem.W.kitOne K t (.type "str") = some false := by
        match cc, hcl with
        | 0, _ => exact ⟨_, _, rfl, .non, kD_str .non⟩
        | 1, _ => exact ⟨_, _, rfl, .int 7, kD_str (.int 7)⟩
        | 2, _ => exact ⟨_, _, rfl, .bl true, kD_str (.bl true)⟩
        | 3, _ => exact ⟨_, _, rfl, .lst k16, kD_str (.lst [])⟩
        | 4, _ => exact ⟨_, _, rfl, .tup k26, kD_str (.tup [])⟩
        | 5, _ => exact ⟨_, _, rfl, .dK k36, (show PySem.W.kitOne K (.type "dict") (.type "str") = some false from kit_ty (by decide) (by decide +kernel) (by decide +kernel))⟩
      obtain ⟨v, t, hv, hty, hkit⟩ := hth
      refine ⟨_, rfl, lx, _, 9, _, rfl, rfl, SqL.of hx6, e9, _, _, rfl, rfl, (by show (0 : Int) < 6; decide), l6, _, _, v, rfl, rfl, SqL.of k66, ?_, ?_⟩
      · show atI _ (x9 % 6) = _
        rw [show x9 % 6 = (cc : Int) from hc]
        exact atI_nat hv
      refine ⟨_, rfl, v, rfl, .inl ⟨t, hty, hkit, fun Gg t7 => ?_⟩⟩
      refine ⟨rfl, _, rfl, iteN (by rw [decide_eq_true rfl]; decide) ?_⟩
      exact ⟨_, _, _, _, _, _, _, rfl, (S10.trans U6).trans t7⟩
end
end My


set_option Elab.async false
set_option linter.all false
set_option maxRecDepth 100000
set_option maxHeartbeats 4000000
namespace My
open PySem L2
abbrev sXI : Stmt := inClass (top 3) 0
section
variable {P : Program} {w : World} {K : PySem.W.Frag} {mg : Str → Option Value} {base : Heap}
theorem scXI : FnScope ["self", "at"] ["self", "at"] (defScope sXI) := ⟨rfl, rfl, rfl, by decide +kernel, rfl, by decide +kernel, by decide +kernel⟩
theorem ok_xi {f C R : Addr} {fd : FuncData} (F : Fun K "__init__" "NoText.__init__" sXI f fd) (c : XIni K C R f) (hm : mg "RowError" = some (.ref R)) : FnOk P w K mg base CX0 1 f fd ["self", "at"] (spXI C) := by
  refine F.ok scXI (fun vs H Q E h => ?_) (fun cdv A outer s H vs Q E hr h => ?_)
  · obtain ⟨e, i, rfl, _⟩ := h
    rfl
  · obtain ⟨e, i, rfl, he, hi, k⟩ := h
    refine ⟨_, pss_cons (ps_expr (pe_xini c (by rfl) hm (pa_cons (pv 0) (pa_cons (pe_fstr (pv 1) (by decide)) pa_nil)))) (pss_one (ps_xat c (pv 0) (pv 1) rfl)), ?_⟩
    refine ⟨_, rfl, _, rfl, i, rfl, hi, fun u => ⟨e, _, rfl, he, ?_⟩⟩
    refine ⟨_, rfl, _, rfl, e, rfl, upd_same, fun d nd de => ?_⟩
    rw [upd3 de]
    rw [upd_ne de] at nd
    exact k d nd de
end
end My


set_option Elab.async false
set_option linter.all false
set_option maxRecDepth 100000
set_option maxHeartbeats 8000000
namespace PySem.W.Fast
def tw2301445616852095389 : Nat := 0
def tw17342228236489315792 : Nat := 0
def tw879754899202125752 : Nat := 0
def tw12586306161733405474 : Nat := 0
def tw14712503005524713947 : Nat := 0
def tw379604746899933987 : Nat := 0
def tw15370795695278785886 : Nat := 0
def tw4689581314558510806 : Nat := 0
def tw2989369907177336907 : Nat := 0
def tw8057135001078067030 : Nat := 0
def tw13382162381333670202 : Nat := 0
def tw3030046587919242225 : Nat := 0
end PySem.W.Fast
namespace My
open PySem L2
/-! ### what the top has written, and the law's own head -/
theorem all_mk {l : PySem.W.OpenLaw} {w : World} {K : PySem.W.Frag} {h : Heap} {mg : Str → Option Value} {fa f0 f1 f2 f3 f4 f5 f6 f7 f8 f9 f10 f11 f12 f13 f14 f15 f16 f17 f18 f19 f20 f21 f22 f23 f24 : Addr} (X : K.In h) (G : h.Ns mainGlobals mg) (hfa : mg "law" = some (.ref fa))
    {od0 an0 od1 an1 od2 an2 od3 an3 od4 an4 od5 an5 od6 an6 od7 an7 od8 an8 od9 an9 od10 an10 od11 an11 od12 an12 od13 an13 od14 an14 od15 an15 od16 an16 od17 an17 od18 an18 od19 an19 od20 an20 od21 an21 od22 an22 od23 an23 od24 an24 : Option Addr} {sl0 sl1 sl2 sl3 sl4 sl5 sl6 sl7 sl8 sl9 sl10 sl11 sl12 sl13 sl14 sl15 sl16 sl17 sl18 sl19 sl20 sl21 sl22 sl23 sl24 : Array (Option Value)} {oc0 kV0 dc0 pm0 cd0 ct0 oc1 kV1 dc1 pm1 cd1 ct1 oc2 kV2 dc2 pm2 cd2 ct2 oc3 kV3 dc3 pm3 cd3 ct3 oc4 kV4 dc4 pm4 cd4 ct4 oc5 kV5 dc5 pm5 cd5 ct5 oc6 kV6 dc6 pm6 cd6 ct6 oc7 kV7 dc7 pm7 cd7 ct7 oc8 kV8 dc8 pm8 cd8 ct8 oc9 kV9 dc9 pm9 cd9 ct9 oc10 kV10 dc10 pm10 cd10 ct10 oc11 kV11 dc11 pm11 cd11 ct11 oc12 kV12 dc12 pm12 cd12 ct12 oc13 kV13 dc13 pm13 cd13 ct13 oc14 kV14 dc14 pm14 cd14 ct14 oc15 kV15 dc15 pm15 cd15 ct15 oc16 kV16 dc16 pm16 cd16 ct16 oc17 kV17 dc17 pm17 cd17 ct17 oc18 kV18 dc18 pm18 cd18 ct18 oc19 kV19 dc19 pm19 cd19 ct19 oc20 kV20 dc20 pm20 cd20 ct20 oc21 kV21 dc21 pm21 cd21 ct21 oc22 kV22 dc22 pm22 cd22 ct22 oc23 kV23 dc23 pm23 cd23 ct23 oc24 kV24 dc24 pm24 cd24 ct24 : Value}
    (a0 : PySem.W.nsIn K mainGlobals "is_whole" = some (some (.ref f0))) (l0 : K.lookup f0 = some ⟨oc0, od0, .func (PySem.W.fnOf "is_whole" "is_whole" (defArgs s_is_whole) (defBody s_is_whole) (defScope s_is_whole) .none kV0 dc0 pm0 an0 cd0 ct0), sl0⟩) (c0 : PySem.W.codeIn K cd0 "is_whole" = true) (k0 : PySem.W.keepIn K (.ref f0) = true)
    (a1 : PySem.W.nsIn K mainGlobals "is_number_of" = some (some (.ref f1))) (l1 : K.lookup f1 = some ⟨oc1, od1, .func (PySem.W.fnOf "is_number_of" "is_number_of" (defArgs s_is_number_of) (defBody s_is_number_of) (defScope s_is_number_of) .none kV1 dc1 pm1 an1 cd1 ct1), sl1⟩) (c1 : PySem.W.codeIn K cd1 "is_number_of" = true) (k1 : PySem.W.keepIn K (.ref f1) = true)
    (a2 : PySem.W.nsIn K mainGlobals "is_figures" = some (some (.ref f2))) (l2 : K.lookup f2 = some ⟨oc2, od2, .func (PySem.W.fnOf "is_figures" "is_figures" (defArgs s_is_figures) (defBody s_is_figures) (defScope s_is_figures) .none kV2 dc2 pm2 an2 cd2 ct2), sl2⟩) (c2 : PySem.W.codeIn K cd2 "is_figures" = true) (k2 : PySem.W.keepIn K (.ref f2) = true)
    (a3 : PySem.W.nsIn K mainGlobals "read_number" = some (some (.ref f3))) (l3 : K.lookup f3 = some ⟨oc3, od3, .func (PySem.W.fnOf "read_number" "read_number" (defArgs s_read_number) (defBody s_read_number) (defScope s_read_number) .none kV3 dc3 pm3 an3 cd3 ct3), sl3⟩) (c3 : PySem.W.codeIn K cd3 "read_number" = true) (k3 : PySem.W.keepIn K (.ref f3) = true)
    (a4 : PySem.W.nsIn K mainGlobals "read_number_of" = some (some (.ref f4))) (l4 : K.lookup f4 = some ⟨oc4, od4, .func (PySem.W.fnOf "read_number_of" "read_number_of" (defArgs s_read_number_of) (defBody s_read_number_of) (defScope s_read_number_of) .none kV4 dc4 pm4 an4 cd4 ct4), sl4⟩) (c4 : PySem.W.codeIn K cd4 "read_number_of" = true) (k4 : PySem.W.keepIn K (.ref f4) = true)
    (a5 : PySem.W.nsIn K mainGlobals "read_lead" = some (some (.ref f5))) (l5 : K.lookup f5 = some ⟨oc5, od5, .func (PySem.W.fnOf "read_lead" "read_lead" (defArgs s_read_lead) (defBody s_read_lead) (defScope s_read_lead) .none kV5 dc5 pm5 an5 cd5 ct5), sl5⟩) (c5 : PySem.W.codeIn K cd5 "read_lead" = true) (k5 : PySem.W.keepIn K (.ref f5) = true)
    (a6 : PySem.W.nsIn K mainGlobals "read_form" = some (some (.ref f6))) (l6 : K.lookup f6 = some ⟨oc6, od6, .func (PySem.W.fnOf "read_form" "read_form" (defArgs s_read_form) (defBody s_read_form) (defScope s_read_form) .none kV6 dc6 pm6 an6 cd6 ct6), sl6⟩) (c6 : PySem.W.codeIn K cd6 "read_form" = true) (k6 : PySem.W.keepIn K (.ref f6) = true)
    (a7 : PySem.W.nsIn K mainGlobals "read_boxes" = some (some (.ref f7))) (l7 : K.lookup f7 = some ⟨oc7, od7, .func (PySem.W.fnOf "read_boxes" "read_boxes" (defArgs s_read_boxes) (defBody s_read_boxes) (defScope s_read_boxes) .none kV7 dc7 pm7 an7 cd7 ct7), sl7⟩) (c7 : PySem.W.codeIn K cd7 "read_boxes" = true) (k7 : PySem.W.keepIn K (.ref f7) = true)
    (a8 : PySem.W.nsIn K mainGlobals "read_count" = some (some (.ref f8))) (l8 : K.lookup f8 = some ⟨oc8, od8, .func (PySem.W.fnOf "read_count" "read_count" (defArgs s_read_count) (defBody s_read_count) (defScope s_read_count) .none kV8 dc8 pm8 an8 cd8 ct8), sl8⟩) (c8 : PySem.W.codeIn K cd8 "read_count" = true) (k8 : PySem.W.keepIn K (.ref f8) = true)
    (a9 : PySem.W.nsIn K mainGlobals "read_things" = some (some (.ref f9))) (l9 : K.lookup f9 = some ⟨oc9, od9, .func (PySem.W.fnOf "read_things" "read_things" (defArgs s_read_things) (defBody s_read_things) (defScope s_read_things) .none kV9 dc9 pm9 an9 cd9 ct9), sl9⟩) (c9 : PySem.W.codeIn K cd9 "read_things" = true) (k9 : PySem.W.keepIn K (.ref f9) = true)
    (a10 : PySem.W.nsIn K mainGlobals "read_paper" = some (some (.ref f10))) (l10 : K.lookup f10 = some ⟨oc10, od10, .func (PySem.W.fnOf "read_paper" "read_paper" (defArgs s_read_paper) (defBody s_read_paper) (defScope s_read_paper) .none kV10 dc10 pm10 an10 cd10 ct10), sl10⟩) (c10 : PySem.W.codeIn K cd10 "read_paper" = true) (k10 : PySem.W.keepIn K (.ref f10) = true)
    (a11 : PySem.W.nsIn K mainGlobals "_law_cell_at" = some (some (.ref f11))) (l11 : K.lookup f11 = some ⟨oc11, od11, .func (PySem.W.fnOf "_law_cell_at" "_law_cell_at" (defArgs s_law_cell_at) (defBody s_law_cell_at) (defScope s_law_cell_at) .none kV11 dc11 pm11 an11 cd11 ct11), sl11⟩) (c11 : PySem.W.codeIn K cd11 "_law_cell_at" = true) (k11 : PySem.W.keepIn K (.ref f11) = true)
    (a12 : PySem.W.nsIn K mainGlobals "_law_draws" = some (some (.ref f12))) (l12 : K.lookup f12 = some ⟨oc12, od12, .func (PySem.W.fnOf "_law_draws" "_law_draws" (defArgs s_law_draws) (defBody s_law_draws) (defScope s_law_draws) .none kV12 dc12 pm12 an12 cd12 ct12), sl12⟩) (c12 : PySem.W.codeIn K cd12 "_law_draws" = true) (k12 : PySem.W.keepIn K (.ref f12) = true)
    (a13 : PySem.W.nsIn K mainGlobals "_law_leads" = some (some (.ref f13))) (l13 : K.lookup f13 = some ⟨oc13, od13, .func (PySem.W.fnOf "_law_leads" "_law_leads" (defArgs s_law_leads) (defBody s_law_leads) (defScope s_law_leads) .none kV13 dc13 pm13 an13 cd13 ct13), sl13⟩) (c13 : PySem.W.codeIn K cd13 "_law_leads" = true) (k13 : PySem.W.keepIn K (.ref f13) = true)
    (a14 : PySem.W.nsIn K mainGlobals "_law_boxes" = some (some (.ref f14))) (l14 : K.lookup f14 = some ⟨oc14, od14, .func (PySem.W.fnOf "_law_boxes" "_law_boxes" (defArgs s_law_boxes) (defBody s_law_boxes) (defScope s_law_boxes) .none kV14 dc14 pm14 an14 cd14 ct14), sl14⟩) (c14 : PySem.W.codeIn K cd14 "_law_boxes" = true) (k14 : PySem.W.keepIn K (.ref f14) = true)
    (a15 : PySem.W.nsIn K mainGlobals "_law_paper" = some (some (.ref f15))) (l15 : K.lookup f15 = some ⟨oc15, od15, .func (PySem.W.fnOf "_law_paper" "_law_paper" (defArgs s_law_paper) (defBody s_law_paper) (defScope s_law_paper) .none kV15 dc15 pm15 an15 cd15 ct15), sl15⟩) (c15 : PySem.W.codeIn K cd15 "_law_paper" = true) (k15 : PySem.W.keepIn K (.ref f15) = true)
    (a16 : PySem.W.nsIn K mainGlobals "_law_text" = some (some (.ref f16))) (l16 : K.lookup f16 = some ⟨oc16, od16, .func (PySem.W.fnOf "_law_text" "_law_text" (defArgs s_law_text) (defBody s_law_text) (defScope s_law_text) .none kV16 dc16 pm16 an16 cd16 ct16), sl16⟩) (c16 : PySem.W.codeIn K cd16 "_law_text" = true) (k16 : PySem.W.keepIn K (.ref f16) = true)
    (a17 : PySem.W.nsIn K mainGlobals "_law_number" = some (some (.ref f17))) (l17 : K.lookup f17 = some ⟨oc17, od17, .func (PySem.W.fnOf "_law_number" "_law_number" (defArgs s_law_number) (defBody s_law_number) (defScope s_law_number) .none kV17 dc17 pm17 an17 cd17 ct17), sl17⟩) (c17 : PySem.W.codeIn K cd17 "_law_number" = true) (k17 : PySem.W.keepIn K (.ref f17) = true)
    (a18 : PySem.W.nsIn K mainGlobals "_law_thing" = some (some (.ref f18))) (l18 : K.lookup f18 = some ⟨oc18, od18, .func (PySem.W.fnOf "_law_thing" "_law_thing" (defArgs s_law_thing) (defBody s_law_thing) (defScope s_law_thing) .none kV18 dc18 pm18 an18 cd18 ct18), sl18⟩) (c18 : PySem.W.codeIn K cd18 "_law_thing" = true) (k18 : PySem.W.keepIn K (.ref f18) = true)
    (a19 : PySem.W.nsIn K mainGlobals "_law_due" = some (some (.ref f19))) (l19 : K.lookup f19 = some ⟨oc19, od19, .func (PySem.W.fnOf "_law_due" "_law_due" (defArgs s_law_due) (defBody s_law_due) (defScope s_law_due) .none kV19 dc19 pm19 an19 cd19 ct19), sl19⟩) (c19 : PySem.W.codeIn K cd19 "_law_due" = true) (k19 : PySem.W.keepIn K (.ref f19) = true)
    (a20 : PySem.W.nsIn K mainGlobals "_law_told" = some (some (.ref f20))) (l20 : K.lookup f20 = some ⟨oc20, od20, .func (PySem.W.fnOf "_law_told" "_law_told" (defArgs s_law_told) (defBody s_law_told) (defScope s_law_told) .none kV20 dc20 pm20 an20 cd20 ct20), sl20⟩) (c20 : PySem.W.codeIn K cd20 "_law_told" = true) (k20 : PySem.W.keepIn K (.ref f20) = true)
    (a21 : PySem.W.nsIn K mainGlobals "_law_by_word" = some (some (.ref f21))) (l21 : K.lookup f21 = some ⟨oc21, od21, .func (PySem.W.fnOf "_law_by_word" "_law_by_word" (defArgs s_law_by_word) (defBody s_law_by_word) (defScope s_law_by_word) .none kV21 dc21 pm21 an21 cd21 ct21), sl21⟩) (c21 : PySem.W.codeIn K cd21 "_law_by_word" = true) (k21 : PySem.W.keepIn K (.ref f21) = true)
    (a22 : PySem.W.nsIn K mainGlobals "_law_by_row" = some (some (.ref f22))) (l22 : K.lookup f22 = some ⟨oc22, od22, .func (PySem.W.fnOf "_law_by_row" "_law_by_row" (defArgs s_law_by_row) (defBody s_law_by_row) (defScope s_law_by_row) .none kV22 dc22 pm22 an22 cd22 ct22), sl22⟩) (c22 : PySem.W.codeIn K cd22 "_law_by_row" = true) (k22 : PySem.W.keepIn K (.ref f22) = true)
    (a23 : PySem.W.nsIn K mainGlobals "_law_bent" = some (some (.ref f23))) (l23 : K.lookup f23 = some ⟨oc23, od23, .func (PySem.W.fnOf "_law_bent" "_law_bent" (defArgs s_law_bent) (defBody s_law_bent) (defScope s_law_bent) .none kV23 dc23 pm23 an23 cd23 ct23), sl23⟩) (c23 : PySem.W.codeIn K cd23 "_law_bent" = true) (k23 : PySem.W.keepIn K (.ref f23) = true)
    (a24 : PySem.W.nsIn K mainGlobals "law" = some (some (.ref f24))) (l24 : K.lookup f24 = some ⟨oc24, od24, .func (PySem.W.fnOf "law" "law" (defArgs s_law) (defBody s_law) (defScope s_law) .none kV24 dc24 pm24 an24 cd24 ct24), sl24⟩) (c24 : PySem.W.codeIn K cd24 "law" = true) (k24 : PySem.W.keepIn K (.ref f24) = true)
    (z_len : PySem.W.nsIn K mainGlobals "len" = some none)
    (z_list : PySem.W.nsIn K mainGlobals "list" = some none)
    (z_tuple : PySem.W.nsIn K mainGlobals "tuple" = some none)
    (z_int : PySem.W.nsIn K mainGlobals "int" = some none)
    (z_bool : PySem.W.nsIn K mainGlobals "bool" = some none)
    (z_str : PySem.W.nsIn K mainGlobals "str" = some none)
    (z_dict : PySem.W.nsIn K mainGlobals "dict" = some none)
    (z_isinstance : PySem.W.nsIn K mainGlobals "isinstance" = some none)
    (z_enumerate : PySem.W.nsIn K mainGlobals "enumerate" = some none)
    (z_range : PySem.W.nsIn K mainGlobals "range" = some none)
    (z_min : PySem.W.nsIn K mainGlobals "min" = some none)
    (z_max : PySem.W.nsIn K mainGlobals "max" = some none)
    (z_all : PySem.W.nsIn K mainGlobals "all" = some none)
    (z_sorted : PySem.W.nsIn K mainGlobals "sorted" = some none)
    (z_set : PySem.W.nsIn K mainGlobals "set" = some none)
    (z_ValueError : PySem.W.nsIn K mainGlobals "ValueError" = some none)
    {pBOUNDS : Addr} {esBOUNDS : Array DictEntry} {nBOUNDS : Nat} (aBOUNDS : PySem.W.nsIn K mainGlobals "BOUNDS" = some (some (.ref pBOUNDS))) (lBOUNDS : K.lookup pBOUNDS = some ⟨.type "dict", none, .dict esBOUNDS nBOUNDS, #[]⟩) (kBOUNDS : PySem.W.KeysLit w.params esBOUNDS.toList) (oBOUNDS : (pBOUNDS == sysModules) = false)
    {qBOUNDS0 : Addr} {slBOUNDS0 : Array (Option Value)} {nBOUNDS0 : Nat} {tBOUNDS0_0 tBOUNDS0_1 : Tok} (eBOUNDS0 : PySem.W.nsIn K pBOUNDS "box" = some (some (.ref qBOUNDS0))) (lBOUNDS0 : K.lookup qBOUNDS0 = some ⟨.type "tuple", none, .seq #[.int (0) tBOUNDS0_0, .int (7) tBOUNDS0_1] nBOUNDS0, slBOUNDS0⟩)
    {qBOUNDS1 : Addr} {slBOUNDS1 : Array (Option Value)} {nBOUNDS1 : Nat} {tBOUNDS1_0 tBOUNDS1_1 : Tok} (eBOUNDS1 : PySem.W.nsIn K pBOUNDS "aside" = some (some (.ref qBOUNDS1))) (lBOUNDS1 : K.lookup qBOUNDS1 = some ⟨.type "tuple", none, .seq #[.int (0) tBOUNDS1_0, .int (1000000) tBOUNDS1_1] nBOUNDS1, slBOUNDS1⟩)
    {qBOUNDS2 : Addr} {slBOUNDS2 : Array (Option Value)} {nBOUNDS2 : Nat} {tBOUNDS2_0 tBOUNDS2_1 : Tok} (eBOUNDS2 : PySem.W.nsIn K pBOUNDS "target" = some (some (.ref qBOUNDS2))) (lBOUNDS2 : K.lookup qBOUNDS2 = some ⟨.type "tuple", none, .seq #[.int (0) tBOUNDS2_0, .int (1000000000) tBOUNDS2_1] nBOUNDS2, slBOUNDS2⟩)
    {qBOUNDS3 : Addr} {slBOUNDS3 : Array (Option Value)} {nBOUNDS3 : Nat} {tBOUNDS3_0 tBOUNDS3_1 : Tok} (eBOUNDS3 : PySem.W.nsIn K pBOUNDS "number" = some (some (.ref qBOUNDS3))) (lBOUNDS3 : K.lookup qBOUNDS3 = some ⟨.type "tuple", none, .seq #[.int (0) tBOUNDS3_0, .int (1000000) tBOUNDS3_1] nBOUNDS3, slBOUNDS3⟩)
    {qBOUNDS4 : Addr} {slBOUNDS4 : Array (Option Value)} {nBOUNDS4 : Nat} {tBOUNDS4_0 tBOUNDS4_1 : Tok} (eBOUNDS4 : PySem.W.nsIn K pBOUNDS "value" = some (some (.ref qBOUNDS4))) (lBOUNDS4 : K.lookup qBOUNDS4 = some ⟨.type "tuple", none, .seq #[.int (-1000000000) tBOUNDS4_0, .int (1000000000) tBOUNDS4_1] nBOUNDS4, slBOUNDS4⟩)
    {qBOUNDS5 : Addr} {slBOUNDS5 : Array (Option Value)} {nBOUNDS5 : Nat} {tBOUNDS5_0 tBOUNDS5_1 : Tok} (eBOUNDS5 : PySem.W.nsIn K pBOUNDS "far" = some (some (.ref qBOUNDS5))) (lBOUNDS5 : K.lookup qBOUNDS5 = some ⟨.type "tuple", none, .seq #[.int (0) tBOUNDS5_0, .int (1) tBOUNDS5_1] nBOUNDS5, slBOUNDS5⟩)
    {tFIGURES : Tok} (aFIGURES : PySem.W.nsIn K mainGlobals "FIGURES" = some (some (.str "0123456789" tFIGURES)))
    {pNAMES : Addr} {odNAMES : Option Addr} {slNAMES : Array (Option Value)} {nNAMES : Nat} {tNAMES0 tNAMES1 tNAMES2 tNAMES3 : Tok} (aNAMES : PySem.W.nsIn K mainGlobals "NAMES" = some (some (.ref pNAMES))) (lNAMES : K.lookup pNAMES = some ⟨.type "tuple", odNAMES, .seq #[.str "leads" tNAMES0, .str "forms" tNAMES1, .str "free" tNAMES2, .str "counts" tNAMES3] nNAMES, slNAMES⟩)
    {tNOTHING : Tok} (aNOTHING : PySem.W.nsIn K mainGlobals "NOTHING" = some (some (.str "-" tNOTHING)))
    {tMOST_FIGURES : Tok} (aMOST_FIGURES : PySem.W.nsIn K mainGlobals "MOST_FIGURES" = some (some (.int (10) tMOST_FIGURES)))
    {pREADERS : Addr} {esREADERS : Array DictEntry} {nREADERS : Nat} (aREADERS : PySem.W.nsIn K mainGlobals "READERS" = some (some (.ref pREADERS))) (lREADERS : K.lookup pREADERS = some ⟨.type "dict", none, .dict esREADERS nREADERS, #[]⟩) (kREADERS : PySem.W.KeysLit w.params esREADERS.toList) (oREADERS : (pREADERS == sysModules) = false)
    (eREADERS0 : PySem.W.nsIn K pREADERS "leads" = some (some (.ref f5)))
    (eREADERS1 : PySem.W.nsIn K pREADERS "forms" = some (some (.ref f6)))
    (eREADERS2 : PySem.W.nsIn K pREADERS "free" = some (some (.ref f7)))
    (eREADERS3 : PySem.W.nsIn K pREADERS "counts" = some (some (.ref f8)))
    {cNoText : Addr} (xNoText : PySem.W.nsIn K mainGlobals "NoText" = some (some (.ref cNoText)))
    {cRowError : Addr} (xRowError : PySem.W.nsIn K mainGlobals "RowError" = some (some (.ref cRowError)))
    {cNoLine : Addr} (xNoLine : PySem.W.nsIn K mainGlobals "NoLine" = some (some (.ref cNoLine)))
    {cNoPaper : Addr} (xNoPaper : PySem.W.nsIn K mainGlobals "NoPaper" = some (some (.ref cNoPaper)))
    {cNoRows : Addr} (xNoRows : PySem.W.nsIn K mainGlobals "NoRows" = some (some (.ref cNoRows)))
    {gI : Addr} {odgI angI : Option Addr} {slgI : Array (Option Value)} {ocgI kVgI dcgI pmgI cdgI ctgI : Value} (agI : PySem.W.findIn K (.ref cNoText) "__init__" = some (some (.ref gI))) (igI : PySem.W.typeIn K (.ref gI) = some (.type "function")) (lgI : K.lookup gI = some ⟨ocgI, odgI, .func (PySem.W.fnOf "__init__" "NoText.__init__" (defArgs sXI) (defBody sXI) (defScope sXI) .none kVgI dcgI pmgI angI cdgI ctgI), slgI⟩) (cgI : PySem.W.codeIn K cdgI "NoText.__init__" = true) (kgI : PySem.W.keepIn K (.ref gI) = true)
    {ddC : Option Addr} {nmC qnC : Str} {bsC subC : List Value} {nsC : Addr} {snC : List Str} {abC : Bool} {colC : Option Bool} {k0C k1C k2C k3C k5C : Option Value} {cdE : ClassData} (xlk : K.lookup cNoText = some ⟨.type "type", ddC, .cls ⟨nmC, bsC, .ref cNoText :: .ref cRowError :: vmVE, nsC, qnC, true, snC, subC, abC, colC, false⟩, #[k0C, k1C, k2C, k3C, some (.builtin "ValueError.__new__"), k5C]⟩) (xq : PySem.W.excIn K cRowError vmVE "ValueError.__new__" = true) (xrt : PySem.W.mroIn K cRowError (.type "object") = some true) (xsa : PySem.W.findIn K (.ref cNoText) "__setattr__" = some (some (.builtin "object.__setattr__"))) (xna : PySem.W.takerIn K cNoText "at" = some none) (xnt : PySem.W.findIn K (.ref cNoText) "at" = some none) (xhd : PySem.W.hasDictIn K cNoText = true) (xga : PySem.W.findIn K (.ref cNoText) "__getattribute__" = some (some (.builtin "BaseException.__getattribute__"))) (xgh : PySem.W.findIn K (.ref cNoText) "__getattr__" = some none) (xcl : PySem.W.findIn K (.ref cNoText) "__class__" = some (some (.builtin "object.__class__"))) (xgt : PySem.W.specialIn K (.builtin "object.__class__") "__get__" = some (some (.builtin "getset_descriptor.__get__"))) (xtk : PySem.W.takesIn K (.builtin "object.__class__") = some true) (xob : PySem.W.mroIn K cNoText (.type "object") = some true) (xbx : PySem.W.mroIn K cNoText (.type "BaseException") = some true) (xci : PySem.W.clsIn K cNoText = some cdE) (xsg : PySem.W.specialIn K (.ref cRowError) "__getattribute__" = some (some (.builtin "type.__getattribute__"))) (xrr : PySem.W.readsIn K cRowError (.type "type") = true) (xfi : PySem.W.findCls K (.ref cRowError) (.type "type") "__init__" = some (.val (.builtin "ValueError.__init__"))) (xkc : PySem.W.keepIn K (.ref cNoText) = true) (xexm : PySem.W.exmOne K (.ref cNoText) (.ref cRowError) = some true) (xown : PySem.W.kitOne K (.ref cNoText) (.ref cNoText) = some true) (xval : PySem.W.kitOne K (.ref cNoText) (.type "ValueError") = some true) (xoth : PySem.W.kitAny K (.ref cNoText) [.ref cNoLine, .ref cNoPaper, .ref cNoRows] = some false)
    : ∃ fd : FuncData, (∀ (s : Shared) (v : Value), BindsTo s fd ⟨[v], []⟩ [("_law_script", v)]) ∧ ∀ base : Heap, K.In base → base.Ns mainGlobals mg → FnOk l.prog w K mg base CX0 8 fa fd ["_law_script"] (spLaw (K := K)) := by
  have e := hfa.symm.trans (PySem.W.mg_of X G a24)
  cases e
  have F0 := fun_mk (st := s_is_whole) l0 c0 k0
  have b0 := F0.binds (ps := ["thing"]) fun _ _ _ _ _ _ us hl => match us, hl with | [_], _ => rfl
  have m0 := PySem.W.mg_of X G a0
  have F1 := fun_mk (st := s_is_number_of) l1 c1 k1
  have b1 := F1.binds (ps := ["kind", "thing"]) fun _ _ _ _ _ _ us hl => match us, hl with | [_, _], _ => rfl
  have m1 := PySem.W.mg_of X G a1
  have F2 := fun_mk (st := s_is_figures) l2 c2 k2
  have b2 := F2.binds (ps := ["text"]) fun _ _ _ _ _ _ us hl => match us, hl with | [_], _ => rfl
  have m2 := PySem.W.mg_of X G a2
  have F3 := fun_mk (st := s_read_number) l3 c3 k3
  have b3 := F3.binds (ps := ["text", "most_figures"]) fun _ _ _ _ _ _ us hl => match us, hl with | [_, _], _ => rfl
  have m3 := PySem.W.mg_of X G a3
  have F4 := fun_mk (st := s_read_number_of) l4 c4 k4
  have b4 := F4.binds (ps := ["kind", "word", "at"]) fun _ _ _ _ _ _ us hl => match us, hl with | [_, _, _], _ => rfl
  have m4 := PySem.W.mg_of X G a4
  have F5 := fun_mk (st := s_read_lead) l5 c5 k5
  have b5 := F5.binds (ps := ["word", "at"]) fun _ _ _ _ _ _ us hl => match us, hl with | [_, _], _ => rfl
  have m5 := PySem.W.mg_of X G a5
  have F6 := fun_mk (st := s_read_form) l6 c6 k6
  have b6 := F6.binds (ps := ["word", "at"]) fun _ _ _ _ _ _ us hl => match us, hl with | [_, _], _ => rfl
  have m6 := PySem.W.mg_of X G a6
  have F7 := fun_mk (st := s_read_boxes) l7 c7 k7
  have b7 := F7.binds (ps := ["word", "at"]) fun _ _ _ _ _ _ us hl => match us, hl with | [_, _], _ => rfl
  have m7 := PySem.W.mg_of X G a7
  have F8 := fun_mk (st := s_read_count) l8 c8 k8
  have b8 := F8.binds (ps := ["word", "at"]) fun _ _ _ _ _ _ us hl => match us, hl with | [_, _], _ => rfl
  have m8 := PySem.W.mg_of X G a8
  have F9 := fun_mk (st := s_read_things) l9 c9 k9
  have b9 := F9.binds (ps := ["line", "at"]) fun _ _ _ _ _ _ us hl => match us, hl with | [_, _], _ => rfl
  have m9 := PySem.W.mg_of X G a9
  have F10 := fun_mk (st := s_read_paper) l10 c10 k10
  have b10 := F10.binds (ps := ["text"]) fun _ _ _ _ _ _ us hl => match us, hl with | [_], _ => rfl
  have m10 := PySem.W.mg_of X G a10
  have F11 := fun_mk (st := s_law_cell_at) l11 c11 k11
  have b11 := F11.binds (ps := ["_law_script", "_law_k"]) fun _ _ _ _ _ _ us hl => match us, hl with | [_, _], _ => rfl
  have m11 := PySem.W.mg_of X G a11
  have F12 := fun_mk (st := s_law_draws) l12 c12 k12
  have b12 := F12.binds (ps := ["_law_cell", "_law_k", "_law_many"]) fun _ _ _ _ _ _ us hl => match us, hl with | [_, _, _], _ => rfl
  have m12 := PySem.W.mg_of X G a12
  have F13 := fun_mk (st := s_law_leads) l13 c13 k13
  have b13 := F13.binds (ps := ["_law_cell", "_law_k"]) fun _ _ _ _ _ _ us hl => match us, hl with | [_, _], _ => rfl
  have m13 := PySem.W.mg_of X G a13
  have F14 := fun_mk (st := s_law_boxes) l14 c14 k14
  have b14 := F14.binds (ps := ["_law_number_here"]) fun _ _ _ _ _ _ us hl => match us, hl with | [_], _ => rfl
  have m14 := PySem.W.mg_of X G a14
  have F15 := fun_mk (st := s_law_paper) l15 c15 k15
  have b15 := F15.binds (ps := ["_law_script", "_law_at"]) fun _ _ _ _ _ _ us hl => match us, hl with | [_, _], _ => rfl
  have m15 := PySem.W.mg_of X G a15
  have F16 := fun_mk (st := s_law_text) l16 c16 k16
  have b16 := F16.binds (ps := ["_law_paper_here"]) fun _ _ _ _ _ _ us hl => match us, hl with | [_], _ => rfl
  have m16 := PySem.W.mg_of X G a16
  have F17 := fun_mk (st := s_law_number) l17 c17 k17
  have b17 := F17.binds (ps := ["_law_word", "_law_most"]) fun _ _ _ _ _ _ us hl => match us, hl with | [_, _], _ => rfl
  have m17 := PySem.W.mg_of X G a17
  have F18 := fun_mk (st := s_law_thing) l18 c18 k18
  have b18 := F18.binds (ps := ["_law_row", "_law_word"]) fun _ _ _ _ _ _ us hl => match us, hl with | [_, _], _ => rfl
  have m18 := PySem.W.mg_of X G a18
  have F19 := fun_mk (st := s_law_due) l19 c19 k19
  have b19 := F19.binds (ps := ["_law_text_here"]) fun _ _ _ _ _ _ us hl => match us, hl with | [_], _ => rfl
  have m19 := PySem.W.mg_of X G a19
  have F20 := fun_mk (st := s_law_told) l20 c20 k20
  have b20 := F20.binds (ps := ["_law_thing_here"]) fun _ _ _ _ _ _ us hl => match us, hl with | [_], _ => rfl
  have m20 := PySem.W.mg_of X G a20
  have F21 := fun_mk (st := s_law_by_word) l21 c21 k21
  have b21 := F21.binds (ps := ["_law_rows", "_law_xs"]) fun _ _ _ _ _ _ us hl => match us, hl with | [_, _], _ => rfl
  have m21 := PySem.W.mg_of X G a21
  have F22 := fun_mk (st := s_law_by_row) l22 c22 k22
  have b22 := F22.binds (ps := ["_law_rows", "_law_xs"]) fun _ _ _ _ _ _ us hl => match us, hl with | [_, _], _ => rfl
  have m22 := PySem.W.mg_of X G a22
  have F23 := fun_mk (st := s_law_bent) l23 c23 k23
  have b23 := F23.binds (ps := ["_law_rows", "_law_xs", "_law_way"]) fun _ _ _ _ _ _ us hl => match us, hl with | [_, _, _], _ => rfl
  have m23 := PySem.W.mg_of X G a23
  have F24 := fun_mk (st := s_law) l24 c24 k24
  have T : Txt K w.params mg := ⟨⟨pBOUNDS, PySem.W.mg_of X G aBOUNDS, ⟨esBOUNDS, nBOUNDS, lBOUNDS, kBOUNDS, oBOUNDS⟩, ⟨qBOUNDS0, ⟨esBOUNDS, nBOUNDS, lBOUNDS, kBOUNDS, oBOUNDS, _, eBOUNDS0, rfl⟩, fun H => .inr ⟨_, _, _, lBOUNDS0, rfl, rfl, (by show 2 ≤ sizeLine; decide), .cons ⟨_, rfl⟩ (.cons ⟨_, rfl⟩ (.nil))⟩⟩,
      ⟨qBOUNDS1, ⟨esBOUNDS, nBOUNDS, lBOUNDS, kBOUNDS, oBOUNDS, _, eBOUNDS1, rfl⟩, fun H => .inr ⟨_, _, _, lBOUNDS1, rfl, rfl, (by show 2 ≤ sizeLine; decide), .cons ⟨_, rfl⟩ (.cons ⟨_, rfl⟩ (.nil))⟩⟩,
      ⟨qBOUNDS2, ⟨esBOUNDS, nBOUNDS, lBOUNDS, kBOUNDS, oBOUNDS, _, eBOUNDS2, rfl⟩, fun H => .inr ⟨_, _, _, lBOUNDS2, rfl, rfl, (by show 2 ≤ sizeLine; decide), .cons ⟨_, rfl⟩ (.cons ⟨_, rfl⟩ (.nil))⟩⟩,
      ⟨qBOUNDS3, ⟨esBOUNDS, nBOUNDS, lBOUNDS, kBOUNDS, oBOUNDS, _, eBOUNDS3, rfl⟩, fun H => .inr ⟨_, _, _, lBOUNDS3, rfl, rfl, (by show 2 ≤ sizeLine; decide), .cons ⟨_, rfl⟩ (.cons ⟨_, rfl⟩ (.nil))⟩⟩,
      ⟨qBOUNDS4, ⟨esBOUNDS, nBOUNDS, lBOUNDS, kBOUNDS, oBOUNDS, _, eBOUNDS4, rfl⟩, fun H => .inr ⟨_, _, _, lBOUNDS4, rfl, rfl, (by show 2 ≤ sizeLine; decide), .cons ⟨_, rfl⟩ (.cons ⟨_, rfl⟩ (.nil))⟩⟩,
      ⟨qBOUNDS5, ⟨esBOUNDS, nBOUNDS, lBOUNDS, kBOUNDS, oBOUNDS, _, eBOUNDS5, rfl⟩, fun H => .inr ⟨_, _, _, lBOUNDS5, rfl, rfl, (by show 2 ≤ sizeLine; decide), .cons ⟨_, rfl⟩ (.cons ⟨_, rfl⟩ (.nil))⟩⟩⟩,
    ⟨tFIGURES, PySem.W.mg_of X G aFIGURES⟩,
    ⟨pNAMES, PySem.W.mg_of X G aNAMES, fun H => .inr ⟨_, _, _, lNAMES, rfl, rfl, (by show 4 ≤ sizeLine; decide), .cons ⟨_, rfl⟩ (.cons ⟨_, rfl⟩ (.cons ⟨_, rfl⟩ (.cons ⟨_, rfl⟩ (.nil))))⟩⟩,
    ⟨tNOTHING, PySem.W.mg_of X G aNOTHING⟩,
    ⟨tMOST_FIGURES, PySem.W.mg_of X G aMOST_FIGURES⟩,
    ⟨pREADERS, PySem.W.mg_of X G aREADERS, ⟨esREADERS, nREADERS, lREADERS, kREADERS, oREADERS⟩, ⟨f5, PySem.W.mg_of X G a5, esREADERS, nREADERS, lREADERS, kREADERS, oREADERS, _, eREADERS0, rfl⟩,
      ⟨f6, PySem.W.mg_of X G a6, esREADERS, nREADERS, lREADERS, kREADERS, oREADERS, _, eREADERS1, rfl⟩,
      ⟨f7, PySem.W.mg_of X G a7, esREADERS, nREADERS, lREADERS, kREADERS, oREADERS, _, eREADERS2, rfl⟩,
      ⟨f8, PySem.W.mg_of X G a8, esREADERS, nREADERS, lREADERS, kREADERS, oREADERS, _, eREADERS3, rfl⟩⟩,
    PySem.W.mg_none_of X G z_len,
    PySem.W.mg_none_of X G z_list,
    PySem.W.mg_none_of X G z_tuple,
    PySem.W.mg_none_of X G z_int,
    PySem.W.mg_none_of X G z_bool,
    PySem.W.mg_none_of X G z_str,
    PySem.W.mg_none_of X G z_dict,
    PySem.W.mg_none_of X G z_isinstance,
    PySem.W.mg_none_of X G z_enumerate,
    PySem.W.mg_none_of X G z_range,
    PySem.W.mg_none_of X G z_min,
    PySem.W.mg_none_of X G z_max,
    PySem.W.mg_none_of X G z_all,
    PySem.W.mg_none_of X G z_sorted,
    PySem.W.mg_none_of X G z_set⟩
  refine ⟨PySem.W.fnOf "law" "law" (defArgs s_law) (defBody s_law) (defScope s_law) .none kV24 dc24 pm24 an24 cd24 ct24, fun s v => .of_eq rfl, fun base _ _ => ?_⟩
  have FI := fun_mk (st := sXI) lgI cgI kgI
  have bI := FI.binds (ps := ["self", "at"]) fun _ _ _ _ _ _ us hl => match us, hl with | [_, _], _ => rfl
  have CX : XIni K cNoText cRowError gI := ⟨⟨_, _, _, _, _, _, _, _, _, _, _, _, _, _, xlk⟩, agI, igI, ⟨xq⟩, xrt, xsa, xna, xnt, xhd, ⟨xga, xgh, xcl, xgt, xtk, xob, xbx, by rw [xci]; rfl⟩, xsg, xrr, xfi⟩
  have YX : Ys K mg cNoText cRowError cNoLine cNoPaper cNoRows gI := ⟨PySem.W.mg_of X G xNoText, PySem.W.mg_of X G xRowError, PySem.W.mg_of X G xNoLine, PySem.W.mg_of X G xNoPaper, PySem.W.mg_of X G xNoRows, PySem.W.mg_none_of X G z_ValueError, CX, xkc, xexm, xoth, xown, xval⟩
  have mRE := YX.mRowError
  have mNT := YX.mNoText
  have GI := ok_xi (P := l.prog) (w := w) (base := base) FI CX mRE
  have Gx_is_whole := ok_is_whole (P := l.prog) (w := w) (base := base) F0 T
  have Gx_is_number_of := ok_is_number_of (P := l.prog) (w := w) (base := base) F1 T Gx_is_whole F0.kp b0 m0
  have Gx_is_figures := ok_is_figures (P := l.prog) (w := w) (base := base) F2 T
  have Gx_read_number := ok_read_number (P := l.prog) (w := w) (base := base) F3 T Gx_is_figures F2.kp b2 m2
  have Gx_read_number_of := ok_read_number_of (P := l.prog) (w := w) (base := base) F4 T Gx_read_number F3.kp b3 m3 Gx_is_number_of F1.kp b1 m1 CX xkc GI bI mNT
  have Gx_read_lead := ok_read_lead (P := l.prog) (w := w) (base := base) F5 T Gx_read_number_of F4.kp b4 m4
  have Gx_read_form := ok_read_form (P := l.prog) (w := w) (base := base) F6 T Gx_read_number_of F4.kp b4 m4
  have Gx_read_count := ok_read_count (P := l.prog) (w := w) (base := base) F8 T Gx_read_number_of F4.kp b4 m4 CX xkc GI bI mNT
  have Gx_read_boxes := ok_read_boxes (P := l.prog) (w := w) (base := base) F7 T Gx_read_number_of F4.kp b4 m4 CX xkc GI bI mNT
  have Gx_read_things := ok_read_things (P := l.prog) (w := w) (base := base) F9 T Gx_read_lead F5.kp b5 m5 Gx_read_form F6.kp b6 m6 Gx_read_boxes F7.kp b7 m7 Gx_read_count F8.kp b8 m8 CX xkc GI bI mNT
  have Gx_read_paper := ok_read_paper (P := l.prog) (w := w) (base := base) F10 T Gx_read_things F9.kp b9 m9 CX xkc GI bI mNT
  have Gx__law_cell_at := ok_law_cell_at (P := l.prog) (w := w) (base := base) F11 T
  have Gx__law_draws := ok_law_draws (P := l.prog) (w := w) (base := base) F12 T
  have Gx__law_boxes := ok_law_boxes (P := l.prog) (w := w) (base := base) F14 T
  have Gx__law_leads := ok_law_leads (P := l.prog) (w := w) (base := base) F13 T Gx__law_draws F12.kp b12 m12
  have Gx__law_paper := ok_law_paper (P := l.prog) (w := w) (base := base) F15 T Gx__law_draws F12.kp b12 m12 Gx__law_cell_at F11.kp b11 m11 Gx__law_leads F13.kp b13 m13 Gx__law_boxes F14.kp b14 m14
  have Gx__law_text := ok_law_text (P := l.prog) (w := w) (base := base) F16 T
  have Gx__law_number := ok_law_number (P := l.prog) (w := w) (base := base) F17 T
  have Gx__law_thing := ok_law_thing (P := l.prog) (w := w) (base := base) F18 T Gx__law_number F17.kp b17 m17
  have Gx__law_due := ok_law_due (P := l.prog) (w := w) (base := base) F19 T Gx__law_thing F18.kp b18 m18
  have Gx__law_told := ok_law_told (P := l.prog) (w := w) (base := base) F20 T Gx_read_paper F10.kp b10 m10 YX
  have Gx__law_by_word := ok_law_by_word (P := l.prog) (w := w) (base := base) F21 T
  have Gx__law_by_row := ok_law_by_row (P := l.prog) (w := w) (base := base) F22 T
  have Gx__law_bent := ok_law_bent (P := l.prog) (w := w) (base := base) F23 T Gx__law_by_row F22.kp b22 m22 Gx__law_by_word F21.kp b21 m21
  exact ok_law F24 T Gx__law_text F16.kp b16 m16 Gx__law_paper F15.kp b15 m15 Gx__law_draws F12.kp b12 m12 Gx__law_cell_at F11.kp b11 m11 Gx__law_bent F23.kp b23 m23 Gx__law_told F20.kp b20 m20 Gx__law_due F19.kp b19 m19
theorem walk {l : PySem.W.OpenLaw} {q : Program} {loose : List Str} {XP : (Str → Option Value) → Heap → Prop} {YP : World → Heap → Prop} {d : DefRec} {K : Params → PySem.W.Frag} (hn : l.most = some 63) (hdf : d.params.defaults = [])
    (hY : ∀ (w : World) (h : Heap), YP w h → (K w.params).In h)
    (F : ∀ (w : World) (mg : Str → Option Value) (fa : Addr) (h : Heap), (K w.params).In h → h.Ns mainGlobals mg → mg d.name = some (.ref fa) →
      ∃ fd : FuncData, (∀ (s : Shared) (u : Value), BindsTo s fd ⟨[u], []⟩ [("_law_script", u)]) ∧ ∀ base : Heap, (K w.params).In base → base.Ns mainGlobals mg → FnOk l.prog w (K w.params) mg base CX0 8 fa fd ["_law_script"] (spLaw (K := K w.params))) :
    PySem.W.WalkO q loose XP YP l.row.toRowW d [] (fun f vs => PySem.call f vs) :=
  L2.walk_of (n := 63) (k := 8) (x := "_law_script") (CX := fun _ => CX0) (sp := fun w => spLaw (K := K w.params)) hn (by decide) hdf ⟨rfl, by decide, by decide⟩ hY F (fun _ _ a ns hl _ hS => ⟨a, ns, rfl, hS, hl, fun _ => rfl⟩) fun _ _ _ _ _ z => z
end My
open PySem PySem.W PyProof.Rows
set_option maxRecDepth 100000 in
set_option maxHeartbeats 0 in
theorem PySem.Challenge.cw_widenrows_k76_texts_of_no_paper_holds : PySem.Challenge.rw_widenrows_k76_texts_of_no_paper.Holds := by
  w_on; o_law; k_head; (case hw => w_witness2)
  k_fill
  refine My.walk (l := PySem.Challenge.rw_widenrows_k76_texts_of_no_paper) rfl rfl (fun w h Y => PySem.W.kIn_of Y) ?F
  case F =>
    intro w mg fa h KX G hmg
    refine' My.all_mk KX G hmg ?a0 ?l0 ?c0 ?k0 ?a1 ?l1 ?c1 ?k1 ?a2 ?l2 ?c2 ?k2 ?a3 ?l3 ?c3 ?k3 ?a4 ?l4 ?c4 ?k4 ?a5 ?l5 ?c5 ?k5 ?a6 ?l6 ?c6 ?k6 ?a7 ?l7 ?c7 ?k7 ?a8 ?l8 ?c8 ?k8 ?a9 ?l9 ?c9 ?k9 ?a10 ?l10 ?c10 ?k10 ?a11 ?l11 ?c11 ?k11 ?a12 ?l12 ?c12 ?k12 ?a13 ?l13 ?c13 ?k13 ?a14 ?l14 ?c14 ?k14 ?a15 ?l15 ?c15 ?k15 ?a16 ?l16 ?c16 ?k16 ?a17 ?l17 ?c17 ?k17 ?a18 ?l18 ?c18 ?k18 ?a19 ?l19 ?c19 ?k19 ?a20 ?l20 ?c20 ?k20 ?a21 ?l21 ?c21 ?k21 ?a22 ?l22 ?c22 ?k22 ?a23 ?l23 ?c23 ?k23 ?a24 ?l24 ?c24 ?k24 ?z_len ?z_list ?z_tuple ?z_int ?z_bool ?z_str ?z_dict ?z_isinstance ?z_enumerate ?z_range ?z_min ?z_max ?z_all ?z_sorted ?z_set ?z_ValueError ?aBOUNDS ?lBOUNDS ?kBOUNDS ?oBOUNDS ?eBOUNDS0 ?lBOUNDS0 ?eBOUNDS1 ?lBOUNDS1 ?eBOUNDS2 ?lBOUNDS2 ?eBOUNDS3 ?lBOUNDS3 ?eBOUNDS4 ?lBOUNDS4 ?eBOUNDS5 ?lBOUNDS5 ?aFIGURES ?aNAMES ?lNAMES ?aNOTHING ?aMOST_FIGURES ?aREADERS ?lREADERS ?kREADERS ?oREADERS ?eREADERS0 ?eREADERS1 ?eREADERS2 ?eREADERS3 ?xNoText ?xRowError ?xNoLine ?xNoPaper ?xNoRows ?agI ?igI ?lgI ?cgI ?kgI ?xlk ?xq ?xrt ?xsa ?xna ?xnt ?xhd ?xga ?xgh ?xcl ?xgt ?xtk ?xob ?xbx ?xci ?xsg ?xrr ?xfi ?xkc ?xexm ?xown ?xval ?xoth
    (case a0 => k_is)
    (case l0 => k_is)
    (case c0 => k_is)
    (case k0 => k_is)
    (case a1 => k_is)
    (case l1 => k_is)
    (case c1 => k_is)
    (case k1 => k_is)
    (case a2 => k_is)
    (case l2 => k_is)
    (case c2 => k_is)
    (case k2 => k_is)
    (case a3 => k_is)
    (case l3 => k_is)
    (case c3 => k_is)
    (case k3 => k_is)
    (case a4 => k_is)
    (case l4 => k_is)
    (case c4 => k_is)
    (case k4 => k_is)
    (case a5 => k_is)
    (case l5 => k_is)
    (case c5 => k_is)
    (case k5 => k_is)
    (case a6 => k_is)
    (case l6 => k_is)
    (case c6 => k_is)
    (case k6 => k_is)
    (case a7 => k_is)
    (case l7 => k_is)
    (case c7 => k_is)
    (case k7 => k_is)
    (case a8 => k_is)
    (case l8 => k_is)
    (case c8 => k_is)
    (case k8 => k_is)
    (case a9 => k_is)
    (case l9 => k_is)
    (case c9 => k_is)
    (case k9 => k_is)
    (case a10 => k_is)
    (case l10 => k_is)
    (case c10 => k_is)
    (case k10 => k_is)
    (case a11 => k_is)
    (case l11 => k_is)
    (case c11 => k_is)
    (case k11 => k_is)
    (case a12 => k_is)
    (case l12 => k_is)
    (case c12 => k_is)
    (case k12 => k_is)
    (case a13 => k_is)
    (case l13 => k_is)
    (case c13 => k_is)
    (case k13 => k_is)
    (case a14 => k_is)
    (case l14 => k_is)
    (case c14 => k_is)
    (case k14 => k_is)
    (case a15 => k_is)
    (case l15 => k_is)
    (case c15 => k_is)
    (case k15 => k_is)
    (case a16 => k_is)
    (case l16 => k_is)
    (case c16 => k_is)
    (case k16 => k_is)
    (case a17 => k_is)
    (case l17 => k_is)
    (case c17 => k_is)
    (case k17 => k_is)
    (case a18 => k_is)
    (case l18 => k_is)
    (case c18 => k_is)
    (case k18 => k_is)
    (case a19 => k_is)
    (case l19 => k_is)
    (case c19 => k_is)
    (case k19 => k_is)
    (case a20 => k_is)
    (case l20 => k_is)
    (case c20 => k_is)
    (case k20 => k_is)
    (case a21 => k_is)
    (case l21 => k_is)
    (case c21 => k_is)
    (case k21 => k_is)
    (case a22 => k_is)
    (case l22 => k_is)
    (case c22 => k_is)
    (case k22 => k_is)
    (case a23 => k_is)
    (case l23 => k_is)
    (case c23 => k_is)
    (case k23 => k_is)
    (case a24 => k_is)
    (case l24 => k_is)
    (case c24 => k_is)
    (case k24 => k_is)
    (case z_len => k_is)
    (case z_list => k_is)
    (case z_tuple => k_is)
    (case z_int => k_is)
    (case z_bool => k_is)
    (case z_str => k_is)
    (case z_dict => k_is)
    (case z_isinstance => k_is)
    (case z_enumerate => k_is)
    (case z_range => k_is)
    (case z_min => k_is)
    (case z_max => k_is)
    (case z_all => k_is)
    (case z_sorted => k_is)
    (case z_set => k_is)
    (case z_ValueError => k_is)
    (case aBOUNDS => k_is)
    (case lBOUNDS => k_is)
    (case kBOUNDS => k_keys)
    (case oBOUNDS => first | exact rfl | decide | k_is)
    (case eBOUNDS0 => k_is)
    (case lBOUNDS0 => k_is)
    (case eBOUNDS1 => k_is)
    (case lBOUNDS1 => k_is)
    (case eBOUNDS2 => k_is)
    (case lBOUNDS2 => k_is)
    (case eBOUNDS3 => k_is)
    (case lBOUNDS3 => k_is)
    (case eBOUNDS4 => k_is)
    (case lBOUNDS4 => k_is)
    (case eBOUNDS5 => k_is)
    (case lBOUNDS5 => k_is)
    (case aFIGURES => k_is)
    (case aNAMES => k_is)
    (case lNAMES => k_is)
    (case aNOTHING => k_is)
    (case aMOST_FIGURES => k_is)
    (case aREADERS => k_is)
    (case lREADERS => k_is)
    (case kREADERS => k_keys)
    (case oREADERS => first | exact rfl | decide | k_is)
    (case eREADERS0 => k_is)
    (case eREADERS1 => k_is)
    (case eREADERS2 => k_is)
    (case eREADERS3 => k_is)
    (case xNoText => k_is)
    (case xRowError => k_is)
    (case xNoLine => k_is)
    (case xNoPaper => k_is)
    (case xNoRows => k_is)
    (case agI => k_is)
    (case igI => k_is)
    (case lgI => k_is)
    (case cgI => k_is)
    (case kgI => k_is)
    (case xlk => k_is)
    (case xq => k_exc)
    (case xrt => k_is)
    (case xsa => k_is)
    (case xna => k_is)
    (case xnt => k_is)
    (case xhd => k_is)
    (case xga => k_is)
    (case xgh => k_is)
    (case xcl => k_is)
    (case xgt => k_is)
    (case xtk => k_is)
    (case xob => k_is)
    (case xbx => k_is)
    (case xci => k_is)
    (case xsg => k_is)
    (case xrr => k_is)
    (case xfi => k_is)
    (case xkc => k_is)
    (case xexm => kts_exm)
    (case xown => kit_is)
    (case xval => kit_is)
    (case xoth => kit_is)
#print axioms PySem.Challenge.cw_widenrows_k76_texts_of_no_paper_holds

